/-
  The document's own writer, on: Block.
-/
import Derived.Test.YtkgkgagnpmhoiaaZa
namespace Go.Proofs.Ytkgkgagnpmhoiaa
open Go.RowKit

theorem drew_below (w : World) : Below w.heap.size w w.drew := ⟨rfl, rfl, rfl, Nat.le_refl _, fun _ _ => rfl⟩
/-- What is laid ahead of an append of digits. -/
theorem digs_src {w : World} {n : Int} {k B : Nat} {A : Option Addr} {c : Nat} (h : w.ownsRow B 5 1 (.slice A k c) k (cells (digs n k))) (hk : 0 < k) : ∃ gd, A = some ⟨gd, 0, none⟩ ∧ ∀ j u, (cells (digs n k))[j]? = some u → w.cell? ((⟨gd, 0, none⟩ : Addr).add j) = some u := by
  obtain ⟨gd, cap, hv, _⟩ := h.form hk
  injection hv with hv
  subst hv
  exact ⟨gd, rfl, h.cells (g := gd) rfl⟩

set_option maxHeartbeats 1000000 in
theorem vblock_ok (B g : Nat) (A : Option Addr) (c : Nat) (bs : List UInt8) (Ax : Option Addr) (n cx : Nat) (l : List UInt8) (w : World) (h : Wm w B g 0 A c bs) (hx : Src w (fun k => k ≠ g ∧ row A ≠ some k) Ax n cx (cells l))
    (hle : n ≤ 1048576) (hn : bs.length + 8 + n ≤ 140737488355328) :
    Calls Try.prog 37 #[.pointer (some ⟨g, 0, none⟩), .slice Ax n cx] w (WroteM w B g A 0 (bs ++ digs n 4 ++ l)) := by
  obtain ⟨i0, hi, hz0, hz1, hz2⟩ := info_parts Try.info_byte
  obtain rfl : n = l.length := by have := hx.len; simpa [cells_len] using this.symm
  have h1 := cells_one (digs l.length 4)
  have h1l := cells_one l
  have hc0 : w.cell? ⟨g, 1, none⟩ = some (.int .i64 0) := cell_of_row w g 1 _ _ _ h.blk
  have hc1 : w.cell? ⟨g, 0, none⟩ = some (.slice A bs.length c) := cell_of_row w g 0 _ _ _ h.blk
  have hcap := h.own
  have HD := Lib.hid (digits_any 4 l.length w.drew (by omega))
  have H := Lib.hid h.drew
  have H0 := Lib.hid h
  have HX := Lib.hid hx
  clear h hx hcap
  go_enter Try.func37, Try.ntmps37
  go_wp2_with fail
  go_region_law (first
    | (go_simp; go_at_call 55; refine HD.out.mono ?_; rintro en w3 ⟨A4, c4, rfl, hown4, hb4⟩; obtain ⟨gd, rfl, hnews⟩ := digs_src hown4 (by omega); have hw3 := H.out.below hb4; have hcb : w3.cell? ⟨g, 0, none⟩ = some (.slice A bs.length c) := cell_of_row w3 g 0 _ _ _ hw3.blk; have HW3 := Lib.hid hw3; have HN := Lib.hid hnews; have HB4 := Lib.hid hb4; clear hown4 hnews hw3 hb4)
    | (refine step_append_lies _ rfl (.tmp 19) (.tmp 22) 27 rfl B 5 i0 (.int .u8 0) 1 1 Try.underlying27 hi hz0 hz1 hz2 rfl (by decide) (.slice A bs.length c) bs.length (cells bs) rfl HW3.out.own ⟨gd, 0, none⟩ 4 c4 (cells (digs l.length 4)) rfl (by rw [cells_len, digs_len]) HN.out h1 (by omega) (by simp only [maxLen]; omega) (by omega) HW3.out.base w3.heap.size rfl ?_; intro g5 c5 w5 hown hgr hat hlt; obtain ⟨q1, q2⟩ := HW3.out.grownCell hgr _ rfl))
  all_goals
    obtain ⟨hw6, hst6⟩ := HW3.out.put _ rfl 4 (digs_len _ _) hown hgr (atRow' hat)
    generalize w5.setCell ⟨g, 0, none⟩ (.slice (some ⟨g5, 0, none⟩) (bs.length + 4) c5) = w6 at *
    have hst := ((Step.below (g := g) (drew_below w) (row A)).trans (Step.below HB4.out (row A))).trans hst6
    have hx6 := HX.out.step hst
    have e4 : (bs ++ digs l.length 4).length = bs.length + 4 := by rw [List.length_append, digs_len]
    have h60 := hw6.cell0
    rw [e4] at h60
    have HW6 := Lib.hid hw6
    have HST := Lib.hid hst
    have HX6 := Lib.hid hx6
    have HO6 := Lib.hid hw6.own
    rw [e4] at HO6
    have E4 := Lib.hid e4
    have hbs := HW6.out.base
    clear hown hgr hat hlt q1 q2 hw6 hst6 hst hx6 hcb hc0 hc1 e4
    go_wp2_with (at_builtin; refine wpList_append_src rfl (.tmp 30) (.tmp 31) _ rfl B 5 i0 _ 1 Try.underlying27 hi hz0 hz1 hz2 rfl (.slice (some ⟨g5, 0, none⟩) (bs.length + 4) c5) (bs.length + 4) (cells (bs ++ digs l.length 4)) rfl HO6.out _ _ l.length cx (cells l) rfl HX6.out h1l (by simp only [maxLen]; omega) (by omega) hbs ?_; intro v' w7 hown hg hat; obtain ⟨A', c', rfl⟩ := own_slice hown; have hat := atRow hat; obtain ⟨g1, g2⟩ := HW6.out.grownCell hg _ E4.out)
    go_end0
    obtain ⟨hw8, hs8⟩ := HW6.out.put _ E4.out _ rfl hown hg hat
    exact ⟨rfl, A', c', hw8, HST.out.trans hs8⟩

set_option maxHeartbeats 400000 in
theorem vblock_any (B g : Nat) (s : St) (A : Option Addr) (c : Nat) (Ax : Option Addr) (n cx : Nat) (l : List UInt8) (w : World) (h : Wm w B g s.1 A c s.2) (hx : Src w (fun k => k ≠ g ∧ row A ≠ some k) Ax n cx (cells l))
    (hn : s.2.length + 8 + n ≤ 140737488355328) :
    Calls Try.prog 37 #[.pointer (some ⟨g, 0, none⟩), .slice Ax n cx] w (WroteM w B g A (wMeas 4 1048576 l s).1 (wMeas 4 1048576 l s).2) := by
  obtain ⟨e, bs⟩ := s
  have hl : l.length = n := by have := hx.len; simpa [cells_len] using this
  by_cases he : e = 0
  · subst he
    by_cases hle : n ≤ 1048576
    · have e1 : wMeas 4 1048576 l (0, bs) = (0, bs ++ digs n 4 ++ l) := by
        unfold wMeas
        rw [if_pos rfl, if_pos (by omega), hl]
      rw [e1]
      exact vblock_ok B g A c bs Ax n cx l w h hx hle hn
    · have e1 : wMeas 4 1048576 l (0, bs) = (2, bs) := by
        unfold wMeas
        rw [if_pos rfl, if_neg (by omega)]
      rw [e1]
      have h0 := h.cell0
      have h1 := h.cell1
      have h2 := h.soft 1
      have H := Lib.hid h
      clear h hx e1 hl hn
      go_enter Try.func37, Try.ntmps37
      go_wp2
      refine bodyPost_ret (results_none rfl _ _ _) rfl ?_
      exact ⟨rfl, H.out.fail 2⟩
  · have e1 : wMeas 4 1048576 l (e, bs) = (e, bs) := by unfold wMeas; rw [if_neg he]
    rw [e1]
    have h1 := h.cell1
    have hb : (e == 0) = false := by simpa using he
    have H := Lib.hid h
    clear h hx e1 hl hn he
    go_enter Try.func37, Try.ntmps37
    go_wp2
    refine bodyPost_ret (results_none rfl _ _ _) rfl ?_
    exact ⟨rfl, A, c, H.out, Step.refl _ _ _⟩
end Go.Proofs.Ytkgkgagnpmhoiaa
