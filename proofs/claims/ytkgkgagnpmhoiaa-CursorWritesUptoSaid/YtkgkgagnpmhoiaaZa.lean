/-
  The document's own writer, on: Raw, Bytes, Block.
-/
import Derived.Test.YtkgkgagnpmhoiaaZ
namespace Go.Proofs.Ytkgkgagnpmhoiaa
open Go.RowKit

theorem atRow {A A' : Option Addr} {n c n' c' : Nat} {H : Nat} (hat : (Value.slice A' n' c').ownBlock = (Value.slice A n c).ownBlock ∨ (Value.slice A' n' c').ownBlock = some H) : row A' = row A ∨ ∃ k, H ≤ k ∧ row A' = some k := by
  rw [row_own, row_own] at hat
  rcases hat with e | e
  · exact .inl e
  · exact .inr ⟨H, Nat.le_refl _, e⟩

theorem atRow' {A : Option Addr} {n c g H : Nat} (hat : (Value.slice A n c).ownBlock = some g ∨ g = H) : row (some ⟨g, 0, none⟩) = row A ∨ ∃ k, H ≤ k ∧ row (some ⟨g, 0, none⟩) = some k := by
  rw [row_own] at hat
  rcases hat with e | rfl
  · exact .inl e.symm
  · exact .inr ⟨g, Nat.le_refl _, rfl⟩
theorem Wm.grownCell {w w1 : World} {B g : Nat} {e : Int} {A : Option Addr} {c : Nat} {bs : List UInt8} (h : Wm w B g e A c bs) {n' c' : Nat} (hg : w.grownBy w1 (Value.slice A n' c').ownBlock) (m : Nat) (hm : bs.length = m) :
    w1.cell? ⟨g, 0, none⟩ = some (.slice A m c) ∧ w1.frozen? ⟨g, 0, none⟩ = false := by
  subst hm
  rw [row_own] at hg
  have hb := (hg.block g h.lt (fun e => h.ne e.symm)).trans h.blk
  exact ⟨cell_of_row _ _ 0 _ _ _ hb, frozen_of_row _ _ 0 _ _ hb⟩
set_option maxHeartbeats 400000 in
theorem vraw_ok (B g : Nat) (A : Option Addr) (c : Nat) (bs : List UInt8) (P : Nat → Prop) (Ax : Option Addr) (n cx : Nat) (l : List UInt8) (w : World) (h : Wm w B g 0 A c bs) (hx : Src w P Ax n cx (cells l))
    (hn : bs.length + n ≤ 140737488355328) :
    Calls Try.prog 38 #[.pointer (some ⟨g, 0, none⟩), .slice Ax n cx] w (WroteM w B g A 0 (bs ++ l)) := by
  obtain ⟨i0, hi, hz0, hz1, hz2⟩ := info_parts Try.info_byte
  obtain rfl : n = l.length := by have := hx.len; simpa [cells_len] using this.symm
  have h1 := cells_one l
  have hc0 : w.cell? ⟨g, 1, none⟩ = some (.int .i64 0) := cell_of_row w g 1 _ _ _ h.blk
  have hc1 : w.cell? ⟨g, 0, none⟩ = some (.slice A bs.length c) := cell_of_row w g 0 _ _ _ h.blk
  have m1 : bs.length + l.length ≤ maxLen := by simp only [maxLen]; omega
  have m2 : (bs.length + l.length) * 1 ≤ 140737488355328 := by omega
  have H := Lib.hid h
  have HX := Lib.hid hx
  clear h hx
  go_enter Try.func38, Try.ntmps38
  go_wp2_with (at_builtin; refine wpList_append_src rfl (.tmp 13) (.tmp 14) _ rfl B 5 i0 _ 1 Try.underlying27 hi hz0 hz1 hz2 rfl (.slice A bs.length c) bs.length (cells bs) rfl H.out.own _ _ l.length cx (cells l) rfl HX.out h1 m1 m2 H.out.base ?_; intro v' w1 hown hg hat; obtain ⟨A', c', rfl⟩ := own_slice hown; have hat := atRow hat; obtain ⟨g1, g2⟩ := H.out.grownCell hg _ rfl)
  go_end0
  exact ⟨rfl, A', c', H.out.put _ rfl _ rfl hown hg hat⟩

theorem vraw_err (g : Nat) (cs : Array Value) (t : TypeId) (e : Int) (x : Value) (w : World) (h : w.heap[g]? = some (.cells cs t (0, 0))) (h0 : cs[1]? = some (.int .i64 e)) (he : e ≠ 0) :
    Calls Try.prog 38 #[.pointer (some ⟨g, 0, none⟩), x] w fun en w' => en = .returned (.tuple #[]) ∧ w = w' := by
  have hc : w.cell? ⟨g, 1, none⟩ = some (.int .i64 e) := (cell_of_row w g 1 cs t (0, 0) h).trans h0
  have hb : (e == 0) = false := by simpa using he
  clear h h0 he
  go_enter Try.func38, Try.ntmps38
  go_wp2
  go_end0
  exact ⟨rfl, rfl⟩

theorem vraw_any (B g : Nat) (s : St) (A : Option Addr) (c : Nat) (P : Nat → Prop) (Ax : Option Addr) (n cx : Nat) (l : List UInt8) (w : World) (h : Wm w B g s.1 A c s.2) (hx : Src w P Ax n cx (cells l))
    (hn : s.2.length + n ≤ 140737488355328) :
    Calls Try.prog 38 #[.pointer (some ⟨g, 0, none⟩), .slice Ax n cx] w (WroteM w B g A s.1 (putIf s.1 s.2 l)) := by
  obtain ⟨e, bs⟩ := s
  by_cases he : e = 0
  · subst he
    exact vraw_ok B g A c bs P Ax n cx l w h hx hn
  · refine (vraw_err g _ _ e _ w h.blk rfl he).mono ?_
    rintro en w' ⟨rfl, rfl⟩
    refine ⟨rfl, A, c, ?_, Step.refl _ _ _⟩
    rw [putIf, if_neg he]
    exact h

/-- What the document's Bytes hands back. -/
def GaveM (w : World) (A : Option Addr) (c : Nat) (s : St) (en : Ending) (w' : World) : Prop :=
  (if s.1 = 0 then en = .returned (.tuple #[.slice A s.2.length c, .int .i64 0]) else en = .returned (.tuple #[.slice none 0 0, .int .i64 s.1])) ∧ ∃ m, w' = w.drewN m

theorem vbytes_any (B g : Nat) (s : St) (A : Option Addr) (c : Nat) (w : World) (h : Wm w B g s.1 A c s.2) :
    Calls Try.prog 18 #[.pointer (some ⟨g, 0, none⟩)] w (GaveM w A c s) := by
  obtain ⟨e, bs⟩ := s
  have hc0 : w.cell? ⟨g, 1, none⟩ = some (.int .i64 e) := cell_of_row w g 1 _ _ _ h.blk
  have hc1 : w.cell? ⟨g, 0, none⟩ = some (.slice A bs.length c) := cell_of_row w g 0 _ _ _ h.blk
  clear h
  by_cases he : e = 0
  · subst he
    go_enter Try.func18, Try.ntmps18
    go_wp2
    go_ret2
    exact ⟨rfl, 0, rfl⟩
  · have hb : (e == 0) = false := by simpa using he
    have HE := Lib.hid he
    clear he
    go_enter Try.func18, Try.ntmps18
    go_wp2
    go_quiet (fail)
    go_wp2
    go_ret2
    refine ⟨?_, _, rfl⟩
    rw [if_neg HE.out]
    rfl
end Go.Proofs.Ytkgkgagnpmhoiaa
