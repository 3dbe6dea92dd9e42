/-
  The laws' helpers Lent and Back: bytes in a list of their own with marks behind them, looked at and written over.
-/
import Derived.Test.YtoebboimdkogpaaDoorS
import Derived.Laws.CopyOwn
namespace Go.Proofs.YtoebboimdkogpaaDoor
open Go.RowKit

theorem grown_set (w : World) (g i : Nat) (u : Value) : w.grownBy (w.setCell ⟨g, i, none⟩ u) (some g) :=
  ⟨rfl, rfl, rfl, by simp [World.setCell], fun k _ hne => heap_setCell_other _ _ _ _ (fun e => hne (by rw [show k = g from e]))⟩
theorem Tryd.info_byte : (Tryd.prog.info? 5).map (fun i => (i.zero, i.size, i.bytes)) = some (some (.int .u8 0), 1, 1) := by kernel_rfl
def marks (k : Nat) : List Value := List.replicate k (.int .u8 201)
theorem Tryd.one_byte : (Tryd.prog.info? 5).map (·.size) = some 1 := by kernel_rfl
/-- The cells of lent bytes. -/
def lentCells (l : List UInt8) : List Value := cells l ++ marks 3
def LentAt (w : World) (l : List UInt8) (en : Ending) (w' : World) : Prop :=
  ∃ g, en = .returned (.slice (some ⟨g, 0, none⟩) l.length (l.length + 3)) ∧ w'.heap[g]? = some (.cells (lentCells l).toArray 5 (0, 0)) ∧ Below w.heap.size w w' ∧ w.heap.size ≤ g

theorem set_mid (a : List Value) (x v : Value) (b : List Value) : (a ++ x :: b).toArray.setIfInBounds a.length v = (a ++ v :: b).toArray := by
  apply Array.ext'
  simp

theorem own_cellsB {w : World} {B n g c : Nat} {xs : List Value} (h : w.ownsRow B 5 1 (.slice (some ⟨g, 0, none⟩) n c) n xs) : ∃ cur : List Value, w.heap[g]? = some (.cells cur.toArray 5 (0, 0)) ∧ cur.length = c := by
  rcases h.2 with ⟨h1, _⟩ | ⟨g', cap, cur, hv, _, hh, _, _, hs, _⟩
  · cases h1
  · injection hv with h1 _ h3
    injection h1 with h1
    injection h1 with h1
    subst h1 h3
    exact ⟨cur.toList, by simpa using hh, by simpa using hs⟩
theorem below_of_grown {w w' : World} (h : w.grownBy w' none) : Below w.heap.size w w' := ⟨h.os, h.tape, h.output, h.size, fun k hk => h.block k hk (by intro e; cases e)⟩

theorem src_pos {w w1 : World} {P : Nat → Prop} {A : Option Addr} {n c g : Nat} {xs : List Value} (h : Src w P A n c xs) (hg : w.grownBy w1 none) (h0 : 0 < xs.length) :
    some (⟨g, 0, none⟩ : Addr) = some ⟨g, 0, none⟩ ∧ ∃ ad, A = some ad ∧ ∀ j v, xs[j]? = some v → w1.cell? (ad.add j) = some v := by
  refine ⟨rfl, ?_⟩
  cases A with
  | none => have := (h.nil rfl).1; have := h.len; omega
  | some ad => exact ⟨ad, rfl, (h.keep (w' := w1) fun k _ hk => hg.block k hk (by intro e; cases e)).at_ ad rfl⟩

set_option maxRecDepth 100000 in
set_option maxHeartbeats 1000000 in
theorem lent_any (P : Nat → Prop) (A : Option Addr) (n c : Nat) (l : List UInt8) (w : World) (h : Src w P A n c (cells l)) (hn : n ≤ 140737488351232) :
    Calls Tryd.prog 19 #[.slice A n c] w (LentAt w l) := by
  have hl : l.length = n := by have := h.len; simpa [cells_len] using this
  subst hl
  obtain ⟨i0, hi, hz0, hz1, hz2⟩ := info_parts Tryd.info_byte
  have m1 : i0.bytes * (l.length + 3) ≤ 281474976710656 := by rw [hz2]; omega
  have m2 : l.length + 3 ≤ maxLen := by simp only [maxLen]; omega
  have ho := cells_one l
  have HX := Lib.hid h
  clear h
  go_enter Tryd.func19, Tryd.ntmps19
  go_wp2_with (first
    | (refine wpList_make_full _ rfl (.tmp 7) (.tmp 7) 24 rfl w.heap.size 5 i0 (.int .u8 0) 1 Tryd.underlying24 hi hz0 hz1 .i64 .i64 _ _ (l.length + 3) rfl rfl (by simp) (by simp) m1 m2 (Nat.le_refl _) ?_; intro w1 hown hg1; obtain ⟨cur, hcur, hcl⟩ := own_cellsB hown; have HG1 := Lib.hid hg1; have HCU := Lib.hid hcur; have HCL := Lib.hid hcl; clear hown hg1 hcur hcl)
    | (refine wpList_copy_splice rfl (.tmp 9) (.tmp 10) 24 24 rfl 5 Tryd.underlying24 Tryd.one_byte _ _ (l.length + 3) (l.length + 3) l.length c rfl rfl w.heap.size 0 cur 5 HCU.out (cells l) (by rw [cells_len]; show _ = min l.length (l.length + 3); omega) (fun h0 => src_pos HX.out HG1.out h0) (by rw [cells_len, HCL.out]; omega) ho w.heap.size w (below_of_grown HG1.out) (Nat.le_refl _) ?_; intro w2 hh2 hb2; have HB2 := Lib.hid hb2; clear hb2))
  have hs : splice cur 0 (cells l) = cells l ++ cur.drop l.length := by simp [splice, cells_len]
  rw [hs] at hh2
  have hdl : (cur.drop l.length).length = 3 := by rw [List.length_drop, HCL.out]; omega
  generalize cur.drop l.length = tl0 at *
  have HD := Lib.hid hdl
  have HH2 := Lib.hid hh2
  clear hh2 hs hdl
  go_loopw [4] (fun i wr => ∃ (k : Nat) (tl : List Value), k ≤ 3 ∧ tl.length = 3 - k ∧ i = .int .i64 (l.length + k : Nat) ∧ wr.heap[w.heap.size]? = some (.cells (cells l ++ (marks k ++ tl)).toArray 5 (0, 0)) ∧ Below w.heap.size w wr) (fun i _ => l.length + 3 - (intOf i).toNat)
  case atStart => exact ⟨0, tl0, by omega, HD.out, rfl, HH2.out.out, HB2.out⟩
  case round =>
    obtain ⟨k, tl, hk, htl, rfl, hh, hb⟩ := hrel
    have HB := Lib.hid hb
    by_cases hlt : k < 3
    · obtain ⟨x, tl', rfl⟩ : ∃ x tl', tl = x :: tl' := by
        cases tl with
        | nil => simp at htl; omega
        | cons x tl' => exact ⟨x, tl', rfl⟩
      have hc : wr.cell? ⟨w.heap.size, l.length + k, none⟩ = some x := by
        rw [cell_of_row wr w.heap.size (l.length + k) _ _ _ hh]
        simp [marks, cells_len]
      have hf : wr.frozen? ⟨w.heap.size, l.length + k, none⟩ = false := frozen_of_row wr w.heap.size (l.length + k) _ _ hh
      have hset := heap_setCell_same wr w.heap.size (l.length + k) _ _ (.int .u8 201) hh
      have e1 : (cells l ++ (marks k ++ x :: tl')).toArray.setIfInBounds (l.length + k) (.int .u8 201) = (cells l ++ (marks (k + 1) ++ tl')).toArray := by
        have e2 : cells l ++ (marks k ++ x :: tl') = (cells l ++ marks k) ++ x :: tl' := by simp
        have e3 : (cells l ++ marks k).length = l.length + k := by simp [cells_len, marks]
        rw [e2, ← e3, set_mid]
        simp [marks, List.replicate_succ', List.append_assoc]
      rw [e1] at hset
      have HS := Lib.hid hset
      have HT := Lib.hid htl
      clear hb hh hset e1 htl
      go_wp2
      have ht := HT.out
      exact ⟨⟨k + 1, tl', by omega, by simp at ht; omega, by rw [show ((l.length : Int) + (k : Int) + 1) = ((l.length + (k + 1) : Nat) : Int) from by omega], HS.out, HB.out.setCell (Nat.le_refl _) _⟩, by simp [intOf]; omega⟩
    · obtain rfl : k = 3 := by omega
      have : tl = [] := List.eq_nil_of_length_eq_zero (by omega)
      subst this
      rw [List.append_nil] at hh
      have HH := Lib.hid hh
      clear hh hb htl
      go_wp2
      go_ret
      exact ⟨w.heap.size, rfl, HH.out, HB.out, Nat.le_refl _⟩

theorem lent_at (l : List UInt8) (k : Nat) (h : k < l.length + 3) : ∃ x : Int, (lentCells l)[k]? = some (.int .u8 x) ∧ (k < l.length → (cells l)[k]? = some (.int .u8 x)) ∧ (l.length ≤ k → x = 201) := by
  by_cases hk : k < l.length
  · refine ⟨(l[k].toNat : Int), ?_, fun _ => by simp [cells, hk], fun h => by omega⟩
    unfold lentCells
    rw [List.getElem?_append_left (by rw [cells_len]; exact hk)]
    simp [cells, hk]
  · refine ⟨201, ?_, fun h => by omega, fun _ => rfl⟩
    unfold lentCells
    rw [List.getElem?_append_right (by rw [cells_len]; omega), cells_len]
    unfold marks
    rw [List.getElem?_replicate, if_pos (by omega)]

set_option maxRecDepth 100000 in
set_option maxHeartbeats 2000000 in
/-- Back: lent bytes that are as they were. -/
theorem back_any' (P : Nat → Prop) (g : Nat) (A : Option Addr) (n c : Nat) (l : List UInt8) (w : World) (h : Src w P A n c (cells l)) (hg : w.heap[g]? = some (.cells (lentCells l).toArray 5 (0, 0))) (hP : ¬ P g) (hn : n ≤ 140737488351232) :
    Calls Tryd.prog 21 #[.slice (some ⟨g, 0, none⟩) n (n + 3), .slice A n c] w fun en w' => en = .returned (.bool true) ∧ w.grownBy w' (some g) := by
  have hl : l.length = n := by have := h.len; simpa [cells_len] using this
  subst hl
  have HX := Lib.hid h
  have HG := Lib.hid hg
  have HP := Lib.hid hP
  have hcap := h.cap
  clear h hg hP
  go_enter Tryd.func21, Tryd.ntmps21
  go_wp2_with fail
  go_loopw [6, 7, 8] (fun ok i _ wr => ∃ (k : Nat) (pre : List Value), k ≤ l.length + 3 ∧ pre.length = k ∧ i = .int .i64 k ∧ ok = .bool true ∧ wr.heap[g]? = some (.cells (pre ++ (lentCells l).drop k).toArray 5 (0, 0)) ∧ w.grownBy wr (some g)) (fun _ i _ _ => l.length + 3 - (intOf i).toNat)
  case atStart => exact ⟨0, [], by omega, rfl, rfl, rfl, HG.out, World.grownBy.refl _ _⟩
  case round =>
    obtain ⟨k, pre, hk, hpl, rfl, rfl, hh, hgr⟩ := hrel
    by_cases hlt : k < l.length + 3
    · obtain ⟨x, hx1, hx2, hx3⟩ := lent_at l k hlt
      have hxl : k < (lentCells l).length := by simp [lentCells, cells_len, marks]; omega
      have hdr : (lentCells l).drop k = .int .u8 x :: (lentCells l).drop (k + 1) := by
        rw [List.drop_eq_getElem_cons hxl]
        congr 1
        rw [List.getElem?_eq_getElem hxl] at hx1
        injection hx1
      rw [hdr] at hh
      have hc : wr.cell? ⟨g, k, none⟩ = some (.int .u8 x) := by
        rw [cell_of_row wr g k _ _ _ hh]
        simp [← hpl]
      have hf : wr.frozen? ⟨g, k, none⟩ = false := frozen_of_row wr g k _ _ hh
      have hset : ∀ v, (wr.setCell ⟨g, k, none⟩ v).heap[g]? = some (.cells ((pre ++ [v]) ++ (lentCells l).drop (k + 1)).toArray 5 (0, 0)) := by
        intro v
        have h1 := heap_setCell_same wr g k _ _ v hh
        rw [h1]
        subst hpl
        rw [set_mid]
        simp
      have HS := Lib.hid hset
      have HPL := Lib.hid hpl
      have HGR := Lib.hid hgr
      by_cases hin : k < l.length
      · obtain ⟨ad, rfl⟩ : ∃ ad, A = some ad := by
          cases A with
          | none => have := (HX.out.nil rfl).1; omega
          | some ad => exact ⟨ad, rfl⟩
        have hb : wr.cell? (ad.add k) = some (.int .u8 x) := (HX.out.keep (w' := wr) fun j hj hjl => hgr.block j hjl (fun e => HP.out (by injection e with e; rw [← e]; exact hj))).at_ ad rfl k _ (hx2 hin)
        clear hx1 hx2 hx3 hh hset hpl hgr hdr hxl
        go_wp2
        exact ⟨⟨k + 1, pre ++ [.int .u8 (bits .xor .u8 x 33)], by omega, by rw [List.length_append, HPL.out]; rfl, by go_num, rfl, HS.out _, HGR.out.trans (grown_set _ _ _ _)⟩, by simp [intOf]; omega⟩
      · have hx : x = 201 := hx3 (by omega)
        subst hx
        clear hx1 hx2 hx3 hh hset hpl hgr hdr hxl
        go_wp2
        exact ⟨⟨k + 1, pre ++ [.int .u8 (bits .xor .u8 201 33)], by omega, by rw [List.length_append, HPL.out]; rfl, by go_num, rfl, HS.out _, HGR.out.trans (grown_set _ _ _ _)⟩, by simp [intOf]; omega⟩
    · obtain rfl : k = l.length + 3 := by omega
      have HGR := Lib.hid hgr
      clear hh hpl hgr
      go_wp2
      go_ret
      exact ⟨rfl, HGR.out⟩
end Go.Proofs.YtoebboimdkogpaaDoor
