/- A part of the proof. -/
import Derived.Test.YtfljignkjmabpaaGreatZCN
import Derived.Laws.CopyOwn
import Derived.JoinedCond
set_option linter.unusedSimpArgs false
set_option linter.unusedVariables false
namespace Go.Proofs.YtfljignkjmabpaaGreat
set_option maxRecDepth 100000
open Go.RowKit
def marks (k : Nat) : List Value := List.replicate k (.int .u8 201)
theorem Tryz.one_byte : (Tryz.prog.info? 5).map (·.size) = some 1 := by kernel_rfl
def lentCells (l : List UInt8) : List Value := cells l ++ marks 3
def LentAt (w : World) (l : List UInt8) (en : Ending) (w' : World) : Prop :=
 ∃ g, en = .returned (.slice (some ⟨g, 0, none⟩) l.length (l.length + 3)) ∧ w'.heap[g]? = some (.cells (lentCells l).toArray 5 (0, 0)) ∧ Below w.heap.size w w' ∧ w.heap.size ≤ g
theorem set_mid (a : List Value) (x v : Value) (b : List Value) : (a ++ x :: b).toArray.setIfInBounds a.length v = (a ++ v :: b).toArray := by
 apply Array.ext'
 simp
theorem own_cells {w : World} {B n g c : Nat} {xs : List Value} (h : w.ownsRow B 5 1 (.slice (some ⟨g, 0, none⟩) n c) n xs) : ∃ cur : List Value, w.heap[g]? = some (.cells cur.toArray 5 (0, 0)) ∧ cur.length = c := by
 rcases h.2 with ⟨h1, _⟩ | ⟨g', cap, cur, hv, _, hh, _, _, hs, _⟩
 ·
  cases h1
 ·
  injection hv with h1 _ h3
  injection h1 with h1
  injection h1 with h1
  subst h1 h3
  exact ⟨cur.toList, by simpa using hh, by simpa using hs⟩
theorem below_of_grown {w w' : World} (h : w.grownBy w' none) : Below w.heap.size w w' := ⟨h.os, h.tape, h.output, h.size, fun k hk => h.block k hk (by intro e; cases e)⟩
theorem src_pos {w w1 : World} {P : Nat → Prop} {A : Option Addr} {n c g : Nat} {xs : List Value} (h : Src w P A n c xs) (hg : w.grownBy w1 none) (h0 : 0 < xs.length) :
  some (⟨g, 0, none⟩ : Addr) = some ⟨g, 0, none⟩ ∧ ∃ ad, A = some ad ∧ ∀ j v, xs[j]? = some v → w1.cell? (ad.add j) = some v := by
 refine ⟨rfl, ?_⟩
 cases A with
 | none => have := (h.nil rfl).1; have := h.len; omega
 | some ad => exact ⟨ad, rfl, (h.keep (w' := w1) fun k _ hk => hg.block k hk (by intro e; cases e)).at_ ad rfl⟩
set_option maxHeartbeats 1000000 in
theorem lent_any (P : Nat → Prop) (A : Option Addr) (n c : Nat) (l : List UInt8) (w : World) (h : Src w P A n c (cells l)) (hn : n ≤ 140737488351232) :
  Calls Tryz.prog 6 #[.slice A n c] w (LentAt w l) := by
 have hl : l.length = n := by have := h.len; simpa [cells_len] using this
 subst hl
 obtain ⟨i0, hi, hz0, hz1, hz2⟩ := info_parts Tryz.info_byte
 have m1 : i0.bytes * (l.length + 3) ≤ 281474976710656 := by rw [hz2]; omega
 have m2 : l.length + 3 ≤ maxLen := by simp only [maxLen]; omega
 have ho := cells_one l
 have HX := hD h
 clear h
 go_enter Tryz.func6, Tryz.ntmps6
 go_wp2_with (first
  | (refine wpList_make_full _ rfl (.tmp 7) (.tmp 7) 22 rfl w.heap.size 5 i0 (.int .u8 0) 1 Tryz.underlying22 hi hz0 hz1 .i64 .i64 _ _ (l.length + 3) rfl rfl (by simp) (by simp) m1 m2 (Nat.le_refl _) ?_; intro w1 hown hg1; obtain ⟨cur, hcur, hcl⟩ := own_cells hown; have HG1 := hD hg1; have HCU := hD hcur; have HCL := hD hcl; clear hown hg1 hcur hcl)
  | (refine wpList_copy_splice rfl (.tmp 9) (.tmp 10) 22 22 rfl 5 Tryz.underlying22 Tryz.one_byte _ _ (l.length + 3) (l.length + 3) l.length c rfl rfl w.heap.size 0 cur 5 HCU.out (cells l) (by rw [cells_len]; show _ = min l.length (l.length + 3); omega) (fun h0 => src_pos HX.out HG1.out h0) (by rw [cells_len, HCL.out]; omega) ho w.heap.size w (below_of_grown HG1.out) (Nat.le_refl _) ?_; intro w2 hh2 hb2; have HB2 := hD hb2; clear hb2))
 have hs : splice cur 0 (cells l) = cells l ++ cur.drop l.length := by simp [splice, cells_len]
 rw [hs] at hh2
 have hdl : (cur.drop l.length).length = 3 := by rw [List.length_drop, HCL.out]; omega
 generalize cur.drop l.length = tl0 at *
 have HD := hD hdl
 have HH2 := hD hh2
 clear hh2 hs hdl
 go_loopw [4] (fun i wr => ∃ (k : Nat) (tl : List Value), k ≤ 3 ∧ tl.length = 3 - k ∧ i = .int .i64 (l.length + k : Nat) ∧ wr.heap[w.heap.size]? = some (.cells (cells l ++ (marks k ++ tl)).toArray 5 (0, 0)) ∧ Below w.heap.size w wr) (fun i _ => l.length + 3 - (intOf i).toNat)
 case atStart => exact ⟨0, tl0, by omega, HD.out, rfl, HH2.out.out, HB2.out⟩
 case round =>
  obtain ⟨k, tl, hk, htl, rfl, hh, hb⟩ := hrel
  have HB := hD hb
  by_cases hlt : k < 3
  ·
   obtain ⟨x, tl', rfl⟩ : ∃ x tl', tl = x :: tl' := by
    cases tl with
    | nil => simp at htl; omega
    | cons x tl' => exact ⟨x, tl', rfl⟩
   have hc : wr.cell? ⟨w.heap.size, l.length + k, none⟩ = some x := by
    rw [cell_of_row wr w.heap.size (l.length + k) _ _ _ hh]
    simp [marks, cells_len]
   have hf : wr.frozen? ⟨w.heap.size, l.length + k, none⟩ = false := frozen_of_row wr w.heap.size (l.length + k) _ _ hh
   have hset := heap_setCell_same wr w.heap.size (l.length + k) _ _ (.int .u8 201) hh
   have e1 : (cells l ++ (marks k ++ x :: tl')).toArray.setIfInBounds (l.length + k) (.int .u8 201) = (cells l ++ (marks (k + 1) ++ tl')).toArray := by
    have e2 : cells l ++ (marks k ++ x :: tl') = (cells l ++ marks k) ++ x :: tl' := by simp
    have e3 : (cells l ++ marks k).length = l.length + k := by simp [cells_len, marks]
    rw [e2, ← e3, set_mid]
    simp [marks, List.replicate_succ', List.append_assoc]
   rw [e1] at hset
   have HS := hD hset
   have HT := hD htl
   clear hb hh hset e1 htl
   go_wp2
   have ht := HT.out
   exact ⟨⟨k + 1, tl', by omega, by simp at ht; omega, by rw [show ((l.length : Int) + (k : Int) + 1) = ((l.length + (k + 1) : Nat) : Int) from by omega], HS.out, HB.out.setCell (Nat.le_refl _) _⟩, by simp [intOf]; omega⟩
  ·
   obtain rfl : k = 3 := by omega
   have : tl = [] := List.eq_nil_of_length_eq_zero (by omega)
   subst this
   rw [List.append_nil] at hh
   have HH := hD hh
   clear hh hb htl
   go_wp2
   go_ret
   exact ⟨w.heap.size, rfl, HH.out, HB.out, Nat.le_refl _⟩
theorem lent_at (l : List UInt8) (k : Nat) (h : k < l.length + 3) : ∃ x : Int, (lentCells l)[k]? = some (.int .u8 x) ∧ (k < l.length → (cells l)[k]? = some (.int .u8 x)) ∧ (l.length ≤ k → x = 201) := by
 by_cases hk : k < l.length
 ·
  refine ⟨(l[k].toNat : Int), ?_, fun _ => by simp [cells, u8, hk], fun h => by omega⟩
  unfold lentCells
  rw [List.getElem?_append_left (by rw [cells_len]; exact hk)]
  simp [cells, u8, hk]
 ·
  refine ⟨201, ?_, fun h => by omega, fun _ => rfl⟩
  unfold lentCells
  rw [List.getElem?_append_right (by rw [cells_len]; omega), cells_len]
  unfold marks
  rw [List.getElem?_replicate, if_pos (by omega)]
set_option maxHeartbeats 2000000 in
theorem back_any' (P : Nat → Prop) (g : Nat) (A : Option Addr) (n c : Nat) (l : List UInt8) (w : World) (h : Src w P A n c (cells l)) (hg : w.heap[g]? = some (.cells (lentCells l).toArray 5 (0, 0))) (hP : ¬ P g) (hn : n ≤ 140737488351232) :
  Calls Tryz.prog 8 #[.slice (some ⟨g, 0, none⟩) n (n + 3), .slice A n c] w fun en w' => en = .returned (.bool true) ∧ w.grownBy w' (some g) := by
 have hl : l.length = n := by have := h.len; simpa [cells_len] using this
 subst hl
 have HX := hD h
 have HG := hD hg
 have HP := hD hP
 have hcap := h.cap
 clear h hg hP
 go_enter Tryz.func8, Tryz.ntmps8
 go_wp2_with fail
 go_loopw [6, 7, 8] (fun ok i _ wr => ∃ (k : Nat) (pre : List Value), k ≤ l.length + 3 ∧ pre.length = k ∧ i = .int .i64 k ∧ ok = .bool true ∧ wr.heap[g]? = some (.cells (pre ++ (lentCells l).drop k).toArray 5 (0, 0)) ∧ w.grownBy wr (some g)) (fun _ i _ _ => l.length + 3 - (intOf i).toNat)
 case atStart => exact ⟨0, [], by omega, rfl, rfl, rfl, HG.out, World.grownBy.refl _ _⟩
 case round =>
  obtain ⟨k, pre, hk, hpl, rfl, rfl, hh, hgr⟩ := hrel
  by_cases hlt : k < l.length + 3
  ·
   obtain ⟨x, hx1, hx2, hx3⟩ := lent_at l k hlt
   have hxl : k < (lentCells l).length := by simp [lentCells, cells_len, marks]; omega
   have hdr : (lentCells l).drop k = .int .u8 x :: (lentCells l).drop (k + 1) := by
    rw [List.drop_eq_getElem_cons hxl]
    congr 1
    rw [List.getElem?_eq_getElem hxl] at hx1
    injection hx1
   rw [hdr] at hh
   have hc : wr.cell? ⟨g, k, none⟩ = some (.int .u8 x) := by
    rw [cell_of_row wr g k _ _ _ hh]
    simp [← hpl]
   have hf : wr.frozen? ⟨g, k, none⟩ = false := frozen_of_row wr g k _ _ hh
   have hset : ∀ v, (wr.setCell ⟨g, k, none⟩ v).heap[g]? = some (.cells ((pre ++ [v]) ++ (lentCells l).drop (k + 1)).toArray 5 (0, 0)) := by
    intro v
    have h1 := heap_setCell_same wr g k _ _ v hh
    rw [h1]
    subst hpl
    rw [set_mid]
    simp
   have HS := hD hset
   have HPL := hD hpl
   have HGR := hD hgr
   by_cases hin : k < l.length
   ·
    obtain ⟨ad, rfl⟩ : ∃ ad, A = some ad := by
     cases A with
     | none => have := (HX.out.nil rfl).1; omega
     | some ad => exact ⟨ad, rfl⟩
    have hb : wr.cell? (ad.add k) = some (.int .u8 x) := (HX.out.keep (w' := wr) fun j hj hjl => hgr.block j hjl (fun e => HP.out (by injection e with e; rw [← e]; exact hj))).at_ ad rfl k _ (hx2 hin)
    clear hx1 hx2 hx3 hh hset hpl hgr hdr hxl
    go_wp2
    exact ⟨⟨k + 1, pre ++ [.int .u8 (bits .xor .u8 x 33)], by omega, by rw [List.length_append, HPL.out]; rfl, by go_num, rfl, HS.out _, HGR.out.trans (grown_set _ _ _ _)⟩, by simp [intOf]; omega⟩
   ·
    have hx : x = 201 := hx3 (by omega)
    subst hx
    clear hx1 hx2 hx3 hh hset hpl hgr hdr hxl
    go_wp2
    exact ⟨⟨k + 1, pre ++ [.int .u8 (bits .xor .u8 201 33)], by omega, by rw [List.length_append, HPL.out]; rfl, by go_num, rfl, HS.out _, HGR.out.trans (grown_set _ _ _ _)⟩, by simp [intOf]; omega⟩
  ·
   obtain rfl : k = l.length + 3 := by omega
   have HGR := hD hgr
   clear hh hpl hgr
   go_wp2
   go_ret
   exact ⟨rfl, HGR.out⟩
end Go.Proofs.YtfljignkjmabpaaGreat
namespace Go.Proofs.YtfljignkjmabpaaGreat
set_option maxRecDepth 100000
open Go.RowKit
theorem wNumsA_len (size : Int) (ns : List Int) (s : St) : (wNumsA size ns s).2.length ≤ s.2.length + 8 * ns.length := by
 unfold wNumsA
 split
 ·
  rename_i h
  exact wNums_len _ _ (by simp only [sized, decide_eq_true_eq] at h; omega) s
 ·
  split <;> simp
theorem room_one (l : List UInt8) : room [l] = l.length + 8 := by simp [room]
end Go.Proofs.YtfljignkjmabpaaGreat
namespace Go.Proofs.YtfljignkjmabpaaGreat
set_option maxRecDepth 100000
open Go.ChangeShapes Go.WideShapes Go.ChangeAt Go.RowKit
theorem Tryz.cellsInt : Tryz.prog.cellsOf 3 = 1 := by kernel_rfl
theorem Tryz.cellsByte : Tryz.prog.cellsOf 5 = 1 := by kernel_rfl
theorem Tryz.cellsString : Tryz.prog.cellsOf 9 = 1 := by kernel_rfl
/-! What the bulk of a reading is at least. -/
section
variable {H : Type}
end
section
variable {H : Type} {enc : TypeId × Value → H} {W : World}
end
end Go.Proofs.YtfljignkjmabpaaGreat
namespace Go.Proofs.YtfljignkjmabpaaGreat
set_option maxRecDepth 100000
open Go.RowKit
theorem Tryz.info_bytes : (Tryz.prog.info? 22).map (fun i => (i.zero, i.size, i.bytes)) = some (some (.slice none 0 0), 1, 24) := by kernel_rfl
end Go.Proofs.YtfljignkjmabpaaGreat
namespace Go.Proofs.YtfljignkjmabpaaGreat
set_option maxRecDepth 100000
open Go.RowKit
theorem hastext_any (s : Sym) (w : World) : Calls Tryz.prog 198 #[symV s] w fun e w' => e = .returned (.bool (textB s)) ∧ Below w.heap.size w w' := by
 have HB := hD (box_below w s)
 have HX := hD (Sx.new w s)
 have HC := hD (has_any s (w.alloc (.cells (symA s) 105)))
 generalize hw1 : w.alloc (.cells (symA s) 105) = w1 at *
 obtain ⟨c0, c1, c2, c3, c4, c5, c6, c7, c8⟩ := HX.out.cells
 go_enter Tryz.func198, Tryz.ntmps198
 go_wp2_with fail
 refine HC.out.mono ?_
 rintro e w2 ⟨rfl, hb⟩
 have HB2 := hD (HB.out.trans (hb.mono HB.out.size))
 have HX2 := hD (HX.out.below hb)
 obtain ⟨d0, d1, d2, d3, d4, d5, d6, d7, d8⟩ := HX2.out.cells
 clear c0 c1 c2 c3 c4 c5 c6 c7 c8 hb HB HC HX
 have HN := hD (name_any s.name w2)
 have HV := hD (name_any s.ver w2)
 cases hv : s.ver.isEmpty
 ·
  have HE := hD (show textB s = (nameB s.name && nameB s.ver) by simp [textB, hv])
  rw [show hasB s = true by simp [hasB, hv]]
  clear hv
  go_wp2_with fail
  refine HN.out.mono ?_
  rintro e w3 ⟨rfl, rfl⟩
  cases hn : nameB s.name
  ·
   go_wp2_with fail
   go_ret
   refine ⟨ret_bool ?_, HB2.out⟩
   rw [HE.out, hn]
   simp
  ·
   go_wp2_with fail
   refine HV.out.mono ?_
   rintro e w3 ⟨rfl, rfl⟩
   go_wp2_with fail
   go_ret
   refine ⟨ret_bool ?_, HB2.out⟩
   rw [HE.out, hn]
   simp
 ·
  have HE := hD (show textB s = (nameB s.name && !s.old) by simp [textB, hv])
  rw [show hasB s = false by simp [hasB, hv]]
  clear hv
  go_wp2_with fail
  refine HN.out.mono ?_
  rintro e w3 ⟨rfl, rfl⟩
  cases hn : nameB s.name
  ·
   go_wp2_with fail
   go_ret
   refine ⟨ret_bool ?_, HB2.out⟩
   rw [HE.out, hn]
   simp
  ·
   go_wp2_with fail
   go_ret
   refine ⟨ret_bool ?_, HB2.out⟩
   rw [HE.out, hn]
   simp
def okV (b : Bool) : Value := .int .i64 (if b then 0 else 70)
theorem ret_ok {b : Bool} (h : b = true) : Ending.returned (.int .i64 0) = .returned (okV b) := by rw [h]; rfl
theorem ret_no {b : Bool} (h : b = false) : Ending.returned (.int .i64 70) = .returned (okV b) := by rw [h]; rfl
set_option maxHeartbeats 1000000 in
theorem right_any (s : Sym) (w : World) : Calls Tryz.prog 167 #[symV s] w fun e w' => e = .returned (okV (rightB s)) ∧ Below w.heap.size w w' := by
 have HB := hD (box_below w s)
 have HX := hD (Sx.new w s)
 generalize hw1 : w.alloc (.cells (symA s) 105) = w1 at *
 obtain ⟨c0, c1, c2, c3, c4, c5, c6, c7, c8⟩ := HX.out.cells
 have HC := hD (hastext_any s w1)
 have HR := hD (show rightB s = (textB s && fieldsB s && (s.dfd || !defB s)) from rfl)
 go_enter Tryz.func167, Tryz.ntmps167
 go_wp2_with fail
 refine HC.out.mono ?_
 rintro e w2 ⟨rfl, hb⟩
 have HB2 := hD (HB.out.trans (hb.mono HB.out.size))
 have HX2 := hD (HX.out.below hb)
 obtain ⟨d0, d1, d2, d3, d4, d5, d6, d7, d8⟩ := HX2.out.cells
 clear c0 c1 c2 c3 c4 c5 c6 c7 c8 hb HB HC HX
 cases ht : textB s
 ·
  rw [ht] at HR
  clear ht
  go_wp2_with fail
  go_ret
  exact ⟨ret_no (by rw [HR.out]; simp), HB2.out⟩
 rw [ht] at HR
 clear ht
 have HF := hD (fields_any s w2)
 go_wp2_with fail
 refine HF.out.mono ?_
 rintro e w3 ⟨rfl, hb⟩
 have HB3 := hD (HB2.out.trans (hb.mono HB2.out.size))
 have HX3 := hD (HX2.out.below hb)
 clear d0 d1 d2 d3 d4 d5 d6 d7 d8 hb HF HX2 HB2
 obtain ⟨d0, d1, d2, d3, d4, d5, d6, d7, d8⟩ := HX3.out.cells
 cases ht : fieldsB s
 ·
  rw [ht] at HR
  go_wp2_with fail
  go_ret
  exact ⟨ret_no (by rw [HR.out]; simp), HB3.out⟩
 rw [ht] at HR
 clear ht
 cases hd : s.dfd
 ·
  rw [hd] at HR d6
  have h := hasdef_any s w3
  unfold symV symA at h
  rw [hd] at h
  have HD := hD h
  clear h
  go_wp2_with fail
  refine HD.out.mono ?_
  rintro e w4 ⟨rfl, hb⟩
  have HB4 := hD (HB3.out.trans (hb.mono HB3.out.size))
  clear hb HB3
  cases ht : defB s
  ·
   rw [ht] at HR
   go_wp2_with fail
   go_ret
   exact ⟨ret_ok (by rw [HR.out]; simp), HB4.out⟩
  ·
   rw [ht] at HR
   go_wp2_with fail
   go_ret
   exact ⟨ret_no (by rw [HR.out]; simp), HB4.out⟩
 ·
  rw [hd] at HR d6
  go_wp2_with fail
  go_ret
  exact ⟨ret_ok (by rw [HR.out]; simp), HB3.out⟩
def matchB (r d : Sym) (v : Bool) : Bool := if !seenB d || d.name != r.name then false else if r.ver.isEmpty then !d.old else !v || d.ver == r.ver
end Go.Proofs.YtfljignkjmabpaaGreat
namespace Go.Proofs.YtfljignkjmabpaaGreat
set_option maxRecDepth 100000
open Go.RowKit
theorem Rr.facts {w : World} {P : Nat → Prop} {g : Nat} {e : Int} {A : Option Addr} {c : Nat} {rest : List UInt8} (h : Rr w P g e A c rest) :
  w.cell? ⟨g, 0, none⟩ = some (.slice A rest.length c) ∧ w.cell? ⟨g, 1, none⟩ = some (.int .i64 e) ∧ w.frozen? ⟨g, 0, none⟩ = false ∧ w.frozen? ⟨g, 1, none⟩ = false :=
 ⟨cell_of_row w g 0 _ _ _ h.blk, cell_of_row w g 1 _ _ _ h.blk, frozen_of_row w g 0 _ _ h.blk, frozen_of_row w g 1 _ _ h.blk⟩
set_option maxHeartbeats 1000000 in
theorem prefixed_err (P : Nat → Prop) (g : Nat) (e : Int) (rest : List UInt8) (A : Option Addr) (c : Nat) (size most : Nat) (w : World) (h : Rr w P g e A c rest) (he : e ≠ 0) :
  Calls Tryz.prog 138 #[.pointer (some ⟨g, 0, none⟩), .int .i64 size, .int .i64 most] w (TookR w P g (rMeas size most (e, rest))) := by
 obtain ⟨hc0, hc1, hf0, hf1⟩ := h.facts
 have H := hD h
 have b1 : (e == 0) = false := by simpa using he
 have b2 : (e != 0) = true := by simpa using he
 have er : rMeas size most ((e, rest) : St) = ([], (e, rest)) := by simp [rMeas, he]
 rw [er]
 clear h er he
 go_enter Tryz.func138, Tryz.ntmps138
 go_wp2_with fail
 go_ret
 exact ⟨none, 0, rfl, src_nil _ _, A, c, H.out, World.grownBy.refl _ _⟩
set_option maxHeartbeats 1000000 in
theorem prefixed_short (P : Nat → Prop) (g : Nat) (rest : List UInt8) (A : Option Addr) (c : Nat) (size most : Nat) (w : World) (h : Rr w P g 0 A c rest) (hlt : rest.length < size) :
  Calls Tryz.prog 138 #[.pointer (some ⟨g, 0, none⟩), .int .i64 size, .int .i64 most] w (TookR w P g (rMeas size most (0, rest))) := by
 obtain ⟨hc0, hc1, hf0, hf1⟩ := h.facts
 have H := hD h
 have er : rMeas size most ((0, rest) : St) = ([], (11, rest)) := by simp [rMeas, hlt]
 rw [er]
 clear h er
 go_enter Tryz.func138, Tryz.ntmps138
 go_wp2_with fail
 go_ret
 exact ⟨none, 0, rfl, src_nil _ _, A, c, H.out.fail 11, grown_set _ _ _ _⟩
set_option maxHeartbeats 2000000 in
theorem prefixed_in (P : Nat → Prop) (g : Nat) (rest : List UInt8) (A : Option Addr) (c : Nat) (size most : Nat) (w : World) (h : Rr w P g 0 A c rest) (hge : size ≤ rest.length) (h4 : size ≤ 4) (hm : most ≤ 1048576) :
  Calls Tryz.prog 138 #[.pointer (some ⟨g, 0, none⟩), .int .i64 size, .int .i64 most] w (TookR w P g (rMeas size most (0, rest))) := by
 obtain ⟨hc0, hc1, hf0, hf1⟩ := h.facts
 have H := hD h
 have hcap := h.src.cap
 have hlim := h.lim
 have hsc : size ≤ c := by omega
 have hfr := h.src.front size hge
 have hfl : (rest.take size).length = size := by rw [List.length_take]; omega
 rw [hfl] at hfr
 have hv := val_small (rest.take size) (by omega)
 have hb := valN_lt (rest.take size)
 have h2 : 256 ^ (rest.take size).length ≤ 256 ^ 4 := Nat.pow_le_pow_right (by omega) (by omega)
 have h3 : (256 : Nat) ^ 4 = 4294967296 := by decide
 have C := valueR_any P A size c (rest.take size) w hfr (by omega)
 rw [hv] at C
 have er : rMeas size most ((0, rest) : St) = if most < valN (rest.take size) then ([], (2, rest)) else if rest.length - size < valN (rest.take size) then ([], (11, rest)) else
   ((rest.drop size).take (valN (rest.take size)), (0, (rest.drop size).drop (valN (rest.take size)))) := by
  unfold rMeas
  rw [if_pos rfl, if_neg (by show ¬ rest.length < size; omega)]
 rw [er]
 have hN : valN (rest.take size) < 4294967296 := by omega
 generalize valN (rest.take size) = N at *
 have HC := hD C
 clear h er hfr hfl hv hb h2 h3 C
 by_cases hgt : most < N
 ·
  rw [if_pos hgt]
  go_enter Tryz.func138, Tryz.ntmps138
  go_wp2_with (go_at_call 140; refine HC.out.mono ?_; rintro en w' ⟨rfl, rfl⟩)
  go_ret
  exact ⟨none, 0, rfl, src_nil _ _, A, c, H.out.fail 2, grown_set _ _ _ _⟩
 rw [if_neg hgt]
 by_cases hsh : rest.length - size < N
 ·
  rw [if_pos hsh]
  go_enter Tryz.func138, Tryz.ntmps138
  go_wp2_with (go_at_call 140; refine HC.out.mono ?_; rintro en w' ⟨rfl, rfl⟩)
  go_ret
  exact ⟨none, 0, rfl, src_nil _ _, A, c, H.out.fail 11, grown_set _ _ _ _⟩
 rw [if_neg hsh]
 have q1 : size + N ≤ rest.length := by omega
 have q2 : size + N ≤ c := by omega
 go_enter Tryz.func138, Tryz.ntmps138
 go_wp2_with (go_at_call 140; refine HC.out.mono ?_; rintro en w' ⟨rfl, rfl⟩)
 ·
  have hcs : c = size := by assumption
  subst hcs
  go_ret
  have h := H.out
  have hd : (rest.drop c).length = rest.length - c := List.length_drop
  have hr := h.set h.src.last (Nat.zero_le _) (by rw [hd]; have := h.small; omega)
  rw [hd] at hr
  exact ⟨A, 0, rfl, ⟨rfl, fun _ => ⟨rfl, rfl⟩, Nat.le_refl _, (by intro ad _ h0; exact absurd h0 (by simp)), (by intro ad _ j u hu; simp [cells] at hu)⟩, A, 0, hr, grown_set _ _ _ _⟩
 ·
  have hcN : c = size + N := by assumption
  subst hcN
  go_ret
  have h := H.out
  have hd : (rest.drop (size + N)).length = rest.length - (size + N) := List.length_drop
  have hr := h.set h.src.last (Nat.zero_le _) (by rw [hd]; have := h.small; omega)
  rw [hd] at hr
  have ho := (h.src.rest size hge).front N (by rw [List.length_drop]; omega)
  have hol : ((rest.drop size).take N).length = N := by rw [List.length_take, List.length_drop]; omega
  rw [Nat.add_sub_cancel_left] at ho
  refine ⟨_, N, ?_, ho.keep fun k hk _ => heap_setCell_other _ _ _ _ (fun e => h.ne (by rw [← show k = g from e]; exact hk)), A, 0, hr, grown_set _ _ _ _⟩
  show _ = Ending.returned (.slice _ ((rest.drop size).take N).length N)
  rw [hol]
  rfl
 ·
  go_ret
  have h := H.out
  have hd : (rest.drop (size + N)).length = rest.length - (size + N) := List.length_drop
  have hr := h.set (h.src.rest (size + N) q1) (by omega) (by rw [hd]; have := h.small; omega)
  rw [hd] at hr
  have ho := (h.src.rest size hge).front N (by rw [List.length_drop]; omega)
  have hol : ((rest.drop size).take N).length = N := by rw [List.length_take, List.length_drop]; omega
  refine ⟨_, c - size, ?_, ho.keep fun k hk _ => heap_setCell_other _ _ _ _ (fun e => h.ne (by rw [← show k = g from e]; exact hk)), _, c - (size + N), hr, grown_set _ _ _ _⟩
  show _ = Ending.returned (.slice _ ((rest.drop size).take N).length (c - size))
  rw [hol]
  rfl
theorem prefixed_any (P : Nat → Prop) (g : Nat) (s : St) (A : Option Addr) (c : Nat) (size most : Nat) (w : World) (h : Rr w P g s.1 A c s.2) (h4 : size ≤ 4) (hm : most ≤ 1048576) :
  Calls Tryz.prog 138 #[.pointer (some ⟨g, 0, none⟩), .int .i64 size, .int .i64 most] w (TookR w P g (rMeas size most s)) := by
 obtain ⟨e, rest⟩ := s
 by_cases he : e = 0
 ·
  subst he
  by_cases hlt : rest.length < size
  ·
   exact prefixed_short P g rest A c size most w h hlt
  ·
   exact prefixed_in P g rest A c size most w h (by omega) h4 hm
 ·
  exact prefixed_err P g e rest A c size most w h he
def SaidR (w : World) (P : Nat → Prop) (g : Nat) (t : List UInt8 × St) (en : Ending) (w' : World) : Prop := en = .returned (.string ⟨t.1.toArray⟩) ∧ IsR w P g t.2.1 t.2.2 w'
set_option maxHeartbeats 400000 in
theorem mtext_any (P : Nat → Prop) (g : Nat) (s : St) (A : Option Addr) (c : Nat) (w : World) (h : Rr w P g s.1 A c s.2) :
  Calls Tryz.prog 55 #[.pointer (some ⟨g, 0, none⟩)] w (SaidR w P g (rMeas 2 4096 s)) := by
 have C := hD (prefixed_any P g s A c 2 4096 w h (by omega) (by omega))
 clear h
 generalize rMeas 2 4096 s = t at *
 go_enter Tryz.func55, Tryz.ntmps55
 go_wp2_with (go_at_call 138; refine C.out.mono ?_; rintro en w1 ⟨A1, c1, rfl, hsrc, his⟩; have hcv := conv_string hsrc; have HI := hD his; clear hsrc his)
 go_ret
 exact ⟨rfl, HI.out⟩
set_option maxHeartbeats 400000 in
theorem mblock_any (P : Nat → Prop) (g : Nat) (s : St) (A : Option Addr) (c : Nat) (w : World) (h : Rr w P g s.1 A c s.2) :
  Calls Tryz.prog 59 #[.pointer (some ⟨g, 0, none⟩)] w (TookR w P g (rMeas 4 1048576 s)) := by
 have C := hD (prefixed_any P g s A c 4 1048576 w h (by omega) (by omega))
 clear h
 generalize rMeas 4 1048576 s = t at *
 go_enter Tryz.func59, Tryz.ntmps59
 go_wp2_with (go_at_call 138; refine C.out.mono ?_; rintro en w1 ⟨A1, c1, rfl, hsrc, his⟩; have HQ := hD hsrc; have HI := hD his; clear hsrc his)
 go_ret
 exact ⟨A1, c1, rfl, HQ.out, HI.out⟩
end Go.Proofs.YtfljignkjmabpaaGreat
namespace Go.Proofs.YtfljignkjmabpaaGreat
set_option maxRecDepth 100000
open Go.RowKit
theorem plainAdd (b o k : Nat) : (⟨b, o, none⟩ : Addr).add k = ⟨b, o + k, none⟩ := by unfold Addr.add; split <;> simp_all
structure Syl (w : World) (P : Nat → Prop) (A : Option Addr) (n c : Nat) (ss : List Sym) : Prop where
 len : ss.length = n
 nil : A = none → n = 0 ∧ c = 0
 cap : n ≤ c
 blk : ∀ ad, A = some ad → 0 < n → P ad.block
 at_ : ∀ ad, A = some ad → ∀ k (hk : k < ss.length) j u, (symA ss[k])[j]? = some u → w.cell? (ad.add (k * 9 + j)) = some u
section
variable {w w' : World} {P Q : Nat → Prop} {A : Option Addr} {n c : Nat} {ss : List Sym}
theorem Syl.keep (h : Syl w P A n c ss) (hk : ∀ k, P k → k < w.heap.size → w'.heap[k]? = w.heap[k]?) : Syl w' P A n c ss :=
 ⟨h.len, h.nil, h.cap, h.blk, fun ad hA k hk' j u hu => by
  have h0 := h.at_ ad hA k hk' j u hu
  have hb := h.blk ad hA (by rw [← h.len]; omega)
  have hh := World.block_lt_of_cell? w _ h0
  rw [addBlock] at hh
  exact (World.cell?_of_block (w := w) (w' := w') (by rw [addBlock]; exact hk _ hb hh)).trans h0⟩
theorem Syl.below {B : Nat} (h : Syl w P A n c ss) (hb : Below B w w') (hP : ∀ k, P k → k < B) : Syl w' P A n c ss :=
 h.keep fun k hk _ => hb.block k (hP k hk)
theorem Syl.plain {ad : Addr} (h : Syl w P (some ad) n c ss) (h0 : 0 < n) : ∃ b o, ad = ⟨b, o, none⟩ := by
 obtain ⟨b, o, spot⟩ := ad
 have hs : spot = none := by
  have h0 := World.cell?_spot (h.at_ _ rfl 0 (by rw [h.len]; exact h0) 0 _ rfl)
  simpa [Addr.add] using h0
 subst hs
 exact ⟨b, o, rfl⟩
theorem Syl.get {b o : Nat} (h : Syl w P (some ⟨b, o, none⟩) n c ss) (k : Nat) (hk : k < ss.length) :
  w.cell? ⟨b, o + k * 9, none⟩ = some (str ss[k].name) ∧ w.cell? ⟨b, o + k * 9 + 1, none⟩ = some (str ss[k].ver) ∧ w.cell? ⟨b, o + k * 9 + 2, none⟩ = some (.bool ss[k].old) ∧ w.cell? ⟨b, o + k * 9 + 3, none⟩ = some (.int .i64 ss[k].kind) ∧
  w.cell? ⟨b, o + k * 9 + 4, none⟩ = some (.bool ss[k].weak) ∧ w.cell? ⟨b, o + k * 9 + 5, none⟩ = some (.int .i64 ss[k].vis) ∧ w.cell? ⟨b, o + k * 9 + 6, none⟩ = some (.bool ss[k].dfd) ∧ w.cell? ⟨b, o + k * 9 + 7, none⟩ = some (.int .i64 ss[k].val) ∧ w.cell? ⟨b, o + k * 9 + 8, none⟩ = some (.int .i64 ss[k].size) := by
 have := fun j u => h.at_ _ rfl k hk j u
 simp only [plainAdd] at this
 exact ⟨this 0 _ rfl, by simpa only [Nat.add_assoc] using this 1 (str ss[k].ver) rfl, by simpa only [Nat.add_assoc] using this 2 (.bool ss[k].old) rfl, by simpa only [Nat.add_assoc] using this 3 (.int .i64 ss[k].kind) rfl, by simpa only [Nat.add_assoc] using this 4 (.bool ss[k].weak) rfl, by simpa only [Nat.add_assoc] using this 5 (.int .i64 ss[k].vis) rfl, by simpa only [Nat.add_assoc] using this 6 (.bool ss[k].dfd) rfl, by simpa only [Nat.add_assoc] using this 7 (.int .i64 ss[k].val) rfl, by simpa only [Nat.add_assoc] using this 8 (.int .i64 ss[k].size) rfl⟩
end
def vdB (s : Sym) : Bool := s.dfd && hasB s
def cntB (ss : List Sym) : Nat := (ss.filter vdB).length
end Go.Proofs.YtfljignkjmabpaaGreat
