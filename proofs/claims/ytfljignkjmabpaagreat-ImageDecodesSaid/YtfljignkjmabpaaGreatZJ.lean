/- A part of the proof. -/
import Derived.Test.YtfljignkjmabpaaGreatZI
set_option linter.unusedSimpArgs false
set_option linter.unusedVariables false
namespace Go.Proofs.YtfljignkjmabpaaGreat
set_option maxRecDepth 100000
open Go.RowKit
theorem stand_range {l : List Sg} {a n q : Int} (h : standB l a n q = true) (hs : ∀ s ∈ l, SegOk s) : 0 ≤ a ∧ a + n ≤ 65536 := by
 unfold standB withB at h
 obtain ⟨s, hm, h⟩ := List.any_eq_true.1 h
 have := hs s hm
 unfold SegOk at this
 simp only [Bool.and_eq_true, decide_eq_true_eq] at h
 omega
theorem kind_wide {x : Im} {r : Rl} (hf : Fit x) (h : kindRB x r = true) : 0 ≤ wideI x r ∧ wideI x r ≤ 9223372036854775807 := by
 unfold wideI
 by_cases hk : r.kind = 2
 ·
  rw [if_pos hk]
  obtain ⟨j, hj, hl⟩ := kind_idx h hk
  unfold kindRB at h
  rw [if_neg (by omega)] at h
  by_cases hi : idxB x.syms.length r.sym = false
  ·
   rw [if_pos hi] at h; cases h
  rw [if_neg hi, if_neg (by omega), if_neg (by omega), if_neg (by omega), if_neg (by omega), if_pos hk] at h
  unfold copiedB at h
  simp only [Bool.and_eq_true, decide_eq_true_eq] at h
  have hq := hf.sym (x.syms.getD r.sym.toNat noSy) (getD_mem (by rw [hj]; exact hl))
  have := hq.2.2.2.2.2
  unfold I64 at this
  omega
 ·
  rw [if_neg hk]
  omega
theorem rel_range {x : Im} {r : Rl} (hs : ∀ s ∈ x.segs, SegOk s) (h : relB x r = true) : 0 ≤ r.at_ ∧ r.at_ + wideI x r ≤ 65536 := by
 unfold relB at h
 simp only [Bool.and_eq_true] at h
 exact stand_range h.2 hs
theorem rel_kind {x : Im} {r : Rl} (h : relB x r = true) : kindRB x r = true := by
 unfold relB at h
 simp only [Bool.and_eq_true] at h
 exact h.1.2
def RT (w : World) (g : Nat) (p : Pl) (x : Im) (r : Rl) (X : World) : Prop := Below w.heap.size w X ∧ Ix X g p x ∧ Bx X w.heap.size (rlA r) 57
theorem RT.on {w X Y : World} {g : Nat} {p : Pl} {x : Im} {r : Rl} (h : RT w g p x r X) (hb : Below X.heap.size X Y) : RT w g p x r Y := ⟨h.1.trans (hb.mono h.1.size), h.2.1.below hb, h.2.2.below hb⟩
def RU (w : World) (g ga : Nat) (a : Int) (p : Pl) (x : Im) (r : Rl) (X : World) : Prop := Below w.heap.size w X ∧ Ix X g p x ∧ Bx X w.heap.size (rlA r) 57 ∧ X.cell? ⟨ga, 0, none⟩ = some (.int .i64 a)
theorem RU.on {w X Y : World} {g ga : Nat} {a : Int} {p : Pl} {x : Im} {r : Rl} (h : RU w g ga a p x r X) (hb : Below X.heap.size X Y) : RU w g ga a p x r Y := ⟨h.1.trans (hb.mono h.1.size), h.2.1.below hb, h.2.2.1.below hb, cell_below hb h.2.2.2⟩
theorem rlbox_below (w : World) (r : Rl) : Below w.heap.size w (w.alloc (.cells (rlA r) 57)) := (Below.refl _ _).alloc (Nat.le_refl _) _
set_option maxHeartbeats 2000000 in
theorem rel_is_any (p : Pl) (x : Im) (r : Rl) (g : Nat) (w : World) (h : ImIn w (fun k => k < w.heap.size) p x) (hf : Fit x) (hs : ∀ s ∈ x.segs, SegOk s) (hi : Ix w g p x) :
  Calls Tryz.prog 113 #[.agg (rlA r), .pointer (some ⟨g, 0, none⟩)] w fun e w' => e = .returned (.bool (relB x r)) ∧ Below w.heap.size w w' := by
 have HB := hD (rlbox_below w r)
 have HC := hD (isReloc_any p x r (w.alloc (.cells (rlA r) 57)) (h.lt HB.out) hf hs (kind_wide hf))
 obtain ⟨d0, d1, d2, d3⟩ := (rl_cells w r).rl
 obtain ⟨c0, c1, c2, c3, c4, c5, c6, c7, c8, c9, c10, c11, c12, c13, c14⟩ := (hi.below HB.out).cells
 generalize relB x r = b at *
 clear h hf hs hi
 go_enter Tryz.func113, Tryz.ntmps113
 go_upto_region 1 with (fail)
 change Code.wp _ _ _ _ (w.alloc (.cells (rlA r) 57))
 generalize w.alloc (.cells (rlA r) 57) = w1 at *
 go_upto_region 99 with (go_at_call 114; (with_reducible refine (HC.out).mono ?_); rintro e w2 ⟨rfl, hb2⟩)
 first | go_ret | skip
 exact ⟨rfl, HB.out.trans (hb2.mono HB.out.size)⟩
set_option maxHeartbeats 2000000 in
theorem rel_word_any (p : Pl) (x : Im) (r : Rl) (g : Nat) (w : World) (h : ImIn w (fun k => k < w.heap.size) p x) (hf : Fit x) (hs : ∀ s ∈ x.segs, SegOk s) (hi : Ix w g p x) (hr : relB x r = true) :
  Calls Tryz.prog 115 #[.agg (rlA r), .pointer (some ⟨g, 0, none⟩)] w fun e w' => e = .returned (.tuple #[.int .i64 r.at_, .int .i64 (r.at_ + wideI x r)]) ∧ Below w.heap.size w w' := by
 have hB := rlbox_below w r
 have HSO := hD (fun (X : World) (hX : RT w g p x r X) => sizeOf_any p x r X (h.lt hX.1) hf.syms (kind_idx (rel_kind hr)))
 have HS := hD ((show RT w g p x r (w.alloc (.cells (rlA r) 57)) from ⟨hB, hi.below hB, rl_cells w r⟩).on (drew_below _))
 have hq := rel_range hs hr
 have hw := kind_wide hf (rel_kind hr)
 have e1 : wrap64 (r.at_ + wideI x r) = r.at_ + wideI x r := wrap_in (by omega) (by omega)
 have e2 : IntKind.i64.wrap (r.at_ + wideI x r) = r.at_ + wideI x r := (wrap_i64 _).trans e1
 generalize hwd : wideI x r = wd at *
 clear h hf hs hi hr hB hq hw hwd
 go_enter Tryz.func115, Tryz.ntmps115
 go_upto_region 1 with (fail)
 change Code.wp _ _ _ _ (w.alloc (.cells (rlA r) 57))
 refine wp_region_held_drew (S := RT w g p x r) (by kernel_rfl) HS.out (fun hHeld0 => ?_)
 refine tkI 0 5 (.pointer (some ⟨w.heap.size, 0, none⟩)) ?_
 simp only [Act.put, zI, zJ, zK]
 refine tjI 1 6 (.int .i64 r.at_) ?_ ?_
 ·
  intro X hX; obtain ⟨-, hI, hJ⟩ := hX; obtain ⟨d0, d1, d2, d3⟩ := hJ.rl; go_simp
 (try simp only [Act.put, zI, zJ, zK])
 refine tkI 2 7 (.pointer (some ⟨w.heap.size, 0, none⟩)) ?_
 simp only [Act.put, zI, zJ, zK]
 refine tjI 3 8 (.int .i64 r.at_) ?_ ?_
 ·
  intro X hX; obtain ⟨-, hI, hJ⟩ := hX; obtain ⟨d0, d1, d2, d3⟩ := hJ.rl; go_simp
 (try simp only [Act.put, zI, zJ, zK])
 refine tjI 4 9 (imV p x) ?_ ?_
 ·
  intro X hX; obtain ⟨-, hI, hJ⟩ := hX; obtain ⟨c0, c1, c2, c3, c4, c5, c6, c7, c8, c9, c10, c11, c12, c13, c14⟩ := hI.cells; go_simp
 (try simp only [Act.put, zI, zJ, zK])
 refine tjI 5 10 (.agg (rlA r)) ?_ ?_
 ·
  intro X hX; obtain ⟨-, hI, hJ⟩ := hX; obtain ⟨d0, d1, d2, d3⟩ := hJ.rl; go_simp
 (try simp only [Act.put, zI, zJ, zK])
 refine rYI 6 fun K hK => ?_
 go_simp
 refine (HSO.out _ hHeld0).mono ?_
 rintro e wq1 ⟨rfl, hq1⟩
 go_simp
 refine hK.out _ _ ((hHeld0).on hq1) (fun hHeld1 => ?_)
 clear hK K
 (try simp only [Act.put, zI, zJ, zK])
 refine tkI 7 12 (.int .i64 (r.at_ + wd)) ?_
 simp only [Act.put, zI, zJ, zK]
 refine tkI 8 3 (.int .i64 r.at_) ?_
 simp only [Act.put, zI, zJ, zK]
 refine tkI 9 4 (.int .i64 (r.at_ + wd)) ?_
 simp only [Act.put, zI, zJ, zK]
 refine wpAnyH_done (by kernel_rfl) ?_ _
 go_wp2_with fail
 first | go_ret2 | go_ret | skip
 exact ⟨rfl, hHeld1.1⟩
def relocsB (x : Im) : Bool := decide (x.relocs.length ≤ 512) && apartB x.relocs.length (fun k => relB x (x.relocs.getD k noRl)) (fun k => (x.relocs.getD k noRl).at_) (fun k => (x.relocs.getD k noRl).at_ + wideI x (x.relocs.getD k noRl))
theorem relocs_all {x : Im} (h : relocsB x = true) : ∀ r ∈ x.relocs, relB x r = true := by
 intro r hr
 unfold relocsB at h
 simp only [Bool.and_eq_true] at h
 obtain ⟨k, hk, rfl⟩ := List.getElem_of_mem hr
 have := apart_yes hk h.2
 simpa only [List.getD_eq_getElem?_getD, List.getElem?_eq_getElem hk, Option.getD_some] using this
set_option maxHeartbeats 2000000 in
theorem relocs_any (p : Pl) (x : Im) (w : World) (h : ImIn w (fun k => k < w.heap.size) p x) (hf : Fit x) (hs : ∀ s ∈ x.segs, SegOk s) :
  Calls Tryz.prog 33 #[imV p x] w fun e w' => e = .returned (.bool (relocsB x)) ∧ Below w.heap.size w w' := by
 have hB := ibox_below w p x
 have hX := Ix.new w p x
 have hl := hf.relocs
 unfold Long at hl
 have HA := hD (apartRel_any p.rl.1 x.relocs.length p.rl.2 x.relocs 113 115 #[.pointer (some ⟨w.heap.size, 0, none⟩)] #[.pointer (some ⟨w.heap.size, 0, none⟩)] (fun k => relB x (x.relocs.getD k noRl)) (fun k => (x.relocs.getD k noRl).at_) (fun k => (x.relocs.getD k noRl).at_ + wideI x (x.relocs.getD k noRl))
  (w.alloc (.cells (imA p x) 40)) (h.lt hB).relocs.els (by omega) (fun _ _ => by go_simp) (fun _ _ => by go_simp)
  (fun k Y hk hY => rel_is_any p x _ _ Y ((h.lt hB).lt hY) hf hs (hX.below hY)) (fun k Y hk hp hY => rel_word_any p x _ _ Y ((h.lt hB).lt hY) hf hs (hX.below hY) hp))
 have HF := hD (show relocsB x = (decide (x.relocs.length ≤ 512) && apartB x.relocs.length (fun k => relB x (x.relocs.getD k noRl)) (fun k => (x.relocs.getD k noRl).at_) (fun k => (x.relocs.getD k noRl).at_ + wideI x (x.relocs.getD k noRl))) from rfl)
 generalize apartB x.relocs.length (fun k => relB x (x.relocs.getD k noRl)) (fun k => (x.relocs.getD k noRl).at_) (fun k => (x.relocs.getD k noRl).at_ + wideI x (x.relocs.getD k noRl)) = b2 at *
 have HB := hD hB
 obtain ⟨-, -, -, -, -, -, -, -, -, c9, -⟩ := hX.cells
 clear h hf hs hB hX
 go_enter Tryz.func33, Tryz.ntmps33
 go_upto_region 1 with (fail)
 change Code.wp _ _ _ _ (w.alloc (.cells (imA p x) 40))
 generalize w.alloc (.cells (imA p x) 40) = w1 at *
 go_wp2_with (go_at_call 117; (with_reducible refine (HA.out).mono ?_); rintro e w2 ⟨rfl, hb2⟩; have HB2 := hD (HB.out.trans (hb2.mono HB.out.size)); clear hb2)
 all_goals
  go_ret
  rw [HF.out]
  first
   | (refine ⟨?_, HB2.out⟩; simp [*] <;> (intros; omega))
   | (refine ⟨?_, HB.out⟩; simp [*] <;> (intros; omega))
def overB (x : Im) (a : Int) (r : Rl) : Bool := decide (r.at_ < a + 8) && decide (a < r.at_ + wideI x r)
set_option maxHeartbeats 2000000 in
theorem over_any (p : Pl) (x : Im) (r : Rl) (a : Int) (g ga : Nat) (w : World) (h : ImIn w (fun k => k < w.heap.size) p x) (hf : Fit x) (hs : ∀ s ∈ x.segs, SegOk s) (hi : Ix w g p x) (hr : relB x r = true) (ha : 0 ≤ a) (ha2 : a ≤ 65536)
  (hc : w.cell? ⟨ga, 0, none⟩ = some (.int .i64 a)) :
  Calls Tryz.prog 209 #[.agg (rlA r), .pointer (some ⟨ga, 0, none⟩), .pointer (some ⟨g, 0, none⟩)] w fun e w' => e = .returned (.bool (overB x a r)) ∧ Below w.heap.size w w' := by
 have hB := rlbox_below w r
 have HSO := hD (fun (X : World) (hX : RU w g ga a p x r X) => sizeOf_any p x r X (h.lt hX.1) hf.syms (kind_idx (rel_kind hr)))
 have HS := hD ((show RU w g ga a p x r (w.alloc (.cells (rlA r) 57)) from ⟨hB, hi.below hB, rl_cells w r, cell_below hB hc⟩).on (drew_below _))
 have hq := rel_range hs hr
 have hw := kind_wide hf (rel_kind hr)
 have e1 : wrap64 (r.at_ + wideI x r) = r.at_ + wideI x r := wrap_in (by omega) (by omega)
 have e2 : IntKind.i64.wrap (r.at_ + wideI x r) = r.at_ + wideI x r := (wrap_i64 _).trans e1
 have e3 : wrap64 (a + 8) = a + 8 := wrap_in (by omega) (by omega)
 have e4 : IntKind.i64.wrap (a + 8) = a + 8 := (wrap_i64 _).trans e3
 have HF := hD (show overB x a r = (decide (r.at_ < a + 8) && decide (a < r.at_ + wideI x r)) from rfl)
 generalize hwd : wideI x r = wd at *
 clear h hf hs hi hr hB hq hw hwd hc
 go_enter Tryz.func209, Tryz.ntmps209
 go_upto_region 1 with (fail)
 change Code.wp _ _ _ _ (w.alloc (.cells (rlA r) 57))
 by_cases hl : r.at_ < a + 8
 ·
  have HV := hD (show overB x a r = decide (a < r.at_ + wd) by rw [HF.out]; simp [hl])
  refine wp_region_held_drew (S := RU w g ga a p x r) (by kernel_rfl) HS.out (fun hHeld0 => ?_)
  refine tkI 0 5 (.pointer (some ⟨w.heap.size, 0, none⟩)) ?_
  simp only [Act.put, zI, zJ, zK]
  refine tjI 1 6 (.int .i64 r.at_) ?_ ?_
  ·
   intro X hX; obtain ⟨-, hI, hJ, hA⟩ := hX; obtain ⟨d0, d1, d2, d3⟩ := hJ.rl; go_simp
  (try simp only [Act.put, zI, zJ, zK])
  refine tjI 2 7 (.int .i64 a) ?_ ?_
  ·
   intro X hX; obtain ⟨-, hI, hJ, hA⟩ := hX; go_simp
  (try simp only [Act.put, zI, zJ, zK])
  refine tkI 3 8 (.int .i64 (a + 8)) ?_
  simp only [Act.put, zI, zJ, zK]
  refine tkI 4 9 (.bool true) ?_
  simp only [Act.put, zI, zJ, zK]
  refine tkI 5 10 (.bool true) ?_
  simp only [Act.put, zI, zJ, zK]
  refine tjI 6 11 (.int .i64 a) ?_ ?_
  ·
   intro X hX; obtain ⟨-, hI, hJ, hA⟩ := hX; go_simp
  (try simp only [Act.put, zI, zJ, zK])
  refine tkI 7 12 (.pointer (some ⟨w.heap.size, 0, none⟩)) ?_
  simp only [Act.put, zI, zJ, zK]
  refine tjI 8 13 (.int .i64 r.at_) ?_ ?_
  ·
   intro X hX; obtain ⟨-, hI, hJ, hA⟩ := hX; obtain ⟨d0, d1, d2, d3⟩ := hJ.rl; go_simp
  (try simp only [Act.put, zI, zJ, zK])
  refine tjI 9 14 (imV p x) ?_ ?_
  ·
   intro X hX; obtain ⟨-, hI, hJ, hA⟩ := hX; obtain ⟨c0, c1, c2, c3, c4, c5, c6, c7, c8, c9, c10, c11, c12, c13, c14⟩ := hI.cells; go_simp
  (try simp only [Act.put, zI, zJ, zK])
  refine tjI 10 15 (.agg (rlA r)) ?_ ?_
  ·
   intro X hX; obtain ⟨-, hI, hJ, hA⟩ := hX; obtain ⟨d0, d1, d2, d3⟩ := hJ.rl; go_simp
  (try simp only [Act.put, zI, zJ, zK])
  refine rYI 11 fun K hK => ?_
  go_simp
  refine (HSO.out _ hHeld0).mono ?_
  rintro e wq1 ⟨rfl, hq1⟩
  go_simp
  refine hK.out _ _ ((hHeld0).on hq1) (fun hHeld1 => ?_)
  clear hK K
  (try simp only [Act.put, zI, zJ, zK])
  refine tkI 12 17 (.int .i64 (r.at_ + wd)) ?_
  simp only [Act.put, zI, zJ, zK]
  refine tkI 13 18 (.bool (decide (a < r.at_ + wd))) ?_
  simp only [Act.put, zI, zJ, zK]
  refine tkI 14 19 (.bool (decide (a < r.at_ + wd))) ?_
  simp only [Act.put, zI, zJ, zK]
  refine tkI 15 4 (.bool (decide (a < r.at_ + wd))) ?_
  simp only [Act.put, zI, zJ, zK]
  refine wpAnyH_done (by kernel_rfl) ?_ _
  go_wp2_with fail
  first | go_ret | skip
  exact ⟨by rw [HV.out]; rfl, hHeld1.1⟩
 ·
  have HV := hD (show overB x a r = false by rw [HF.out]; simp [hl])
  refine wp_region_held_drew (S := RU w g ga a p x r) (by kernel_rfl) HS.out (fun hHeld0 => ?_)
  refine tkI 0 5 (.pointer (some ⟨w.heap.size, 0, none⟩)) ?_
  simp only [Act.put, zI, zJ, zK]
  refine tjI 1 6 (.int .i64 r.at_) ?_ ?_
  ·
   intro X hX; obtain ⟨-, hI, hJ, hA⟩ := hX; obtain ⟨d0, d1, d2, d3⟩ := hJ.rl; go_simp
  (try simp only [Act.put, zI, zJ, zK])
  refine tjI 2 7 (.int .i64 a) ?_ ?_
  ·
   intro X hX; obtain ⟨-, hI, hJ, hA⟩ := hX; go_simp
  (try simp only [Act.put, zI, zJ, zK])
  refine tkI 3 8 (.int .i64 (a + 8)) ?_
  simp only [Act.put, zI, zJ, zK]
  refine tkI 4 9 (.bool false) ?_
  simp only [Act.put, zI, zJ, zK]
  refine tkI 5 10 (.bool false) ?_
  simp only [Act.put, zI, zJ, zK]
  refine tnI 6 11 ?_
  simp only [Act.put, zI, zJ, zK]
  refine tnI 7 12 ?_
  simp only [Act.put, zI, zJ, zK]
  refine tnI 8 13 ?_
  simp only [Act.put, zI, zJ, zK]
  refine tnI 9 14 ?_
  simp only [Act.put, zI, zJ, zK]
  refine tnI 10 15 ?_
  simp only [Act.put, zI, zJ, zK]
  refine tnI 11 16 ?_
  simp only [Act.put, zI, zJ, zK]
  refine tnI 12 17 ?_
  simp only [Act.put, zI, zJ, zK]
  refine tnI 13 18 ?_
  simp only [Act.put, zI, zJ, zK]
  refine tkI 14 19 (.bool false) ?_
  simp only [Act.put, zI, zJ, zK]
  refine tkI 15 4 (.bool false) ?_
  simp only [Act.put, zI, zJ, zK]
  refine wpAnyH_done (by kernel_rfl) ?_ _
  go_wp2_with fail
  first | go_ret | skip
  exact ⟨by rw [HV.out]; rfl, hHeld0.1⟩
end Go.Proofs.YtfljignkjmabpaaGreat
