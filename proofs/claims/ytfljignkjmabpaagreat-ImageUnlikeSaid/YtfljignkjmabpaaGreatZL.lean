/-
  All relocations; what overlaps them (written by mk3.py).
  Slots and runs of an image.
  All slots, all runs.
-/
import Derived.Test.YtfljignkjmabpaaGreatZI
namespace Go.Proofs.YtfljignkjmabpaaGreat
set_option maxRecDepth 100000
set_option linter.unusedSimpArgs false
set_option linter.unusedVariables false
open Go.RowKit

theorem stand_range {l : List Sg} {a n q : Int} (h : standB l a n q = true) (hs : ∀ s ∈ l, SegOk s) : 0 ≤ a ∧ a + n ≤ 65536 := by
  unfold standB withB at h
  obtain ⟨s, hm, h⟩ := List.any_eq_true.1 h
  have := hs s hm
  unfold SegOk at this
  simp only [Bool.and_eq_true, decide_eq_true_eq] at h
  omega
theorem kind_wide {x : Im} {r : Rl} (hf : Fit x) (h : kindRB x r = true) : 0 ≤ wideI x r ∧ wideI x r ≤ 9223372036854775807 := by
  unfold wideI
  by_cases hk : r.kind = 2
  · rw [if_pos hk]
    obtain ⟨j, hj, hl⟩ := kind_idx h hk
    unfold kindRB at h
    rw [if_neg (by omega)] at h
    by_cases hi : idxB x.syms.length r.sym = false
    · rw [if_pos hi] at h; cases h
    rw [if_neg hi, if_neg (by omega), if_neg (by omega), if_neg (by omega), if_neg (by omega), if_pos hk] at h
    unfold copiedB at h
    simp only [Bool.and_eq_true, decide_eq_true_eq] at h
    have hq := hf.sym (x.syms.getD r.sym.toNat noSy) (getD_mem (by rw [hj]; exact hl))
    have := hq.2.2.2.2.2
    unfold I64 at this
    omega
  · rw [if_neg hk]
    omega
theorem rel_range {x : Im} {r : Rl} (hs : ∀ s ∈ x.segs, SegOk s) (h : relB x r = true) : 0 ≤ r.at_ ∧ r.at_ + wideI x r ≤ 65536 := by
  unfold relB at h
  simp only [Bool.and_eq_true] at h
  exact stand_range h.2 hs
theorem rel_kind {x : Im} {r : Rl} (h : relB x r = true) : kindRB x r = true := by
  unfold relB at h
  simp only [Bool.and_eq_true] at h
  exact h.1.2
def RT (w : World) (g : Nat) (p : Pl) (x : Im) (r : Rl) (X : World) : Prop := Below w.heap.size w X ∧ Ix X g p x ∧ Bx X w.heap.size (rlA r) 57
theorem RT.on {w X Y : World} {g : Nat} {p : Pl} {x : Im} {r : Rl} (h : RT w g p x r X) (hb : Below X.heap.size X Y) : RT w g p x r Y := ⟨h.1.trans (hb.mono h.1.size), h.2.1.below hb, h.2.2.below hb⟩
def RU (w : World) (g ga : Nat) (a : Int) (p : Pl) (x : Im) (r : Rl) (X : World) : Prop := Below w.heap.size w X ∧ Ix X g p x ∧ Bx X w.heap.size (rlA r) 57 ∧ X.cell? ⟨ga, 0, none⟩ = some (.int .i64 a)
theorem RU.on {w X Y : World} {g ga : Nat} {a : Int} {p : Pl} {x : Im} {r : Rl} (h : RU w g ga a p x r X) (hb : Below X.heap.size X Y) : RU w g ga a p x r Y := ⟨h.1.trans (hb.mono h.1.size), h.2.1.below hb, h.2.2.1.below hb, cell_below hb h.2.2.2⟩
theorem rlbox_below (w : World) (r : Rl) : Below w.heap.size w (w.alloc (.cells (rlA r) 57)) := (Below.refl _ _).alloc (Nat.le_refl _) _
set_option maxHeartbeats 2000000 in
theorem rel_is_any (p : Pl) (x : Im) (r : Rl) (g : Nat) (w : World) (h : ImIn w (fun k => k < w.heap.size) p x) (hf : Fit x) (hs : ∀ s ∈ x.segs, SegOk s) (hi : Ix w g p x) :
    Calls Tryz.prog 113 #[.agg (rlA r), .pointer (some ⟨g, 0, none⟩)] w fun e w' => e = .returned (.bool (relB x r)) ∧ Below w.heap.size w w' := by
  have HB := Lib.hid (rlbox_below w r)
  have HC := Lib.hid (isReloc_any p x r (w.alloc (.cells (rlA r) 57)) (h.lt HB.out) hf hs (kind_wide hf))
  obtain ⟨d0, d1, d2, d3⟩ := (rl_cells w r).rl
  obtain ⟨c0, c1, c2, c3, c4, c5, c6, c7, c8, c9, c10, c11, c12, c13, c14⟩ := (hi.below HB.out).cells
  generalize relB x r = b at *
  clear h hf hs hi
  go_enter Tryz.func113, Tryz.ntmps113
  go_upto_region 1 with (fail)
  change Code.wp _ _ _ _ (w.alloc (.cells (rlA r) 57))
  generalize w.alloc (.cells (rlA r) 57) = w1 at *
  go_upto_region 99 with (go_at_call 114; (with_reducible refine (HC.out).mono ?_); rintro e w2 ⟨rfl, hb2⟩)
  first | go_ret | skip
  exact ⟨rfl, HB.out.trans (hb2.mono HB.out.size)⟩
set_option maxHeartbeats 2000000 in
theorem rel_word_any (p : Pl) (x : Im) (r : Rl) (g : Nat) (w : World) (h : ImIn w (fun k => k < w.heap.size) p x) (hf : Fit x) (hs : ∀ s ∈ x.segs, SegOk s) (hi : Ix w g p x) (hr : relB x r = true) :
    Calls Tryz.prog 115 #[.agg (rlA r), .pointer (some ⟨g, 0, none⟩)] w fun e w' => e = .returned (.tuple #[.int .i64 r.at_, .int .i64 (r.at_ + wideI x r)]) ∧ Below w.heap.size w w' := by
  have hB := rlbox_below w r
  have HSO := Lib.hid (fun (X : World) (hX : RT w g p x r X) => sizeOf_any p x r X (h.lt hX.1) hf.syms (kind_idx (rel_kind hr)))
  have HS := Lib.hid ((show RT w g p x r (w.alloc (.cells (rlA r) 57)) from ⟨hB, hi.below hB, rl_cells w r⟩).on (drew_below _))
  have hq := rel_range hs hr
  have hw := kind_wide hf (rel_kind hr)
  have e1 : wrap64 (r.at_ + wideI x r) = r.at_ + wideI x r := wrap_in (by omega) (by omega)
  have e2 : IntKind.i64.wrap (r.at_ + wideI x r) = r.at_ + wideI x r := (wrap_i64 _).trans e1
  generalize hwd : wideI x r = wd at *
  clear h hf hs hi hr hB hq hw hwd
  go_enter Tryz.func115, Tryz.ntmps115
  go_upto_region 1 with (fail)
  change Code.wp _ _ _ _ (w.alloc (.cells (rlA r) 57))
  refine wp_region_held_drew (S := RT w g p x r) (by kernel_rfl) HS.out (fun hHeld0 => ?_)
  refine take_at (i := 0) (d := 5) (v := .pointer (some ⟨w.heap.size, 0, none⟩)) rfl rfl (by kernel_rfl) (by kernel_rfl) (by kernel_rfl) (fun _ _ _ h => h) (Or.inl ⟨by rfl, ?_⟩) (by assumption) ?_
  · intro X hX; go_simp
  (try simp only [Act.put, List.setIfInBounds_toArray, List.set_cons_zero, List.set_cons_succ])
  refine take_at (i := 1) (d := 6) (v := .int .i64 r.at_) rfl rfl (by kernel_rfl) (by kernel_rfl) (by kernel_rfl) (fun _ _ _ h => h) (Or.inl ⟨by rfl, ?_⟩) (by assumption) ?_
  · intro X hX; obtain ⟨-, hI, hJ⟩ := hX; obtain ⟨d0, d1, d2, d3⟩ := hJ.rl; go_simp
  (try simp only [Act.put, List.setIfInBounds_toArray, List.set_cons_zero, List.set_cons_succ])
  refine take_at (i := 2) (d := 7) (v := .pointer (some ⟨w.heap.size, 0, none⟩)) rfl rfl (by kernel_rfl) (by kernel_rfl) (by kernel_rfl) (fun _ _ _ h => h) (Or.inl ⟨by rfl, ?_⟩) (by assumption) ?_
  · intro X hX; go_simp
  (try simp only [Act.put, List.setIfInBounds_toArray, List.set_cons_zero, List.set_cons_succ])
  refine take_at (i := 3) (d := 8) (v := .int .i64 r.at_) rfl rfl (by kernel_rfl) (by kernel_rfl) (by kernel_rfl) (fun _ _ _ h => h) (Or.inl ⟨by rfl, ?_⟩) (by assumption) ?_
  · intro X hX; obtain ⟨-, hI, hJ⟩ := hX; obtain ⟨d0, d1, d2, d3⟩ := hJ.rl; go_simp
  (try simp only [Act.put, List.setIfInBounds_toArray, List.set_cons_zero, List.set_cons_succ])
  refine take_at (i := 4) (d := 9) (v := imV p x) rfl rfl (by kernel_rfl) (by kernel_rfl) (by kernel_rfl) (fun _ _ _ h => h) (Or.inl ⟨by rfl, ?_⟩) (by assumption) ?_
  · intro X hX; obtain ⟨-, hI, hJ⟩ := hX; obtain ⟨c0, c1, c2, c3, c4, c5, c6, c7, c8, c9, c10, c11, c12, c13, c14⟩ := hI.cells; go_simp
  (try simp only [Act.put, List.setIfInBounds_toArray, List.set_cons_zero, List.set_cons_succ])
  refine take_at (i := 5) (d := 10) (v := .agg (rlA r)) rfl rfl (by kernel_rfl) (by kernel_rfl) (by kernel_rfl) (fun _ _ _ h => h) (Or.inl ⟨by rfl, ?_⟩) (by assumption) ?_
  · intro X hX; obtain ⟨-, hI, hJ⟩ := hX; obtain ⟨d0, d1, d2, d3⟩ := hJ.rl; go_simp
  (try simp only [Act.put, List.setIfInBounds_toArray, List.set_cons_zero, List.set_cons_succ])
  refine wpAnyH_ready (rs := [6]) (by kernel_rfl) (by simp) ?_
  refine AllReadyH.cons rfl (fun K hK => ?_) AllReadyH.nil
  go_simp
  refine (HSO.out _ hHeld0).mono ?_
  rintro e wq1 ⟨rfl, hq1⟩
  go_simp
  refine hK.out _ _ ((hHeld0).on hq1) (fun hHeld1 => ?_)
  clear hK K
  (try simp only [Act.put, List.setIfInBounds_toArray, List.set_cons_zero, List.set_cons_succ])
  refine take_at (i := 7) (d := 12) (v := .int .i64 (r.at_ + wd)) rfl rfl (by kernel_rfl) (by kernel_rfl) (by kernel_rfl) (fun _ _ _ h => h) (Or.inl ⟨by rfl, ?_⟩) (by assumption) ?_
  · intro X hX; go_simp
  (try simp only [Act.put, List.setIfInBounds_toArray, List.set_cons_zero, List.set_cons_succ])
  refine take_at (i := 8) (d := 3) (v := .int .i64 r.at_) rfl rfl (by kernel_rfl) (by kernel_rfl) (by kernel_rfl) (fun _ _ _ h => h) (Or.inl ⟨by rfl, ?_⟩) (by assumption) ?_
  · intro X hX; go_simp
  (try simp only [Act.put, List.setIfInBounds_toArray, List.set_cons_zero, List.set_cons_succ])
  refine take_at (i := 9) (d := 4) (v := .int .i64 (r.at_ + wd)) rfl rfl (by kernel_rfl) (by kernel_rfl) (by kernel_rfl) (fun _ _ _ h => h) (Or.inl ⟨by rfl, ?_⟩) (by assumption) ?_
  · intro X hX; go_simp
  (try simp only [Act.put, List.setIfInBounds_toArray, List.set_cons_zero, List.set_cons_succ])
  refine wpAnyH_done (by kernel_rfl) ?_ _
  go_wp2_with fail
  first | go_ret2 | go_ret | skip
  exact ⟨rfl, hHeld1.1⟩
def relocsB (x : Im) : Bool := decide (x.relocs.length ≤ 512) && apartB x.relocs.length (fun k => relB x (x.relocs.getD k noRl)) (fun k => (x.relocs.getD k noRl).at_) (fun k => (x.relocs.getD k noRl).at_ + wideI x (x.relocs.getD k noRl))
theorem relocs_all {x : Im} (h : relocsB x = true) : ∀ r ∈ x.relocs, relB x r = true := by
  intro r hr
  unfold relocsB at h
  simp only [Bool.and_eq_true] at h
  obtain ⟨k, hk, rfl⟩ := List.getElem_of_mem hr
  have := apart_yes hk h.2
  simpa only [List.getD_eq_getElem?_getD, List.getElem?_eq_getElem hk, Option.getD_some] using this
set_option maxHeartbeats 2000000 in
theorem relocs_any (p : Pl) (x : Im) (w : World) (h : ImIn w (fun k => k < w.heap.size) p x) (hf : Fit x) (hs : ∀ s ∈ x.segs, SegOk s) :
    Calls Tryz.prog 33 #[imV p x] w fun e w' => e = .returned (.bool (relocsB x)) ∧ Below w.heap.size w w' := by
  have hB := ibox_below w p x
  have hX := Ix.new w p x
  have hl := hf.relocs
  unfold Long at hl
  have HA := Lib.hid (apartRel_any p.rl.1 x.relocs.length p.rl.2 x.relocs 113 115 #[.pointer (some ⟨w.heap.size, 0, none⟩)] #[.pointer (some ⟨w.heap.size, 0, none⟩)] (fun k => relB x (x.relocs.getD k noRl)) (fun k => (x.relocs.getD k noRl).at_) (fun k => (x.relocs.getD k noRl).at_ + wideI x (x.relocs.getD k noRl))
    (w.alloc (.cells (imA p x) 40)) (h.lt hB).relocs.els (by omega) (fun _ _ => by go_simp) (fun _ _ => by go_simp)
    (fun k Y hk hY => rel_is_any p x _ _ Y ((h.lt hB).lt hY) hf hs (hX.below hY)) (fun k Y hk hp hY => rel_word_any p x _ _ Y ((h.lt hB).lt hY) hf hs (hX.below hY) hp))
  have HF := Lib.hid (show relocsB x = (decide (x.relocs.length ≤ 512) && apartB x.relocs.length (fun k => relB x (x.relocs.getD k noRl)) (fun k => (x.relocs.getD k noRl).at_) (fun k => (x.relocs.getD k noRl).at_ + wideI x (x.relocs.getD k noRl))) from rfl)
  generalize apartB x.relocs.length (fun k => relB x (x.relocs.getD k noRl)) (fun k => (x.relocs.getD k noRl).at_) (fun k => (x.relocs.getD k noRl).at_ + wideI x (x.relocs.getD k noRl)) = b2 at *
  have HB := Lib.hid hB
  obtain ⟨-, -, -, -, -, -, -, -, -, c9, -⟩ := hX.cells
  clear h hf hs hB hX
  go_enter Tryz.func33, Tryz.ntmps33
  go_upto_region 1 with (fail)
  change Code.wp _ _ _ _ (w.alloc (.cells (imA p x) 40))
  generalize w.alloc (.cells (imA p x) 40) = w1 at *
  go_wp2_with (go_at_call 117; (with_reducible refine (HA.out).mono ?_); rintro e w2 ⟨rfl, hb2⟩; have HB2 := Lib.hid (HB.out.trans (hb2.mono HB.out.size)); clear hb2)
  all_goals
    go_ret
    rw [HF.out]
    first
      | (refine ⟨?_, HB2.out⟩; simp [*] <;> (intros; omega))
      | (refine ⟨?_, HB.out⟩; simp [*] <;> (intros; omega))
/-- Does a relocation's word overlap eight bytes at a? -/
def overB (x : Im) (a : Int) (r : Rl) : Bool := decide (r.at_ < a + 8) && decide (a < r.at_ + wideI x r)
set_option maxHeartbeats 2000000 in
theorem over_any (p : Pl) (x : Im) (r : Rl) (a : Int) (g ga : Nat) (w : World) (h : ImIn w (fun k => k < w.heap.size) p x) (hf : Fit x) (hs : ∀ s ∈ x.segs, SegOk s) (hi : Ix w g p x) (hr : relB x r = true) (ha : 0 ≤ a) (ha2 : a ≤ 65536)
    (hc : w.cell? ⟨ga, 0, none⟩ = some (.int .i64 a)) :
    Calls Tryz.prog 209 #[.agg (rlA r), .pointer (some ⟨ga, 0, none⟩), .pointer (some ⟨g, 0, none⟩)] w fun e w' => e = .returned (.bool (overB x a r)) ∧ Below w.heap.size w w' := by
  have hB := rlbox_below w r
  have HSO := Lib.hid (fun (X : World) (hX : RU w g ga a p x r X) => sizeOf_any p x r X (h.lt hX.1) hf.syms (kind_idx (rel_kind hr)))
  have HS := Lib.hid ((show RU w g ga a p x r (w.alloc (.cells (rlA r) 57)) from ⟨hB, hi.below hB, rl_cells w r, cell_below hB hc⟩).on (drew_below _))
  have hq := rel_range hs hr
  have hw := kind_wide hf (rel_kind hr)
  have e1 : wrap64 (r.at_ + wideI x r) = r.at_ + wideI x r := wrap_in (by omega) (by omega)
  have e2 : IntKind.i64.wrap (r.at_ + wideI x r) = r.at_ + wideI x r := (wrap_i64 _).trans e1
  have e3 : wrap64 (a + 8) = a + 8 := wrap_in (by omega) (by omega)
  have e4 : IntKind.i64.wrap (a + 8) = a + 8 := (wrap_i64 _).trans e3
  have HF := Lib.hid (show overB x a r = (decide (r.at_ < a + 8) && decide (a < r.at_ + wideI x r)) from rfl)
  generalize hwd : wideI x r = wd at *
  clear h hf hs hi hr hB hq hw hwd hc
  go_enter Tryz.func209, Tryz.ntmps209
  go_upto_region 1 with (fail)
  change Code.wp _ _ _ _ (w.alloc (.cells (rlA r) 57))
  by_cases hl : r.at_ < a + 8
  · have HV := Lib.hid (show overB x a r = decide (a < r.at_ + wd) by rw [HF.out]; simp [hl])
    refine wp_region_held_drew (S := RU w g ga a p x r) (by kernel_rfl) HS.out (fun hHeld0 => ?_)
    refine take_at (i := 0) (d := 5) (v := .pointer (some ⟨w.heap.size, 0, none⟩)) rfl rfl (by kernel_rfl) (by kernel_rfl) (by kernel_rfl) (fun _ _ _ h => h) (Or.inl ⟨by rfl, ?_⟩) (by assumption) ?_
    · intro X hX; go_simp
    (try simp only [Act.put, List.setIfInBounds_toArray, List.set_cons_zero, List.set_cons_succ])
    refine take_at (i := 1) (d := 6) (v := .int .i64 r.at_) rfl rfl (by kernel_rfl) (by kernel_rfl) (by kernel_rfl) (fun _ _ _ h => h) (Or.inl ⟨by rfl, ?_⟩) (by assumption) ?_
    · intro X hX; obtain ⟨-, hI, hJ, hA⟩ := hX; obtain ⟨d0, d1, d2, d3⟩ := hJ.rl; go_simp
    (try simp only [Act.put, List.setIfInBounds_toArray, List.set_cons_zero, List.set_cons_succ])
    refine take_at (i := 2) (d := 7) (v := .int .i64 a) rfl rfl (by kernel_rfl) (by kernel_rfl) (by kernel_rfl) (fun _ _ _ h => h) (Or.inl ⟨by rfl, ?_⟩) (by assumption) ?_
    · intro X hX; obtain ⟨-, hI, hJ, hA⟩ := hX; go_simp
    (try simp only [Act.put, List.setIfInBounds_toArray, List.set_cons_zero, List.set_cons_succ])
    refine take_at (i := 3) (d := 8) (v := .int .i64 (a + 8)) rfl rfl (by kernel_rfl) (by kernel_rfl) (by kernel_rfl) (fun _ _ _ h => h) (Or.inl ⟨by rfl, ?_⟩) (by assumption) ?_
    · intro X hX; go_simp
    (try simp only [Act.put, List.setIfInBounds_toArray, List.set_cons_zero, List.set_cons_succ])
    refine take_at (i := 4) (d := 9) (v := .bool true) rfl rfl (by kernel_rfl) (by kernel_rfl) (by kernel_rfl) (fun _ _ _ h => h) (Or.inl ⟨by rfl, ?_⟩) (by assumption) ?_
    · intro X hX; go_simp
    (try simp only [Act.put, List.setIfInBounds_toArray, List.set_cons_zero, List.set_cons_succ])
    refine take_at (i := 5) (d := 10) (v := .bool true) rfl rfl (by kernel_rfl) (by kernel_rfl) (by kernel_rfl) (fun _ _ _ h => h) (Or.inl ⟨by rfl, ?_⟩) (by assumption) ?_
    · intro X hX; go_simp
    (try simp only [Act.put, List.setIfInBounds_toArray, List.set_cons_zero, List.set_cons_succ])
    refine take_at (i := 6) (d := 11) (v := .int .i64 a) rfl rfl (by kernel_rfl) (by kernel_rfl) (by kernel_rfl) (fun _ _ _ h => h) (Or.inl ⟨by rfl, ?_⟩) (by assumption) ?_
    · intro X hX; obtain ⟨-, hI, hJ, hA⟩ := hX; go_simp
    (try simp only [Act.put, List.setIfInBounds_toArray, List.set_cons_zero, List.set_cons_succ])
    refine take_at (i := 7) (d := 12) (v := .pointer (some ⟨w.heap.size, 0, none⟩)) rfl rfl (by kernel_rfl) (by kernel_rfl) (by kernel_rfl) (fun _ _ _ h => h) (Or.inl ⟨by rfl, ?_⟩) (by assumption) ?_
    · intro X hX; go_simp
    (try simp only [Act.put, List.setIfInBounds_toArray, List.set_cons_zero, List.set_cons_succ])
    refine take_at (i := 8) (d := 13) (v := .int .i64 r.at_) rfl rfl (by kernel_rfl) (by kernel_rfl) (by kernel_rfl) (fun _ _ _ h => h) (Or.inl ⟨by rfl, ?_⟩) (by assumption) ?_
    · intro X hX; obtain ⟨-, hI, hJ, hA⟩ := hX; obtain ⟨d0, d1, d2, d3⟩ := hJ.rl; go_simp
    (try simp only [Act.put, List.setIfInBounds_toArray, List.set_cons_zero, List.set_cons_succ])
    refine take_at (i := 9) (d := 14) (v := imV p x) rfl rfl (by kernel_rfl) (by kernel_rfl) (by kernel_rfl) (fun _ _ _ h => h) (Or.inl ⟨by rfl, ?_⟩) (by assumption) ?_
    · intro X hX; obtain ⟨-, hI, hJ, hA⟩ := hX; obtain ⟨c0, c1, c2, c3, c4, c5, c6, c7, c8, c9, c10, c11, c12, c13, c14⟩ := hI.cells; go_simp
    (try simp only [Act.put, List.setIfInBounds_toArray, List.set_cons_zero, List.set_cons_succ])
    refine take_at (i := 10) (d := 15) (v := .agg (rlA r)) rfl rfl (by kernel_rfl) (by kernel_rfl) (by kernel_rfl) (fun _ _ _ h => h) (Or.inl ⟨by rfl, ?_⟩) (by assumption) ?_
    · intro X hX; obtain ⟨-, hI, hJ, hA⟩ := hX; obtain ⟨d0, d1, d2, d3⟩ := hJ.rl; go_simp
    (try simp only [Act.put, List.setIfInBounds_toArray, List.set_cons_zero, List.set_cons_succ])
    refine wpAnyH_ready (rs := [11]) (by kernel_rfl) (by simp) ?_
    refine AllReadyH.cons rfl (fun K hK => ?_) AllReadyH.nil
    go_simp
    refine (HSO.out _ hHeld0).mono ?_
    rintro e wq1 ⟨rfl, hq1⟩
    go_simp
    refine hK.out _ _ ((hHeld0).on hq1) (fun hHeld1 => ?_)
    clear hK K
    (try simp only [Act.put, List.setIfInBounds_toArray, List.set_cons_zero, List.set_cons_succ])
    refine take_at (i := 12) (d := 17) (v := .int .i64 (r.at_ + wd)) rfl rfl (by kernel_rfl) (by kernel_rfl) (by kernel_rfl) (fun _ _ _ h => h) (Or.inl ⟨by rfl, ?_⟩) (by assumption) ?_
    · intro X hX; go_simp
    (try simp only [Act.put, List.setIfInBounds_toArray, List.set_cons_zero, List.set_cons_succ])
    refine take_at (i := 13) (d := 18) (v := .bool (decide (a < r.at_ + wd))) rfl rfl (by kernel_rfl) (by kernel_rfl) (by kernel_rfl) (fun _ _ _ h => h) (Or.inl ⟨by rfl, ?_⟩) (by assumption) ?_
    · intro X hX; go_simp
    (try simp only [Act.put, List.setIfInBounds_toArray, List.set_cons_zero, List.set_cons_succ])
    refine take_at (i := 14) (d := 19) (v := .bool (decide (a < r.at_ + wd))) rfl rfl (by kernel_rfl) (by kernel_rfl) (by kernel_rfl) (fun _ _ _ h => h) (Or.inl ⟨by rfl, ?_⟩) (by assumption) ?_
    · intro X hX; go_simp
    (try simp only [Act.put, List.setIfInBounds_toArray, List.set_cons_zero, List.set_cons_succ])
    refine take_at (i := 15) (d := 4) (v := .bool (decide (a < r.at_ + wd))) rfl rfl (by kernel_rfl) (by kernel_rfl) (by kernel_rfl) (fun _ _ _ h => h) (Or.inl ⟨by rfl, ?_⟩) (by assumption) ?_
    · intro X hX; go_simp
    (try simp only [Act.put, List.setIfInBounds_toArray, List.set_cons_zero, List.set_cons_succ])
    refine wpAnyH_done (by kernel_rfl) ?_ _
    go_wp2_with fail
    first | go_ret | skip
    exact ⟨by rw [HV.out]; rfl, hHeld1.1⟩
  · have HV := Lib.hid (show overB x a r = false by rw [HF.out]; simp [hl])
    refine wp_region_held_drew (S := RU w g ga a p x r) (by kernel_rfl) HS.out (fun hHeld0 => ?_)
    refine take_at (i := 0) (d := 5) (v := .pointer (some ⟨w.heap.size, 0, none⟩)) rfl rfl (by kernel_rfl) (by kernel_rfl) (by kernel_rfl) (fun _ _ _ h => h) (Or.inl ⟨by rfl, ?_⟩) (by assumption) ?_
    · intro X hX; go_simp
    (try simp only [Act.put, List.setIfInBounds_toArray, List.set_cons_zero, List.set_cons_succ])
    refine take_at (i := 1) (d := 6) (v := .int .i64 r.at_) rfl rfl (by kernel_rfl) (by kernel_rfl) (by kernel_rfl) (fun _ _ _ h => h) (Or.inl ⟨by rfl, ?_⟩) (by assumption) ?_
    · intro X hX; obtain ⟨-, hI, hJ, hA⟩ := hX; obtain ⟨d0, d1, d2, d3⟩ := hJ.rl; go_simp
    (try simp only [Act.put, List.setIfInBounds_toArray, List.set_cons_zero, List.set_cons_succ])
    refine take_at (i := 2) (d := 7) (v := .int .i64 a) rfl rfl (by kernel_rfl) (by kernel_rfl) (by kernel_rfl) (fun _ _ _ h => h) (Or.inl ⟨by rfl, ?_⟩) (by assumption) ?_
    · intro X hX; obtain ⟨-, hI, hJ, hA⟩ := hX; go_simp
    (try simp only [Act.put, List.setIfInBounds_toArray, List.set_cons_zero, List.set_cons_succ])
    refine take_at (i := 3) (d := 8) (v := .int .i64 (a + 8)) rfl rfl (by kernel_rfl) (by kernel_rfl) (by kernel_rfl) (fun _ _ _ h => h) (Or.inl ⟨by rfl, ?_⟩) (by assumption) ?_
    · intro X hX; go_simp
    (try simp only [Act.put, List.setIfInBounds_toArray, List.set_cons_zero, List.set_cons_succ])
    refine take_at (i := 4) (d := 9) (v := .bool false) rfl rfl (by kernel_rfl) (by kernel_rfl) (by kernel_rfl) (fun _ _ _ h => h) (Or.inl ⟨by rfl, ?_⟩) (by assumption) ?_
    · intro X hX; go_simp
    (try simp only [Act.put, List.setIfInBounds_toArray, List.set_cons_zero, List.set_cons_succ])
    refine take_at (i := 5) (d := 10) (v := .bool false) rfl rfl (by kernel_rfl) (by kernel_rfl) (by kernel_rfl) (fun _ _ _ h => h) (Or.inl ⟨by rfl, ?_⟩) (by assumption) ?_
    · intro X hX; go_simp
    (try simp only [Act.put, List.setIfInBounds_toArray, List.set_cons_zero, List.set_cons_succ])
    refine take_at (i := 6) (d := 11) (v := undef) rfl rfl (by kernel_rfl) (by kernel_rfl) (by kernel_rfl) (fun _ _ _ h => h) (Or.inr ⟨by rfl, rfl⟩) (by assumption) ?_
    (try simp only [Act.put, List.setIfInBounds_toArray, List.set_cons_zero, List.set_cons_succ])
    refine take_at (i := 7) (d := 12) (v := undef) rfl rfl (by kernel_rfl) (by kernel_rfl) (by kernel_rfl) (fun _ _ _ h => h) (Or.inr ⟨by rfl, rfl⟩) (by assumption) ?_
    (try simp only [Act.put, List.setIfInBounds_toArray, List.set_cons_zero, List.set_cons_succ])
    refine take_at (i := 8) (d := 13) (v := undef) rfl rfl (by kernel_rfl) (by kernel_rfl) (by kernel_rfl) (fun _ _ _ h => h) (Or.inr ⟨by rfl, rfl⟩) (by assumption) ?_
    (try simp only [Act.put, List.setIfInBounds_toArray, List.set_cons_zero, List.set_cons_succ])
    refine take_at (i := 9) (d := 14) (v := undef) rfl rfl (by kernel_rfl) (by kernel_rfl) (by kernel_rfl) (fun _ _ _ h => h) (Or.inr ⟨by rfl, rfl⟩) (by assumption) ?_
    (try simp only [Act.put, List.setIfInBounds_toArray, List.set_cons_zero, List.set_cons_succ])
    refine take_at (i := 10) (d := 15) (v := undef) rfl rfl (by kernel_rfl) (by kernel_rfl) (by kernel_rfl) (fun _ _ _ h => h) (Or.inr ⟨by rfl, rfl⟩) (by assumption) ?_
    (try simp only [Act.put, List.setIfInBounds_toArray, List.set_cons_zero, List.set_cons_succ])
    refine take_at (i := 11) (d := 16) (v := undef) rfl rfl (by kernel_rfl) (by kernel_rfl) (by kernel_rfl) (fun _ _ _ h => h) (Or.inr ⟨by rfl, rfl⟩) (by assumption) ?_
    (try simp only [Act.put, List.setIfInBounds_toArray, List.set_cons_zero, List.set_cons_succ])
    refine take_at (i := 12) (d := 17) (v := undef) rfl rfl (by kernel_rfl) (by kernel_rfl) (by kernel_rfl) (fun _ _ _ h => h) (Or.inr ⟨by rfl, rfl⟩) (by assumption) ?_
    (try simp only [Act.put, List.setIfInBounds_toArray, List.set_cons_zero, List.set_cons_succ])
    refine take_at (i := 13) (d := 18) (v := undef) rfl rfl (by kernel_rfl) (by kernel_rfl) (by kernel_rfl) (fun _ _ _ h => h) (Or.inr ⟨by rfl, rfl⟩) (by assumption) ?_
    (try simp only [Act.put, List.setIfInBounds_toArray, List.set_cons_zero, List.set_cons_succ])
    refine take_at (i := 14) (d := 19) (v := .bool false) rfl rfl (by kernel_rfl) (by kernel_rfl) (by kernel_rfl) (fun _ _ _ h => h) (Or.inl ⟨by rfl, ?_⟩) (by assumption) ?_
    · intro X hX; go_simp
    (try simp only [Act.put, List.setIfInBounds_toArray, List.set_cons_zero, List.set_cons_succ])
    refine take_at (i := 15) (d := 4) (v := .bool false) rfl rfl (by kernel_rfl) (by kernel_rfl) (by kernel_rfl) (fun _ _ _ h => h) (Or.inl ⟨by rfl, ?_⟩) (by assumption) ?_
    · intro X hX; go_simp
    (try simp only [Act.put, List.setIfInBounds_toArray, List.set_cons_zero, List.set_cons_succ])
    refine wpAnyH_done (by kernel_rfl) ?_ _
    go_wp2_with fail
    first | go_ret | skip
    exact ⟨by rw [HV.out]; rfl, hHeld0.1⟩
end Go.Proofs.YtfljignkjmabpaaGreat

namespace Go.Proofs.YtfljignkjmabpaaGreat
set_option maxRecDepth 100000
set_option linter.unusedSimpArgs false
set_option linter.unusedVariables false
open Go.RowKit

def overAny (x : Im) (a : Int) : Bool := x.relocs.any (overB x a)
set_option maxHeartbeats 2000000 in
theorem isRelocated_any (p : Pl) (x : Im) (a : Int) (w : World) (h : ImIn w (fun k => k < w.heap.size) p x) (hf : Fit x) (hs : ∀ s ∈ x.segs, SegOk s) (hr : ∀ r ∈ x.relocs, relB x r = true) (ha : 0 ≤ a) (ha2 : a ≤ 65536) :
    Calls Tryz.prog 182 #[imV p x, .int .i64 a] w fun e w' => e = .returned (.bool (overAny x a)) ∧ Below w.heap.size w w' := by
  have hb1 := ibox_below w p x
  have hx1 := Ix.new w p x
  generalize hw1 : w.alloc (.cells (imA p x) 40) = w1 at *
  have hb2 := (Below.refl w1.heap.size w1).alloc (Nat.le_refl _) (.cells #[.int .i64 a] 3)
  have hx2 := Bx.new w1 #[.int .i64 a] 3
  generalize hw2 : w1.alloc (.cells #[.int .i64 a] 3) = w2 at *
  have z1 : w1.heap.size = w.heap.size + 1 := by rw [← hw1]; simp
  have hl := hf.relocs
  unfold Long at hl
  have hB := hb1.trans (hb2.mono (by omega))
  have HC := Lib.hid (cfRel_any p.rl.1 x.relocs.length p.rl.2 x.relocs 209 #[.pointer (some ⟨w1.heap.size, 0, none⟩), .pointer (some ⟨w.heap.size, 0, none⟩)] (fun k => overB x a (x.relocs.getD k noRl)) w2 (h.lt hB).relocs.els (by omega) (fun _ _ => by go_simp)
    (fun k Y hk hY => over_any p x _ a _ _ Y ((h.lt hB).lt hY) hf hs ((hx1.below hb2).below hY) (hr _ (getD_mem hk)) ha ha2 ((hx2.below hY).c 0)))
  rw [range_any x.relocs noRl (overB x a), z1] at HC
  have HF := Lib.hid (show overAny x a = x.relocs.any (overB x a) from rfl)
  have HB := Lib.hid hB
  obtain ⟨-, -, -, -, -, -, -, -, -, c9, -⟩ := (hx1.below hb2).cells
  clear h hf hs hr ha ha2 hb1 hb2 hx1 hx2 hB
  go_enter Tryz.func182, Tryz.ntmps182
  go_upto_region 1 with (fail)
  go_upto_region 99 with (go_at_call 208; (with_reducible refine (HC.out).mono ?_); rintro e w5 ⟨rfl, hb5⟩)
  first | go_ret | skip
  exact ⟨by rw [HF.out]; rfl, HB.out.trans (hb5.mono HB.out.size)⟩
def slotB (x : Im) (s : Sl) : Bool := idxB x.syms.length s.sym && decide ((x.syms.getD s.sym.toNat noSy).kind = 1) && standB x.segs s.stub 8 4 && standB x.segs s.at_ 8 0 && !overAny x s.at_
def SS (w : World) (p : Pl) (x : Im) (s : Sl) (X : World) : Prop := Below w.heap.size w X ∧ Ix X w.heap.size p x ∧ Bx X (w.heap.size + 1) (slA s) 112
theorem SS.on {w X Y : World} {p : Pl} {x : Im} {s : Sl} (h : SS w p x s X) (hb : Below X.heap.size X Y) : SS w p x s Y := ⟨h.1.trans (hb.mono h.1.size), h.2.1.below hb, h.2.2.below hb⟩
theorem Bx.sl {w : World} {g : Nat} {s : Sl} (h : Bx w g (slA s) 112) : w.cell? ⟨g, 0, none⟩ = some (.int .i64 s.at_) ∧ w.cell? ⟨g, 1, none⟩ = some (.int .i64 s.sym) ∧ w.cell? ⟨g, 2, none⟩ = some (.int .i64 s.stub) := ⟨h.c 0, h.c 1, h.c 2⟩
theorem im_sl (w : World) (p : Pl) (x : Im) (s : Sl) : ∃ W : World, W = (w.alloc (.cells (imA p x) 40)).alloc (.cells (slA s) 112) ∧ SS w p x s W := by
  refine ⟨_, rfl, (ibox_below w p x).alloc (by simp) _, ⟨(Ix.new w p x).bx.alloc _⟩, ?_⟩
  have := Bx.new (w.alloc (.cells (imA p x) 40)) (slA s) 112
  simpa using this
set_option maxHeartbeats 4000000 in
theorem isSlot_any (p : Pl) (x : Im) (s : Sl) (w : World) (h : ImIn w (fun k => k < w.heap.size) p x) (hf : Fit x) (hs : ∀ s ∈ x.segs, SegOk s) (hr : ∀ r ∈ x.relocs, relB x r = true) :
    Calls Tryz.prog 119 #[imV p x, .agg (slA s)] w fun e w' => e = .returned (.bool (slotB x s)) ∧ Below w.heap.size w w' := by
  obtain ⟨sg, nd, rp, ⟨sya, syc⟩, bk, fw, rl, sl, ini, fin, tl⟩ := p
  obtain ⟨W, hW, hS⟩ := im_sl w ⟨sg, nd, rp, ⟨sya, syc⟩, bk, fw, rl, sl, ini, fin, tl⟩ x s
  have HS := Lib.hid hS
  have HM := Lib.hid (fun (X : World) (hX : SS w ⟨sg, nd, rp, ⟨sya, syc⟩, bk, fw, rl, sl, ini, fin, tl⟩ x s X) => (h.lt hX.1).syms)
  have HI := Lib.hid (fun X => idx_any ⟨sg, nd, rp, ⟨sya, syc⟩, bk, fw, rl, sl, ini, fin, tl⟩ x s.sym X hf.syms)
  have HH1 := Lib.hid (fun (X : World) (hX : SS w ⟨sg, nd, rp, ⟨sya, syc⟩, bk, fw, rl, sl, ini, fin, tl⟩ x s X) => has_img _ x s.stub 8 4 X (h.lt hX.1) hf.segs hs (by omega) (by omega))
  have HH2 := Lib.hid (fun (X : World) (hX : SS w ⟨sg, nd, rp, ⟨sya, syc⟩, bk, fw, rl, sl, ini, fin, tl⟩ x s X) => has_img _ x s.at_ 8 0 X (h.lt hX.1) hf.segs hs (by omega) (by omega))
  have HRL := Lib.hid (fun (ho : standB x.segs s.at_ 8 0 = true) (X : World) (hX : SS w ⟨sg, nd, rp, ⟨sya, syc⟩, bk, fw, rl, sl, ini, fin, tl⟩ x s X) => isRelocated_any _ x s.at_ X (h.lt hX.1) hf hs hr (stand_range ho hs).1 (by have := stand_range ho hs; omega))
  generalize hbb : slotB x s = bb
  have HF := Lib.hid (hbb.symm.trans (show slotB x s = (idxB x.syms.length s.sym && decide ((x.syms.getD s.sym.toNat noSy).kind = 1) && standB x.segs s.stub 8 4 && standB x.segs s.at_ 8 0 && !overAny x s.at_) from rfl))
  obtain ⟨c0, c1, c2, c3, c4, c5, c6, c7, c8, c9, c10, c11, c12, c13, c14⟩ := hS.2.1.cells
  obtain ⟨d0, d1, d2⟩ := hS.2.2.sl
  simp only at c2 c3 c4 c5 c6 c7 c9 c10 c11 c12 c13
  have hlen := hf.syms
  unfold Long at hlen
  clear h hf hs hr hS hbb
  go_enter Tryz.func119, Tryz.ntmps119
  go_upto_region 1 with (fail)
  rw [← hW]
  clear hW
  cases hix : idxB x.syms.length s.sym
  · rw [hix] at HI HF
    go_wp2_with (go_at_call 181; (with_reducible refine (HI.out _).mono ?_); rintro e w2 ⟨rfl, hb2⟩)
    go_ret
    exact ⟨by rw [HF.out]; rfl, (HS.out.on hb2).1⟩
  rw [hix] at HI HF
  obtain ⟨j, hj, hlt⟩ := idx_get hix
  obtain ⟨sa, ss, st⟩ := s
  simp only at hj d0 d1 d2 HI HF
  subst hj
  rw [show ((j : Int)).toNat = j from rfl] at HF
  obtain ⟨ad, rfl⟩ : ∃ ad, sya = some ad := by
    cases sya with
    | none => have := ((HM.out _ HS.out).nil rfl).1; omega
    | some ad => exact ⟨ad, rfl⟩
  obtain ⟨b, o, rfl⟩ := (HM.out _ HS.out).plain (by omega)
  have hj0 : (0 : Int) ≤ (j : Int) := by omega
  have hj1 : (j : Int) < (x.syms.length : Int) := by omega
  have HEL := Lib.hid (fun (X : World) (hX : SS w _ x ⟨sa, j, st⟩ X) => (HM.out X hX).els.get j hlt 3)
  generalize x.syms.getD j noSy = y at *
  clear hix HM
  by_cases hk : y.kind = 1
  · have HF2 := Lib.hid (show bb = (standB x.segs st 8 4 && standB x.segs sa 8 0 && !overAny x sa) by rw [HF.out]; simp [hk])
    clear HF
    generalize standB x.segs st 8 4 = b1 at *
    generalize standB x.segs sa 8 0 = b2 at *
    generalize overAny x sa = b3 at *
    cases b1
    · go_wp2_with (first
        | (go_at_call 181; (with_reducible refine (HI.out _).mono ?_); rintro e w2 ⟨rfl, hb2⟩; have HS2 := Lib.hid (HS.out.on hb2); obtain ⟨pc0, pc1, pc2, pc3, pc4, pc5, pc6, pc7, pc8, pc9, pc10, pc11, pc12, pc13, pc14⟩ := HS2.out.2.1.cells; obtain ⟨ps0, ps1, ps2⟩ := HS2.out.2.2.sl; simp only at pc2 pc3 pc4 pc5 pc6 pc7 pc9 pc10 pc11 pc12 pc13 ps0 ps1 ps2; have k3 := HEL.out _ HS2.out _ rfl; clear hb2)
        | (go_at_call 124; (with_reducible refine (HH1.out _ HS2.out).mono ?_); rintro e w3 ⟨rfl, hb3⟩; have HS3 := Lib.hid (HS2.out.on hb3); obtain ⟨qc0, qc1, qc2, qc3, qc4, qc5, qc6, qc7, qc8, qc9, qc10, qc11, qc12, qc13, qc14⟩ := HS3.out.2.1.cells; obtain ⟨qs0, qs1, qs2⟩ := HS3.out.2.2.sl; simp only at qc2 qc3 qc4 qc5 qc6 qc7 qc9 qc10 qc11 qc12 qc13 qs0 qs1 qs2; clear hb3))
      go_ret
      exact ⟨by rw [HF2.out]; rfl, HS3.out.1⟩
    cases b2
    · go_wp2_with (first
        | (go_at_call 181; (with_reducible refine (HI.out _).mono ?_); rintro e w2 ⟨rfl, hb2⟩; have HS2 := Lib.hid (HS.out.on hb2); obtain ⟨pc0, pc1, pc2, pc3, pc4, pc5, pc6, pc7, pc8, pc9, pc10, pc11, pc12, pc13, pc14⟩ := HS2.out.2.1.cells; obtain ⟨ps0, ps1, ps2⟩ := HS2.out.2.2.sl; simp only at pc2 pc3 pc4 pc5 pc6 pc7 pc9 pc10 pc11 pc12 pc13 ps0 ps1 ps2; have k3 := HEL.out _ HS2.out _ rfl; clear hb2)
        | (go_at_call 124; (with_reducible refine (HH1.out _ HS2.out).mono ?_); rintro e w3 ⟨rfl, hb3⟩; have HS3 := Lib.hid (HS2.out.on hb3); obtain ⟨qc0, qc1, qc2, qc3, qc4, qc5, qc6, qc7, qc8, qc9, qc10, qc11, qc12, qc13, qc14⟩ := HS3.out.2.1.cells; obtain ⟨qs0, qs1, qs2⟩ := HS3.out.2.2.sl; simp only at qc2 qc3 qc4 qc5 qc6 qc7 qc9 qc10 qc11 qc12 qc13 qs0 qs1 qs2; clear hb3)
        | (go_at_call 124; (with_reducible refine (HH2.out _ HS3.out).mono ?_); rintro e w4 ⟨rfl, hb4⟩; have HS4 := Lib.hid (HS3.out.on hb4); obtain ⟨rc0, rc1, rc2, rc3, rc4, rc5, rc6, rc7, rc8, rc9, rc10, rc11, rc12, rc13, rc14⟩ := HS4.out.2.1.cells; obtain ⟨rs0, rs1, rs2⟩ := HS4.out.2.2.sl; simp only at rc2 rc3 rc4 rc5 rc6 rc7 rc9 rc10 rc11 rc12 rc13 rs0 rs1 rs2; clear hb4))
      go_ret
      exact ⟨by rw [HF2.out]; rfl, HS4.out.1⟩
    have HR2 := Lib.hid (HRL.out rfl)
    clear HRL
    go_wp2_with (first
      | (go_at_call 181; (with_reducible refine (HI.out _).mono ?_); rintro e w2 ⟨rfl, hb2⟩; have HS2 := Lib.hid (HS.out.on hb2); obtain ⟨pc0, pc1, pc2, pc3, pc4, pc5, pc6, pc7, pc8, pc9, pc10, pc11, pc12, pc13, pc14⟩ := HS2.out.2.1.cells; obtain ⟨ps0, ps1, ps2⟩ := HS2.out.2.2.sl; simp only at pc2 pc3 pc4 pc5 pc6 pc7 pc9 pc10 pc11 pc12 pc13 ps0 ps1 ps2; have k3 := HEL.out _ HS2.out _ rfl; clear hb2)
      | (go_at_call 124; (with_reducible refine (HH1.out _ HS2.out).mono ?_); rintro e w3 ⟨rfl, hb3⟩; have HS3 := Lib.hid (HS2.out.on hb3); obtain ⟨qc0, qc1, qc2, qc3, qc4, qc5, qc6, qc7, qc8, qc9, qc10, qc11, qc12, qc13, qc14⟩ := HS3.out.2.1.cells; obtain ⟨qs0, qs1, qs2⟩ := HS3.out.2.2.sl; simp only at qc2 qc3 qc4 qc5 qc6 qc7 qc9 qc10 qc11 qc12 qc13 qs0 qs1 qs2; clear hb3)
      | (go_at_call 124; (with_reducible refine (HH2.out _ HS3.out).mono ?_); rintro e w4 ⟨rfl, hb4⟩; have HS4 := Lib.hid (HS3.out.on hb4); obtain ⟨rc0, rc1, rc2, rc3, rc4, rc5, rc6, rc7, rc8, rc9, rc10, rc11, rc12, rc13, rc14⟩ := HS4.out.2.1.cells; obtain ⟨rs0, rs1, rs2⟩ := HS4.out.2.2.sl; simp only at rc2 rc3 rc4 rc5 rc6 rc7 rc9 rc10 rc11 rc12 rc13 rs0 rs1 rs2; clear hb4)
      | (go_at_call 182; (with_reducible refine (HR2.out _ HS4.out).mono ?_); rintro e w5 ⟨rfl, hb5⟩; have HS5 := Lib.hid (HS4.out.on hb5); clear hb5))
    go_ret
    exact ⟨by rw [HF2.out]; rfl, HS5.out.1⟩
  · have HF2 := Lib.hid (show bb = false by rw [HF.out]; simp [hk])
    clear HF
    go_wp2_with (go_at_call 181; (with_reducible refine (HI.out _).mono ?_); rintro e w2 ⟨rfl, hb2⟩; have HS2 := Lib.hid (HS.out.on hb2); obtain ⟨pc0, pc1, pc2, pc3, pc4, pc5, pc6, pc7, pc8, pc9, pc10, pc11, pc12, pc13, pc14⟩ := HS2.out.2.1.cells; obtain ⟨ps0, ps1, ps2⟩ := HS2.out.2.2.sl; simp only at pc2 pc3 pc4 pc5 pc6 pc7 pc9 pc10 pc11 pc12 pc13 ps0 ps1 ps2; have k3 := HEL.out _ HS2.out _ rfl; clear hb2)
    go_ret
    exact ⟨by rw [HF2.out]; rfl, HS2.out.1⟩
end Go.Proofs.YtfljignkjmabpaaGreat

namespace Go.Proofs.YtfljignkjmabpaaGreat
set_option maxRecDepth 100000
set_option linter.unusedSimpArgs false
set_option linter.unusedVariables false
open Go.RowKit

theorem slbox_below (w : World) (s : Sl) : Below w.heap.size w (w.alloc (.cells (slA s) 112)) := (Below.refl _ _).alloc (Nat.le_refl _) _
theorem sl_cells (w : World) (s : Sl) : Bx (w.alloc (.cells (slA s) 112)) w.heap.size (slA s) 112 := Bx.new _ _ _
set_option maxHeartbeats 2000000 in
theorem slot_is_any (p : Pl) (x : Im) (s : Sl) (g : Nat) (w : World) (h : ImIn w (fun k => k < w.heap.size) p x) (hf : Fit x) (hs : ∀ s ∈ x.segs, SegOk s) (hr : ∀ r ∈ x.relocs, relB x r = true) (hi : Ix w g p x) :
    Calls Tryz.prog 118 #[.agg (slA s), .pointer (some ⟨g, 0, none⟩)] w fun e w' => e = .returned (.bool (slotB x s)) ∧ Below w.heap.size w w' := by
  have HB := Lib.hid (slbox_below w s)
  have HC := Lib.hid (isSlot_any p x s (w.alloc (.cells (slA s) 112)) (h.lt HB.out) hf hs hr)
  obtain ⟨d0, d1, d2⟩ := (sl_cells w s).sl
  obtain ⟨c0, c1, c2, c3, c4, c5, c6, c7, c8, c9, c10, c11, c12, c13, c14⟩ := (hi.below HB.out).cells
  generalize slotB x s = b at *
  clear h hf hs hi hr
  go_enter Tryz.func118, Tryz.ntmps118
  go_upto_region 1 with (fail)
  change Code.wp _ _ _ _ (w.alloc (.cells (slA s) 112))
  generalize w.alloc (.cells (slA s) 112) = w1 at *
  go_upto_region 99 with (go_at_call 119; (with_reducible refine (HC.out).mono ?_); rintro e w2 ⟨rfl, hb2⟩)
  first | go_ret | skip
  exact ⟨rfl, HB.out.trans (hb2.mono HB.out.size)⟩
theorem slot_word_any (s : Sl) (w : World) (h0 : 0 ≤ s.at_) (h1 : s.at_ ≤ 65536) :
    Calls Tryz.prog 120 #[.agg (slA s)] w fun e w' => e = .returned (.tuple #[.int .i64 s.at_, .int .i64 (s.at_ + 8)]) ∧ Below w.heap.size w w' := by
  have HB := Lib.hid (slbox_below w s)
  obtain ⟨d0, d1, d2⟩ := (sl_cells w s).sl
  have e1 : wrap64 (s.at_ + 8) = s.at_ + 8 := wrap_in (by omega) (by omega)
  have e2 : IntKind.i64.wrap (s.at_ + 8) = s.at_ + 8 := (wrap_i64 _).trans e1
  go_enter Tryz.func120, Tryz.ntmps120
  go_upto_region 1 with (fail)
  change Code.wp _ _ _ _ (w.alloc (.cells (slA s) 112))
  generalize w.alloc (.cells (slA s) 112) = w1 at *
  refine wp_region_still_lit (by kernel_rfl) (by kernel_rfl) ?_
  repeat still_step
  refine wpStill_nil ?_
  go_wp2_with fail
  first | go_ret2 | go_ret | skip
  exact ⟨rfl, HB.out.trans ((drew_below w1).mono HB.out.size)⟩
def slotsB (x : Im) : Bool := decide (x.slots.length ≤ 128) && apartB x.slots.length (fun k => slotB x (x.slots.getD k noSl)) (fun k => (x.slots.getD k noSl).at_) (fun k => (x.slots.getD k noSl).at_ + 8)
theorem slot_range {x : Im} {s : Sl} (hs : ∀ s ∈ x.segs, SegOk s) (h : slotB x s = true) : 0 ≤ s.at_ ∧ s.at_ + 8 ≤ 65536 := by
  unfold slotB at h
  simp only [Bool.and_eq_true] at h
  exact stand_range h.1.2 hs
set_option maxHeartbeats 2000000 in
theorem slots_any (p : Pl) (x : Im) (w : World) (h : ImIn w (fun k => k < w.heap.size) p x) (hf : Fit x) (hs : ∀ s ∈ x.segs, SegOk s) (hr : ∀ r ∈ x.relocs, relB x r = true) :
    Calls Tryz.prog 34 #[imV p x] w fun e w' => e = .returned (.bool (slotsB x)) ∧ Below w.heap.size w w' := by
  have hB := ibox_below w p x
  have hX := Ix.new w p x
  have hl := hf.slots
  unfold Long at hl
  have HA := Lib.hid (apartSlot_any p.sl.1 x.slots.length p.sl.2 x.slots 118 120 #[.pointer (some ⟨w.heap.size, 0, none⟩)] #[] (fun k => slotB x (x.slots.getD k noSl)) (fun k => (x.slots.getD k noSl).at_) (fun k => (x.slots.getD k noSl).at_ + 8)
    (w.alloc (.cells (imA p x) 40)) (h.lt hB).slots.els (by omega) (fun _ _ => by go_simp) (fun _ _ => by go_simp)
    (fun k Y hk hY => slot_is_any p x _ _ Y ((h.lt hB).lt hY) hf hs hr (hX.below hY)) (fun k Y hk hp hY => slot_word_any _ Y (slot_range hs hp).1 (by have := slot_range hs hp; omega)))
  have HF := Lib.hid (show slotsB x = (decide (x.slots.length ≤ 128) && apartB x.slots.length (fun k => slotB x (x.slots.getD k noSl)) (fun k => (x.slots.getD k noSl).at_) (fun k => (x.slots.getD k noSl).at_ + 8)) from rfl)
  generalize apartB x.slots.length (fun k => slotB x (x.slots.getD k noSl)) (fun k => (x.slots.getD k noSl).at_) (fun k => (x.slots.getD k noSl).at_ + 8) = b2 at *
  have HB := Lib.hid hB
  obtain ⟨-, -, -, -, -, -, -, -, -, -, c10, -⟩ := hX.cells
  clear h hf hs hr hB hX
  go_enter Tryz.func34, Tryz.ntmps34
  go_upto_region 1 with (fail)
  change Code.wp _ _ _ _ (w.alloc (.cells (imA p x) 40))
  generalize w.alloc (.cells (imA p x) 40) = w1 at *
  go_wp2_with (go_at_call 121; (with_reducible refine (HA.out).mono ?_); rintro e w2 ⟨rfl, hb2⟩; have HB2 := Lib.hid (HB.out.trans (hb2.mono HB.out.size)); clear hb2)
  all_goals
    go_ret
    rw [HF.out]
    first
      | (refine ⟨?_, HB2.out⟩; simp [*] <;> (intros; omega))
      | (refine ⟨?_, HB.out⟩; simp [*] <;> (intros; omega))
def runsB (x : Im) (l : List Int) : Bool := decide (l.length ≤ 8) && l.all fun a => standB x.segs a 8 4
set_option maxHeartbeats 2000000 in
theorem run_is_any (p : Pl) (x : Im) (a : Int) (g : Nat) (w : World) (h : ImIn w (fun k => k < w.heap.size) p x) (hf : Fit x) (hs : ∀ s ∈ x.segs, SegOk s) (hi : Ix w g p x) :
    Calls Tryz.prog 123 #[.int .i64 a, .pointer (some ⟨g, 0, none⟩)] w fun e w' => e = .returned (.bool (standB x.segs a 8 4)) ∧ Below w.heap.size w w' := by
  have HC := Lib.hid (has_img p x a 8 4 w h hf.segs hs (by omega) (by omega))
  obtain ⟨c0, c1, c2, c3, c4, c5, c6, c7, c8, c9, c10, c11, c12, c13, c14⟩ := hi.cells
  generalize standB x.segs a 8 4 = b at *
  clear h hf hs hi
  go_enter Tryz.func123, Tryz.ntmps123
  go_upto_region 99 with (go_at_call 124; (with_reducible refine (HC.out).mono ?_); rintro e w2 ⟨rfl, hb2⟩)
  first | go_ret | skip
  exact ⟨rfl, hb2⟩
set_option maxHeartbeats 2000000 in
theorem runs_any (p : Pl) (x : Im) (A : Option Addr) (c : Nat) (l : List Int) (w : World) (h : ImIn w (fun k => k < w.heap.size) p x) (hl : Src w (fun k => k < w.heap.size) A l.length c (ints l)) (hf : Fit x) (hs : ∀ s ∈ x.segs, SegOk s) (hn : Long l.length) :
    Calls Tryz.prog 35 #[imV p x, .slice A l.length c] w fun e w' => e = .returned (.bool (runsB x l)) ∧ Below w.heap.size w w' := by
  have hB := ibox_below w p x
  have hX := Ix.new w p x
  unfold Long at hn
  have HA := Lib.hid (allInt_any A l.length c l 123 #[.pointer (some ⟨w.heap.size, 0, none⟩)] (fun k => standB x.segs (l.getD k 0) 8 4) (w.alloc (.cells (imA p x) 40)) ((hl.below hB (fun _ h => h)).lt) (by omega) (fun _ _ => by go_simp)
    (fun k Y hk hY => run_is_any p x _ _ Y ((h.lt hB).lt hY) hf hs (hX.below hY)))
  rw [range_all l 0 (fun a => standB x.segs a 8 4)] at HA
  have HF := Lib.hid (show runsB x l = (decide (l.length ≤ 8) && l.all fun a => standB x.segs a 8 4) from rfl)
  generalize (l.all fun a => standB x.segs a 8 4) = b2 at *
  have HB := Lib.hid hB
  clear h hf hs hl hB hX
  go_enter Tryz.func35, Tryz.ntmps35
  go_upto_region 1 with (fail)
  change Code.wp _ _ _ _ (w.alloc (.cells (imA p x) 40))
  generalize w.alloc (.cells (imA p x) 40) = w1 at *
  go_wp2_with (go_at_call 122; (with_reducible refine (HA.out).mono ?_); rintro e w2 ⟨rfl, hb2⟩; have HB2 := Lib.hid (HB.out.trans (hb2.mono HB.out.size)); clear hb2)
  all_goals
    go_ret
    rw [HF.out]
    first
      | (refine ⟨?_, HB2.out⟩; simp [*] <;> (intros; omega))
      | (refine ⟨?_, HB.out⟩; simp [*] <;> (intros; omega))
end Go.Proofs.YtfljignkjmabpaaGreat
