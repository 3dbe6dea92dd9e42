/-
  The law ScopeFirst, walked (written by mkl.py).
-/
import Derived.Test.YtpcgedngikpnoaaI
namespace Go.Proofs.Ytpcgedngikpnoaa
set_option maxRecDepth 100000
set_option linter.unusedSimpArgs false
set_option linter.unusedVariables false
open Go.RowKit

theorem first_not {r : Sym} {ss : List Sym} (h : firstS r ss = -1) (k : Nat) (hk : k < ss.length) : matchB r ss[k] (ss.any vdB) = false := by
  unfold firstS at h
  split at h
  · rename_i j hj
    omega
  · rename_i hj
    rw [List.findIdx?_eq_none_iff] at hj
    exact hj _ (List.getElem_mem hk)
theorem first_yes {r : Sym} {ss : List Sym} (h : ¬ firstS r ss = -1) : ∃ k, ∃ hk : k < ss.length, firstS r ss = (k : Int) ∧ matchB r ss[k] (ss.any vdB) = true := by
  unfold firstS at h ⊢
  split at h
  · rename_i j hj
    obtain ⟨h1, h2, _⟩ := List.findIdx?_eq_some_iff_getElem.1 hj
    exact ⟨j, h1, rfl, h2⟩
  · exact absurd rfl h
set_option maxRecDepth 100000 in
set_option maxHeartbeats 4000000 in
theorem dmeans_any (r : Sym) (p : Pl) (x : Im) (k : Nat) (w : World) (h : SyIn w (fun k => k < w.heap.size) p x) (hf : FitS x) (hk : k < x.syms.length) :
    Calls Try.prog 25 #[symV r, imV p x, .int .i64 (k : Int)] w fun e w' => e = .returned (.bool (matchB r x.syms[k] (x.syms.any vdB))) ∧ Below w.heap.size w w' := by
  obtain ⟨ML, hML⟩ : ∃ M, M = matchB r x.syms[k] (x.syms.any vdB) := ⟨_, rfl⟩
  rw [← hML]
  have HML := Lib.hid hML
  clear hML
  have hb1 := box_below w r
  have hb2 := ibox_below (w.alloc (.cells (symA r) 25)) p x
  have HB2 := Lib.hid (hb1.trans (hb2.mono hb1.size))
  have HR2 := Lib.hid ((Sx.new w r).below hb2)
  have HX2 := Lib.hid (Ix.new (w.alloc (.cells (symA r) 25)) p x)
  have hz : (w.alloc (.cells (symA r) 25)).heap.size = w.heap.size + 1 := by simp
  rw [hz] at HX2
  have HS2 := Lib.hid ((h.lt hb1).lt hb2)
  have hsl := hf.syms
  have HVS := Lib.hid (fun (X : World) (hX : Syl X (fun k => k < X.heap.size) p.sy.1 x.syms.length p.sy.2 x.syms) => rversioned_any p.sy.1 x.syms.length p.sy.2 x.syms X hX (by omega))
  clear hb1 hb2 hz h hf
  go_enter Try.func25, Try.ntmps25
  go_upto_region 1 with (fail)
  change Code.wp _ _ _ _ ((w.alloc (.cells (symA r) 25)).alloc (.cells (imA p x) 62))
  generalize (w.alloc (.cells (symA r) 25)).alloc (.cells (imA p x) 62) = w2 at *
  generalize hg1 : w.heap.size + 1 = g1 at *
  have hd := drew_below w2
  have HB3 := Lib.hid (HB2.out.trans (hd.mono HB2.out.size))
  have HR3 := Lib.hid (HR2.out.below hd)
  have HX3 := Lib.hid (HX2.out.below hd)
  have HS3 := Lib.hid (HS2.out.lt hd)
  refine wp_region_held_drew (S := fun X => Below w2.drew.heap.size w2.drew X) (by kernel_rfl) (Below.refl _ _) (fun hHeld0 => ?_)
  clear hd HB2 HR2 HX2 HS2 hg1
  generalize w2.drew = w3 at *
  have c5 : w3.cell? ⟨g1, 5, none⟩ = some (.slice p.sy.1 x.syms.length p.sy.2) := HX3.out.bx.c 5
  have HSS := Lib.hid (fun (X : World) (hX : Below w3.heap.size w3 X) => (HS3.out.lt hX).syms)
  generalize x.syms = ss at *
  generalize p.sy.1 = sA at *
  generalize p.sy.2 = sC at *
  obtain ⟨sa, rfl⟩ : ∃ sa, sA = some sa := by
    cases sA with
    | none => have := ((HSS.out _ hHeld0).nil rfl).1; omega
    | some sa => exact ⟨sa, rfl⟩
  obtain ⟨sb, so, rfl⟩ := (HSS.out _ hHeld0).plain (by omega)
  have hsc := (HSS.out _ hHeld0).cap
  have HGT := Lib.hid (fun (X : World) (hX : Below w3.heap.size w3 X) => (HSS.out X hX).get k hk)
  have HMT := Lib.hid (fun X => rmatch_any r ss[k] (ss.any vdB) X)
  generalize ss[k] = y at *
  generalize ss.any vdB = vd at *
  have d0 : decide ((0 : Int) ≤ (k : Int)) = true := decide_eq_true (by omega)
  have d1 : decide ((k : Int) < (ss.length : Int)) = true := decide_eq_true (by omega)
  have k0 : (0 : Int) ≤ (k : Int) := by omega
  have k1 : (k : Int) < (ss.length : Int) := by omega
  generalize matchB r y vd = ml at *
  obtain rfl := HML.out
  refine take_at (i := 0) (d := 7) (v := (.int .i64 (k : Int))) rfl rfl (by kernel_rfl) (by kernel_rfl) (by kernel_rfl) (fun _ _ _ h => h) (Or.inl ⟨by rfl, ?_⟩) (by assumption) ?_
  · intro X hX; go_simp
  (try simp only [Act.put, List.setIfInBounds_toArray, List.set_cons_zero, List.set_cons_succ])
  refine take_at (i := 1) (d := 8) (v := (.bool true)) rfl rfl (by kernel_rfl) (by kernel_rfl) (by kernel_rfl) (fun _ _ _ h => h) (Or.inl ⟨by rfl, ?_⟩) (by assumption) ?_
  · intro X hX; go_simp
  (try simp only [Act.put, List.setIfInBounds_toArray, List.set_cons_zero, List.set_cons_succ])
  refine take_at (i := 2) (d := 9) (v := (.bool true)) rfl rfl (by kernel_rfl) (by kernel_rfl) (by kernel_rfl) (fun _ _ _ h => h) (Or.inl ⟨by rfl, ?_⟩) (by assumption) ?_
  · intro X hX; go_simp
  (try simp only [Act.put, List.setIfInBounds_toArray, List.set_cons_zero, List.set_cons_succ])
  refine take_at (i := 3) (d := 10) (v := (.int .i64 (k : Int))) rfl rfl (by kernel_rfl) (by kernel_rfl) (by kernel_rfl) (fun _ _ _ h => h) (Or.inl ⟨by rfl, ?_⟩) (by assumption) ?_
  · intro X hX; go_simp
  (try simp only [Act.put, List.setIfInBounds_toArray, List.set_cons_zero, List.set_cons_succ])
  refine take_at (i := 4) (d := 11) (v := (.pointer (some ⟨g1, 5, none⟩))) rfl rfl (by kernel_rfl) (by kernel_rfl) (by kernel_rfl) (fun _ _ _ h => h) (Or.inl ⟨by rfl, ?_⟩) (by assumption) ?_
  · intro X hX; go_simp
  (try simp only [Act.put, List.setIfInBounds_toArray, List.set_cons_zero, List.set_cons_succ])
  refine take_at (i := 5) (d := 12) (v := (.slice (some ⟨sb, so, none⟩) ss.length sC)) rfl rfl (by kernel_rfl) (by kernel_rfl) (by kernel_rfl) (fun _ _ _ h => h) (Or.inl ⟨by rfl, ?_⟩) (by assumption) ?_
  · intro X hX; have c5 := cell_below hX c5; go_simp
  (try simp only [Act.put, List.setIfInBounds_toArray, List.set_cons_zero, List.set_cons_succ])
  refine take_at (i := 6) (d := 13) (v := (.int .i64 (ss.length : Int))) rfl rfl (by kernel_rfl) (by kernel_rfl) (by kernel_rfl) (fun _ _ _ h => h) (Or.inl ⟨by rfl, ?_⟩) (by assumption) ?_
  · intro X hX; go_simp
  (try simp only [Act.put, List.setIfInBounds_toArray, List.set_cons_zero, List.set_cons_succ])
  refine take_at (i := 7) (d := 14) (v := (.bool true)) rfl rfl (by kernel_rfl) (by kernel_rfl) (by kernel_rfl) (fun _ _ _ h => h) (Or.inl ⟨by rfl, ?_⟩) (by assumption) ?_
  · intro X hX; go_simp
  (try simp only [Act.put, List.setIfInBounds_toArray, List.set_cons_zero, List.set_cons_succ])
  refine take_at (i := 8) (d := 15) (v := (.bool true)) rfl rfl (by kernel_rfl) (by kernel_rfl) (by kernel_rfl) (fun _ _ _ h => h) (Or.inl ⟨by rfl, ?_⟩) (by assumption) ?_
  · intro X hX; go_simp
  (try simp only [Act.put, List.setIfInBounds_toArray, List.set_cons_zero, List.set_cons_succ])
  refine take_at (i := 9) (d := 16) (v := (.bool true)) rfl rfl (by kernel_rfl) (by kernel_rfl) (by kernel_rfl) (fun _ _ _ h => h) (Or.inl ⟨by rfl, ?_⟩) (by assumption) ?_
  · intro X hX; go_simp
  (try simp only [Act.put, List.setIfInBounds_toArray, List.set_cons_zero, List.set_cons_succ])
  refine take_at (i := 10) (d := 17) (v := (symV r)) rfl rfl (by kernel_rfl) (by kernel_rfl) (by kernel_rfl) (fun _ _ _ h => h) (Or.inl ⟨by rfl, ?_⟩) (by assumption) ?_
  · intro X hX; obtain ⟨y0, y1, y2, y3, y4, y5, y6, y7, y8⟩ := (HR3.out.below hX).cells; go_simp
  (try simp only [Act.put, List.setIfInBounds_toArray, List.set_cons_zero, List.set_cons_succ])
  refine take_at (i := 11) (d := 18) (v := (.pointer (some ⟨g1, 5, none⟩))) rfl rfl (by kernel_rfl) (by kernel_rfl) (by kernel_rfl) (fun _ _ _ h => h) (Or.inl ⟨by rfl, ?_⟩) (by assumption) ?_
  · intro X hX; go_simp
  (try simp only [Act.put, List.setIfInBounds_toArray, List.set_cons_zero, List.set_cons_succ])
  refine take_at (i := 12) (d := 19) (v := (.slice (some ⟨sb, so, none⟩) ss.length sC)) rfl rfl (by kernel_rfl) (by kernel_rfl) (by kernel_rfl) (fun _ _ _ h => h) (Or.inl ⟨by rfl, ?_⟩) (by assumption) ?_
  · intro X hX; have c5 := cell_below hX c5; go_simp
  (try simp only [Act.put, List.setIfInBounds_toArray, List.set_cons_zero, List.set_cons_succ])
  refine take_at (i := 13) (d := 20) (v := (.int .i64 (k : Int))) rfl rfl (by kernel_rfl) (by kernel_rfl) (by kernel_rfl) (fun _ _ _ h => h) (Or.inl ⟨by rfl, ?_⟩) (by assumption) ?_
  · intro X hX; go_simp
  (try simp only [Act.put, List.setIfInBounds_toArray, List.set_cons_zero, List.set_cons_succ])
  refine take_at (i := 14) (d := 21) (v := (.pointer (some ⟨sb, so + k * 9, none⟩))) rfl rfl (by kernel_rfl) (by kernel_rfl) (by kernel_rfl) (fun _ _ _ h => h) (Or.inl ⟨by rfl, ?_⟩) (by assumption) ?_
  · intro X hX; go_simp
  (try simp only [Act.put, List.setIfInBounds_toArray, List.set_cons_zero, List.set_cons_succ])
  refine take_at (i := 15) (d := 22) (v := (symV y)) rfl rfl (by kernel_rfl) (by kernel_rfl) (by kernel_rfl) (fun _ _ _ h => h) (Or.inl ⟨by rfl, ?_⟩) (by assumption) ?_
  · intro X hX; obtain ⟨s0, s1, s2, s3, s4, s5, s6, s7, s8⟩ := HGT.out X hX; go_simp
  (try simp only [Act.put, List.setIfInBounds_toArray, List.set_cons_zero, List.set_cons_succ])
  refine take_at (i := 16) (d := 23) (v := (.pointer (some ⟨g1, 5, none⟩))) rfl rfl (by kernel_rfl) (by kernel_rfl) (by kernel_rfl) (fun _ _ _ h => h) (Or.inl ⟨by rfl, ?_⟩) (by assumption) ?_
  · intro X hX; go_simp
  (try simp only [Act.put, List.setIfInBounds_toArray, List.set_cons_zero, List.set_cons_succ])
  refine take_at (i := 17) (d := 24) (v := (.slice (some ⟨sb, so, none⟩) ss.length sC)) rfl rfl (by kernel_rfl) (by kernel_rfl) (by kernel_rfl) (fun _ _ _ h => h) (Or.inl ⟨by rfl, ?_⟩) (by assumption) ?_
  · intro X hX; have c5 := cell_below hX c5; go_simp
  (try simp only [Act.put, List.setIfInBounds_toArray, List.set_cons_zero, List.set_cons_succ])
  refine wpAnyH_ready (rs := [18]) (by kernel_rfl) (by simp) ?_
  refine AllReadyH.cons rfl (fun K hK => ?_) AllReadyH.nil
  go_simp
  (with_reducible refine (HVS.out _ (HSS.out _ hHeld0)).mono ?_)
  rintro e w4 ⟨rfl, rfl⟩
  skip
  go_simp
  refine hK.out _ _ (hHeld0) (fun hHeld1 => ?_)
  clear hK K
  (try simp only [Act.put, List.setIfInBounds_toArray, List.set_cons_zero, List.set_cons_succ])
  refine wpAnyH_ready (rs := [19]) (by kernel_rfl) (by simp) ?_
  refine AllReadyH.cons rfl (fun K hK => ?_) AllReadyH.nil
  go_simp
  (with_reducible refine (HMT.out _).mono ?_)
  rintro e w5 ⟨rfl, hb5⟩
  have HB5 := Lib.hid hb5; clear hb5
  go_simp
  refine hK.out _ _ (hHeld1.trans (HB5.out.mono hHeld1.size)) (fun hHeld2 => ?_)
  clear hK K
  (try simp only [Act.put, List.setIfInBounds_toArray, List.set_cons_zero, List.set_cons_succ])
  refine take_at (i := 20) (d := 27) (v := (.bool ML)) rfl rfl (by kernel_rfl) (by kernel_rfl) (by kernel_rfl) (fun _ _ _ h => h) (Or.inl ⟨by rfl, ?_⟩) (by assumption) ?_
  · intro X hX; go_simp
  (try simp only [Act.put, List.setIfInBounds_toArray, List.set_cons_zero, List.set_cons_succ])
  refine take_at (i := 21) (d := 6) (v := (.bool ML)) rfl rfl (by kernel_rfl) (by kernel_rfl) (by kernel_rfl) (fun _ _ _ h => h) (Or.inl ⟨by rfl, ?_⟩) (by assumption) ?_
  · intro X hX; go_simp
  (try simp only [Act.put, List.setIfInBounds_toArray, List.set_cons_zero, List.set_cons_succ])
  refine wpAnyH_done (by kernel_rfl) ?_ _
  go_wp2
  first | go_ret2 | go_ret | skip
  exact ⟨rfl, HB3.out.trans (hHeld2.mono HB3.out.size)⟩
end Go.Proofs.Ytpcgedngikpnoaa
