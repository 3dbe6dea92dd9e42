/- A part of the proof. -/
import Derived.Test.YtfljignkjmabpaaGreatZH
set_option linter.unusedSimpArgs false
set_option linter.unusedVariables false
namespace Go.Proofs.YtfljignkjmabpaaGreat
set_option maxRecDepth 100000
open Go.RowKit
theorem take_at {P : Program} {md : Region.Mode} {ops : Array Oper} {Q : Exit → Act → World → Prop} {S : World → Prop} {i : Nat} {oi : Oper} {d : Tmp} {v : Value} {fuel : Nat} {listed : Array Bool} {a : Act} {w : World} (hi : ops[i]? = some oi) (hd : oi.dst = some d)
  (hs : Region.noSelect ops = true) (hf : Region.free md ops listed i = true) (hr : (Region.ready md ops listed).contains i = true)
  (hQ : ∀ c a w, Q (.panic c) (a.put (some d) v) w → Q (.panic c) a w) (hy : YieldsIf P ops S oi v a) (hS : S w)
  (h : wpAnyH P md ops Q S fuel (listed.setIfInBounds i true) (a.put (some d) v) w) : wpAnyH P md ops Q S (fuel + 1) listed a w :=
 wpAnyH_take hi hs hf hr (by rw [hd]; exact hQ) hy hS (by rw [hd]; exact h)
theorem tjI {P : Program} {md : Region.Mode} {ops : Array Oper} {Q : Exit → Act → World → Prop} {S : World → Prop} {oi : Oper} {fuel : Nat} {listed : Array Bool} {a : Act} {w : World} (i : Nat) (d : Tmp) (v : Value) (h : ∀ w, S w → (execOp a.eval oi).run P w = .ok (.value v) w)
  (hk : wpAnyH P md ops Q S fuel (listed.setIfInBounds i true) (a.put (some d) v) w) (hi : ops[i]? = some oi := by exact rfl) (hd : oi.dst = some d := by exact rfl) (hs : Region.noSelect ops = true := by kernel_rfl) (hf : Region.free md ops listed i = true := by kernel_rfl)
  (hr : (Region.ready md ops listed).contains i = true := by kernel_rfl) (hQ : ∀ c a w, Q (.panic c) (a.put (some d) v) w → Q (.panic c) a w := by exact fun _ _ _ h => h) (hg : Region.wanted oi (yielded ops a.tmps) = true := by rfl) (hS : S w := by assumption) : wpAnyH P md ops Q S (fuel + 1) listed a w :=
 take_at hi hd hs hf hr hQ (.inl ⟨hg, h⟩) hS hk
theorem tkI {P : Program} {md : Region.Mode} {ops : Array Oper} {Q : Exit → Act → World → Prop} {S : World → Prop} {oi : Oper} {fuel : Nat} {listed : Array Bool} {a : Act} {w : World} (i : Nat) (d : Tmp) (v : Value)
  (hk : wpAnyH P md ops Q S fuel (listed.setIfInBounds i true) (a.put (some d) v) w) (hi : ops[i]? = some oi := by exact rfl) (hd : oi.dst = some d := by exact rfl) (hs : Region.noSelect ops = true := by kernel_rfl) (hf : Region.free md ops listed i = true := by kernel_rfl)
  (hr : (Region.ready md ops listed).contains i = true := by kernel_rfl) (hQ : ∀ c a w, Q (.panic c) (a.put (some d) v) w → Q (.panic c) a w := by exact fun _ _ _ h => h) (hg : Region.wanted oi (yielded ops a.tmps) = true := by rfl) (hS : S w := by assumption)
  (h : ∀ w, S w → (execOp a.eval oi).run P w = .ok (.value v) w := by intro X hX; go_simp) : wpAnyH P md ops Q S (fuel + 1) listed a w :=
 take_at hi hd hs hf hr hQ (.inl ⟨hg, h⟩) hS hk
theorem tnI {P : Program} {md : Region.Mode} {ops : Array Oper} {Q : Exit → Act → World → Prop} {S : World → Prop} {oi : Oper} {fuel : Nat} {listed : Array Bool} {a : Act} {w : World} (i : Nat) (d : Tmp)
  (hk : wpAnyH P md ops Q S fuel (listed.setIfInBounds i true) (a.put (some d) undef) w) (hi : ops[i]? = some oi := by exact rfl) (hd : oi.dst = some d := by exact rfl) (hs : Region.noSelect ops = true := by kernel_rfl) (hf : Region.free md ops listed i = true := by kernel_rfl)
  (hr : (Region.ready md ops listed).contains i = true := by kernel_rfl) (hQ : ∀ c a w, Q (.panic c) (a.put (some d) undef) w → Q (.panic c) a w := by exact fun _ _ _ h => h) (hg : Region.wanted oi (yielded ops a.tmps) = false := by rfl) (hS : S w := by assumption) : wpAnyH P md ops Q S (fuel + 1) listed a w :=
 take_at hi hd hs hf hr hQ (.inr ⟨hg, rfl⟩) hS hk
theorem rYI {P : Program} {md : Region.Mode} {ops : Array Oper} {Q : Exit → Act → World → Prop} {S : World → Prop} {o : Oper} {fuel : Nat} {listed : Array Bool} {a : Act} {w : World} (i : Nat)
  (h : ∀ K : Act → World → Prop, Shut (∀ a w, S w → (S w → wpAnyH P md ops Q S fuel (listed.setIfInBounds i true) a w) → K a w) → if Region.wanted o (yielded ops a.tmps) = true then Oper.wp P o a w K Q else K (a.put o.dst undef) w)
  (hr : Region.ready md ops listed = [i] := by kernel_rfl) (ho : ops[i]? = some o := by exact rfl) : wpAnyH P md ops Q S (fuel + 1) listed a w :=
 wpAnyH_ready hr (by simp) (AllReadyH.cons ho h AllReadyH.nil)
def relB (x : Im) (r : Rl) : Bool := withB r.add (-4294967296) 4294967296 && kindRB x r && standB x.segs r.at_ (wideI x r) (if r.kind = 2 then 2 else 0)
theorem kind_idx {x : Im} {r : Rl} (h : kindRB x r = true) (hk : r.kind = 2) : ∃ j : Nat, r.sym = j ∧ j < x.syms.length := by
 unfold kindRB at h
 rw [if_neg (by omega)] at h
 by_cases hi : idxB x.syms.length r.sym = false
 ·
  rw [if_pos hi] at h; cases h
 ·
  exact idx_get (by simpa using hi)
def RS (w : World) (p : Pl) (x : Im) (r : Rl) (X : World) : Prop := Below w.heap.size w X ∧ Ix X w.heap.size p x ∧ Bx X (w.heap.size + 1) (rlA r) 57
theorem RS.on {w X Y : World} {p : Pl} {x : Im} {r : Rl} (h : RS w p x r X) (hb : Below X.heap.size X Y) : RS w p x r Y := ⟨h.1.trans (hb.mono h.1.size), h.2.1.below hb, h.2.2.below hb⟩
set_option maxHeartbeats 4000000 in
theorem isReloc_any (p : Pl) (x : Im) (r : Rl) (w : World) (h : ImIn w (fun k => k < w.heap.size) p x) (hf : Fit x) (hs : ∀ s ∈ x.segs, SegOk s) (hz : kindRB x r = true → 0 ≤ wideI x r ∧ wideI x r ≤ 9223372036854775807) :
  Calls Tryz.prog 114 #[imV p x, .agg (rlA r)] w fun e w' => e = .returned (.bool (relB x r)) ∧ Below w.heap.size w w' := by
 obtain ⟨W, hW, hB, hX, hR⟩ := im_rl w p x r
 have HS := hD ((show RS w p x r W from ⟨hB, hX, hR⟩).on (drew_below W))
 have HW := hD (fun X => within_any r.add (-4294967296) 4294967296 X)
 have HFK := hD (fun (X : World) (hX : Below w.heap.size w X) => fitsKind_any p x r X (h.lt hX) hf.syms)
 have HPO := hD (fun (X : World) => permOf_any r X)
 have HSO0 := hD (fun (hk : kindRB x r = true) (X : World) (hX : Below w.heap.size w X) => sizeOf_any p x r X (h.lt hX) hf.syms (kind_idx hk))
 have HHS0 := hD (fun (hk : kindRB x r = true) (X : World) (hX : Below w.heap.size w X) => has_img p x r.at_ (wideI x r) (if r.kind = 2 then 2 else 0) X (h.lt hX) hf.segs hs (hz hk).1 (hz hk).2)
 have HF := hD (show relB x r = (withB r.add (-4294967296) 4294967296 && kindRB x r && standB x.segs r.at_ (wideI x r) (if r.kind = 2 then 2 else 0)) from rfl)
 generalize withB r.add (-4294967296) 4294967296 = b1 at *
 generalize kindRB x r = b2 at *
 generalize standB x.segs r.at_ (wideI x r) (if r.kind = 2 then 2 else 0) = b3 at *
 generalize wideI x r = wd at *
 generalize (if r.kind = 2 then 2 else 0 : Int) = pm at *
 clear h hf hs hz hB hX hR
 go_enter Tryz.func114, Tryz.ntmps114
 go_upto_region 1 with (fail)
 rw [← hW]
 clear hW
 cases b1
 ·
  clear HFK HPO HSO0 HHS0
  refine wp_region_held_drew (S := RS w p x r) (by kernel_rfl) HS.out (fun hHeld0 => ?_)
  refine tkI 0 5 (.pointer (some ⟨w.heap.size + 1, 3, none⟩)) ?_
  simp only [Act.put, zI, zJ, zK]
  refine tjI 1 6 (.int .i64 r.add) ?_ ?_
  ·
   intro X hX; obtain ⟨-, hI, hJ⟩ := hX; obtain ⟨d0, d1, d2, d3⟩ := hJ.rl; go_simp
  (try simp only [Act.put, zI, zJ, zK])
  refine rYI 2 fun K hK => ?_
  go_simp
  refine (HW.out _).mono ?_
  rintro e wq1 ⟨rfl, rfl⟩
  go_simp
  refine hK.out _ _ hHeld0 (fun hHeld1 => ?_)
  clear hK K
  (try simp only [Act.put, zI, zJ, zK])
  refine tkI 3 8 (.bool false) ?_
  simp only [Act.put, zI, zJ, zK]
  refine tnI 4 9 ?_
  simp only [Act.put, zI, zJ, zK]
  refine tnI 5 10 ?_
  simp only [Act.put, zI, zJ, zK]
  refine tnI 6 11 ?_
  simp only [Act.put, zI, zJ, zK]
  refine tkI 7 12 (.bool false) ?_
  simp only [Act.put, zI, zJ, zK]
  refine tkI 8 13 (.bool false) ?_
  simp only [Act.put, zI, zJ, zK]
  refine tnI 9 14 ?_
  simp only [Act.put, zI, zJ, zK]
  refine tnI 10 15 ?_
  simp only [Act.put, zI, zJ, zK]
  refine tnI 11 16 ?_
  simp only [Act.put, zI, zJ, zK]
  refine tnI 12 17 ?_
  simp only [Act.put, zI, zJ, zK]
  refine tnI 13 18 ?_
  simp only [Act.put, zI, zJ, zK]
  refine tnI 14 19 ?_
  simp only [Act.put, zI, zJ, zK]
  refine tnI 15 20 ?_
  simp only [Act.put, zI, zJ, zK]
  refine tnI 16 21 ?_
  simp only [Act.put, zI, zJ, zK]
  refine tnI 17 22 ?_
  simp only [Act.put, zI, zJ, zK]
  refine tkI 18 23 (.bool false) ?_
  simp only [Act.put, zI, zJ, zK]
  refine tkI 19 4 (.bool false) ?_
  simp only [Act.put, zI, zJ, zK]
  refine wpAnyH_done (by kernel_rfl) ?_ _
  go_wp2_with fail
  first | go_ret | skip
  exact ⟨by rw [HF.out]; rfl, hHeld1.1⟩
 cases b2
 ·
  clear HPO HSO0 HHS0
  refine wp_region_held_drew (S := RS w p x r) (by kernel_rfl) HS.out (fun hHeld0 => ?_)
  refine tkI 0 5 (.pointer (some ⟨w.heap.size + 1, 3, none⟩)) ?_
  simp only [Act.put, zI, zJ, zK]
  refine tjI 1 6 (.int .i64 r.add) ?_ ?_
  ·
   intro X hX; obtain ⟨-, hI, hJ⟩ := hX; obtain ⟨d0, d1, d2, d3⟩ := hJ.rl; go_simp
  (try simp only [Act.put, zI, zJ, zK])
  refine rYI 2 fun K hK => ?_
  go_simp
  refine (HW.out _).mono ?_
  rintro e wq1 ⟨rfl, rfl⟩
  go_simp
  refine hK.out _ _ hHeld0 (fun hHeld1 => ?_)
  clear hK K
  (try simp only [Act.put, zI, zJ, zK])
  refine tkI 3 8 (.bool true) ?_
  simp only [Act.put, zI, zJ, zK]
  refine tjI 4 9 (imV p x) ?_ ?_
  ·
   intro X hX; obtain ⟨-, hI, hJ⟩ := hX; obtain ⟨c0, c1, c2, c3, c4, c5, c6, c7, c8, c9, c10, c11, c12, c13, c14⟩ := hI.cells; go_simp
  (try simp only [Act.put, zI, zJ, zK])
  refine tjI 5 10 (.agg (rlA r)) ?_ ?_
  ·
   intro X hX; obtain ⟨-, hI, hJ⟩ := hX; obtain ⟨d0, d1, d2, d3⟩ := hJ.rl; go_simp
  (try simp only [Act.put, zI, zJ, zK])
  refine rYI 6 fun K hK => ?_
  go_simp
  refine (HFK.out _ hHeld1.1).mono ?_
  rintro e wq2 ⟨rfl, hq2⟩
  go_simp
  refine hK.out _ _ ((hHeld1).on hq2) (fun hHeld2 => ?_)
  clear hK K
  (try simp only [Act.put, zI, zJ, zK])
  refine tkI 7 12 (.bool false) ?_
  simp only [Act.put, zI, zJ, zK]
  refine tkI 8 13 (.bool false) ?_
  simp only [Act.put, zI, zJ, zK]
  refine tnI 9 14 ?_
  simp only [Act.put, zI, zJ, zK]
  refine tnI 10 15 ?_
  simp only [Act.put, zI, zJ, zK]
  refine tnI 11 16 ?_
  simp only [Act.put, zI, zJ, zK]
  refine tnI 12 17 ?_
  simp only [Act.put, zI, zJ, zK]
  refine tnI 13 18 ?_
  simp only [Act.put, zI, zJ, zK]
  refine tnI 14 19 ?_
  simp only [Act.put, zI, zJ, zK]
  refine tnI 15 20 ?_
  simp only [Act.put, zI, zJ, zK]
  refine tnI 16 21 ?_
  simp only [Act.put, zI, zJ, zK]
  refine tnI 17 22 ?_
  simp only [Act.put, zI, zJ, zK]
  refine tkI 18 23 (.bool false) ?_
  simp only [Act.put, zI, zJ, zK]
  refine tkI 19 4 (.bool false) ?_
  simp only [Act.put, zI, zJ, zK]
  refine wpAnyH_done (by kernel_rfl) ?_ _
  go_wp2_with fail
  first | go_ret | skip
  exact ⟨by rw [HF.out]; rfl, hHeld2.1⟩
 have HSO := hD (HSO0.out rfl)
 have HHS := hD (HHS0.out rfl)
 clear HSO0 HHS0
 refine wp_region_held_drew (S := RS w p x r) (by kernel_rfl) HS.out (fun hHeld0 => ?_)
 refine tkI 0 5 (.pointer (some ⟨w.heap.size + 1, 3, none⟩)) ?_
 simp only [Act.put, zI, zJ, zK]
 refine tjI 1 6 (.int .i64 r.add) ?_ ?_
 ·
  intro X hX; obtain ⟨-, hI, hJ⟩ := hX; obtain ⟨d0, d1, d2, d3⟩ := hJ.rl; go_simp
 (try simp only [Act.put, zI, zJ, zK])
 refine rYI 2 fun K hK => ?_
 go_simp
 refine (HW.out _).mono ?_
 rintro e wq1 ⟨rfl, rfl⟩
 go_simp
 refine hK.out _ _ hHeld0 (fun hHeld1 => ?_)
 clear hK K
 (try simp only [Act.put, zI, zJ, zK])
 refine tkI 3 8 (.bool true) ?_
 simp only [Act.put, zI, zJ, zK]
 refine tjI 4 9 (imV p x) ?_ ?_
 ·
  intro X hX; obtain ⟨-, hI, hJ⟩ := hX; obtain ⟨c0, c1, c2, c3, c4, c5, c6, c7, c8, c9, c10, c11, c12, c13, c14⟩ := hI.cells; go_simp
 (try simp only [Act.put, zI, zJ, zK])
 refine tjI 5 10 (.agg (rlA r)) ?_ ?_
 ·
  intro X hX; obtain ⟨-, hI, hJ⟩ := hX; obtain ⟨d0, d1, d2, d3⟩ := hJ.rl; go_simp
 (try simp only [Act.put, zI, zJ, zK])
 refine rYI 6 fun K hK => ?_
 go_simp
 refine (HFK.out _ hHeld1.1).mono ?_
 rintro e wq2 ⟨rfl, hq2⟩
 go_simp
 refine hK.out _ _ ((hHeld1).on hq2) (fun hHeld2 => ?_)
 clear hK K
 (try simp only [Act.put, zI, zJ, zK])
 refine tkI 7 12 (.bool true) ?_
 simp only [Act.put, zI, zJ, zK]
 refine tkI 8 13 (.bool true) ?_
 simp only [Act.put, zI, zJ, zK]
 refine tjI 9 14 (imV p x) ?_ ?_
 ·
  intro X hX; obtain ⟨-, hI, hJ⟩ := hX; obtain ⟨c0, c1, c2, c3, c4, c5, c6, c7, c8, c9, c10, c11, c12, c13, c14⟩ := hI.cells; go_simp
 (try simp only [Act.put, zI, zJ, zK])
 refine tkI 10 15 (.pointer (some ⟨w.heap.size + 1, 0, none⟩)) ?_
 simp only [Act.put, zI, zJ, zK]
 refine tjI 11 16 (.int .i64 r.at_) ?_ ?_
 ·
  intro X hX; obtain ⟨-, hI, hJ⟩ := hX; obtain ⟨d0, d1, d2, d3⟩ := hJ.rl; go_simp
 (try simp only [Act.put, zI, zJ, zK])
 refine tjI 12 17 (imV p x) ?_ ?_
 ·
  intro X hX; obtain ⟨-, hI, hJ⟩ := hX; obtain ⟨c0, c1, c2, c3, c4, c5, c6, c7, c8, c9, c10, c11, c12, c13, c14⟩ := hI.cells; go_simp
 (try simp only [Act.put, zI, zJ, zK])
 refine tjI 13 18 (.agg (rlA r)) ?_ ?_
 ·
  intro X hX; obtain ⟨-, hI, hJ⟩ := hX; obtain ⟨d0, d1, d2, d3⟩ := hJ.rl; go_simp
 (try simp only [Act.put, zI, zJ, zK])
 refine tjI 15 20 (.agg (rlA r)) ?_ ?_
 ·
  intro X hX; obtain ⟨-, hI, hJ⟩ := hX; obtain ⟨d0, d1, d2, d3⟩ := hJ.rl; go_simp
 (try simp only [Act.put, zI, zJ, zK])
 refine rYI 14 fun K hK => ?_
 go_simp
 refine (HSO.out _ hHeld2.1).mono ?_
 rintro e wq3 ⟨rfl, hq3⟩
 go_simp
 refine hK.out _ _ ((hHeld2).on hq3) (fun hHeld3 => ?_)
 clear hK K
 (try simp only [Act.put, zI, zJ, zK])
 refine rYI 16 fun K hK => ?_
 go_simp
 refine (HPO.out _).mono ?_
 rintro e wq4 ⟨rfl, hq4⟩
 go_simp
 refine hK.out _ _ ((hHeld3).on hq4) (fun hHeld4 => ?_)
 clear hK K
 (try simp only [Act.put, zI, zJ, zK])
 refine rYI 17 fun K hK => ?_
 go_simp
 refine (HHS.out _ hHeld4.1).mono ?_
 rintro e wq5 ⟨rfl, hq5⟩
 go_simp
 refine hK.out _ _ ((hHeld4).on hq5) (fun hHeld5 => ?_)
 clear hK K
 (try simp only [Act.put, zI, zJ, zK])
 refine tkI 18 23 (.bool b3) ?_
 simp only [Act.put, zI, zJ, zK]
 refine tkI 19 4 (.bool b3) ?_
 simp only [Act.put, zI, zJ, zK]
 refine wpAnyH_done (by kernel_rfl) ?_ _
 go_wp2_with fail
 first | go_ret | skip
 exact ⟨by rw [HF.out]; rfl, hHeld5.1⟩
end Go.Proofs.YtfljignkjmabpaaGreat
