/- A part of the proof. -/
import Derived.Test.YtfljignkjmabpaaGreatZN
set_option linter.unusedSimpArgs false
set_option linter.unusedVariables false
namespace Go.Proofs.YtfljignkjmabpaaGreat
set_option maxRecDepth 100000
open Go.RowKit
theorem all_step' {p : Nat → Bool} {k : Nat} (h : (List.range k).all p = true) (h1 : p k = true) : (List.range (k + 1)).all p = true := by
 rw [List.range_succ, List.all_append, h]
 simp [h1]
theorem all_fail' {p : Nat → Bool} {k n : Nat} (hk : k < n) (h : p k = false) : (List.range n).all p = false := List.all_eq_false.2 ⟨k, List.mem_range.2 hk, by simp [h]⟩
def segAt (l : List Sg) (k : Nat) : Bool := segB (l.getD k noSg) && decide (lastI (fun k => upI ((l.getD k noSg).at_ + (l.getD k noSg).size)) k ≤ (l.getD k noSg).at_)
theorem segs_eq (l : List Sg) : segsB l = (withB (l.length : Int) 1 8 && (List.range l.length).all (segAt l)) := rfl
theorem segB_no {s : Sg} (h : segB s = false) : s.at_ < 0 ∨ (0 ≤ s.at_ ∧ 65536 < s.at_) ∨ (0 ≤ s.at_ ∧ s.at_ ≤ 65536 ∧ ¬ s.at_ % 64 = 0) ∨ (0 ≤ s.at_ ∧ s.at_ ≤ 65536 ∧ s.at_ % 64 = 0 ∧ s.size < 1) ∨ (0 ≤ s.at_ ∧ s.at_ ≤ 65536 ∧ s.at_ % 64 = 0 ∧ 1 ≤ s.size ∧ 65536 < s.size) ∨
  (0 ≤ s.at_ ∧ s.at_ ≤ 65536 ∧ s.at_ % 64 = 0 ∧ 1 ≤ s.size ∧ s.size ≤ 65536 ∧ 65536 < s.at_ + s.size) ∨ (0 ≤ s.at_ ∧ s.at_ ≤ 65536 ∧ s.at_ % 64 = 0 ∧ 1 ≤ s.size ∧ s.size ≤ 65536 ∧ s.at_ + s.size ≤ 65536 ∧ s.size < (s.bs.length : Int)) ∨
  (0 ≤ s.at_ ∧ s.at_ ≤ 65536 ∧ s.at_ % 64 = 0 ∧ 1 ≤ s.size ∧ s.size ≤ 65536 ∧ s.at_ + s.size ≤ 65536 ∧ (s.bs.length : Int) ≤ s.size ∧ s.perm < 0) ∨
  (0 ≤ s.at_ ∧ s.at_ ≤ 65536 ∧ s.at_ % 64 = 0 ∧ 1 ≤ s.size ∧ s.size ≤ 65536 ∧ s.at_ + s.size ≤ 65536 ∧ (s.bs.length : Int) ≤ s.size ∧ 0 ≤ s.perm ∧ 7 < s.perm) := by
 by_cases a1 : s.at_ < 0
 ·
  exact .inl a1
 have a1 : 0 ≤ s.at_ := by omega
 by_cases a2 : 65536 < s.at_
 ·
  exact .inr (.inl ⟨a1, a2⟩)
 have a2 : s.at_ ≤ 65536 := by omega
 by_cases a3 : ¬ s.at_ % 64 = 0
 ·
  exact .inr (.inr (.inl ⟨a1, a2, a3⟩))
 have a3 : s.at_ % 64 = 0 := by omega
 by_cases a4 : s.size < 1
 ·
  exact .inr (.inr (.inr (.inl ⟨a1, a2, a3, a4⟩)))
 have a4 : 1 ≤ s.size := by omega
 by_cases a5 : 65536 < s.size
 ·
  exact .inr (.inr (.inr (.inr (.inl ⟨a1, a2, a3, a4, a5⟩))))
 have a5 : s.size ≤ 65536 := by omega
 by_cases a6 : 65536 < s.at_ + s.size
 ·
  exact .inr (.inr (.inr (.inr (.inr (.inl ⟨a1, a2, a3, a4, a5, a6⟩)))))
 have a6 : s.at_ + s.size ≤ 65536 := by omega
 by_cases a7 : s.size < (s.bs.length : Int)
 ·
  exact .inr (.inr (.inr (.inr (.inr (.inr (.inl ⟨a1, a2, a3, a4, a5, a6, a7⟩))))))
 have a7 : (s.bs.length : Int) ≤ s.size := by omega
 by_cases a8 : s.perm < 0
 ·
  exact .inr (.inr (.inr (.inr (.inr (.inr (.inr (.inl ⟨a1, a2, a3, a4, a5, a6, a7, a8⟩)))))))
 have a8 : 0 ≤ s.perm := by omega
 by_cases a9 : 7 < s.perm
 ·
  exact .inr (.inr (.inr (.inr (.inr (.inr (.inr (.inr ⟨a1, a2, a3, a4, a5, a6, a7, a8, a9⟩)))))))
 exfalso
 have a9 : s.perm ≤ 7 := by omega
 have : segB s = true := by
  unfold segB withB
  simp only [Bool.and_eq_true, decide_eq_true_eq, beq_iff_eq]
  exact ⟨⟨⟨⟨⟨a1, a2⟩, a3⟩, a4, by omega⟩, a7⟩, a8, a9⟩
 rw [this] at h
 cases h
theorem segB_yes {s : Sg} (h : segB s = true) : 0 ≤ s.at_ ∧ s.at_ ≤ 65536 ∧ s.at_ % 64 = 0 ∧ 1 ≤ s.size ∧ s.size ≤ 65536 ∧ s.at_ + s.size ≤ 65536 ∧ (s.bs.length : Int) ≤ s.size ∧ 0 ≤ s.perm ∧ s.perm ≤ 7 := by
 unfold segB withB at h
 simp only [Bool.and_eq_true, decide_eq_true_eq, beq_iff_eq] at h
 omega
set_option maxHeartbeats 8000000 in
theorem dsegs_any (p : Pl) (x : Im) (w : World) (h : ImIn w (fun k => k < w.heap.size) p x) (hf : Fit x) :
  Calls Tryz.prog 64 #[imV p x] w fun e w' => e = .returned (.bool (segsB x.segs)) ∧ Below w.heap.size w w' := by
 obtain ⟨⟨sga, sgc⟩, nd, rp, sy, bk, fw, rl, sl, ini, fin, tl⟩ := p
 have hB := ibox_below w ⟨⟨sga, sgc⟩, nd, rp, sy, bk, fw, rl, sl, ini, fin, tl⟩ x
 have hX := Ix.new w ⟨⟨sga, sgc⟩, nd, rp, sy, bk, fw, rl, sl, ini, fin, tl⟩ x
 have H := hD (fun (X : World) (hX : Below w.heap.size w X) => (h.lt hX).segs.ex)
 have HN := hD (show sga = none → x.segs.length = 0 from fun h0 => by
  obtain ⟨B, h1, _⟩ := h.segs.ex
  exact (h1.nil h0).1)
 have HFI := hD hf.seg
 have l1 := hf.segs
 unfold Long at l1
 generalize hbb : segsB x.segs = bb
 have HF := hD (hbb.symm.trans (segs_eq x.segs))
 have HB := hD hB
 have HX := hD hX
 obtain ⟨-, -, c2, -⟩ := hX.cells
 simp only at c2
 clear h hf hbb hB hX
 go_enter Tryz.func64, Tryz.ntmps64
 go_upto_region 1 with (fail)
 change Code.wp _ _ _ _ (w.alloc (.cells (imA ⟨⟨sga, sgc⟩, nd, rp, sy, bk, fw, rl, sl, ini, fin, tl⟩ x) 40))
 generalize w.alloc (.cells (imA ⟨⟨sga, sgc⟩, nd, rp, sy, bk, fw, rl, sl, ini, fin, tl⟩ x) 40) = w1 at *
 by_cases g1 : (x.segs.length : Int) < 1
 ·
  have HV := hD (show bb = false by rw [HF.out]; unfold withB; rw [decide_eq_false (show ¬ (1 : Int) ≤ (x.segs.length : Int) by omega)]; rfl)
  go_wp2_with fail
  go_ret
  exact ⟨by rw [HV.out]; rfl, HB.out⟩
 by_cases g2 : (8 : Int) < (x.segs.length : Int)
 ·
  have HV := hD (show bb = false by rw [HF.out]; unfold withB; rw [decide_eq_false (show ¬ (x.segs.length : Int) ≤ 8 by omega), Bool.and_false]; rfl)
  go_wp2_with fail
  go_ret
  exact ⟨by rw [HV.out]; rfl, HB.out⟩
 have HF2 := hD (show bb = (List.range x.segs.length).all (segAt x.segs) by rw [HF.out]; unfold withB; rw [decide_eq_true (show (1 : Int) ≤ (x.segs.length : Int) by omega), decide_eq_true (show (x.segs.length : Int) ≤ 8 by omega)]; rfl)
 clear HF
 go_upto_region 3 with (fail)
 go_wp2_with fail
 go_loopw [3] (fun t wr => ∃ k : Nat, k ≤ x.segs.length ∧ t = .int .i64 k ∧ Below w1.heap.size w1 wr ∧ (List.range k).all (segAt x.segs) = true) (fun t _ => x.segs.length - (intOf t).toNat)
 case atStart => exact ⟨0, Nat.zero_le _, rfl, Below.refl _ _, rfl⟩
 case round =>
  obtain ⟨k, hk, rfl, hb, he⟩ := hrel
  have HE := hD he
  have HBR := hD hb
  have HB0 := hD (HB.out.trans (hb.mono HB.out.size))
  have f2 := cell_below hb c2
  clear he hb
  by_cases hlt : k < x.segs.length
  ·
   obtain ⟨ad, rfl⟩ : ∃ ad, sga = some ad := by
    cases sga with
    | none => have := HN.out rfl; omega
    | some ad => exact ⟨ad, rfl⟩
   obtain ⟨B, hE, -⟩ := H.out wr HB0.out
   have hcap := hE.cap
   obtain ⟨b, o, rfl⟩ := hE.plain (by omega) rfl
   have hg := hE.get k hlt
   have d0 := hg 0 _ rfl
   have d1 := hg 1 _ rfl
   have d2 := hg 2 _ rfl
   have d3 := hg 3 _ rfl
   simp only [Nat.add_zero] at d0
   have HSB := hD (show segAt x.segs k = (segB (x.segs.getD k noSg) && decide (lastI (fun k => upI ((x.segs.getD k noSg).at_ + (x.segs.getD k noSg).size)) k ≤ (x.segs.getD k noSg).at_)) from rfl)
   have HY := hD (fun h => all_step' (p := segAt x.segs) HE.out h)
   have HNO := hD (fun h => HF2.out.trans (all_fail' (p := segAt x.segs) hlt h))
   have hfs := HFI.out _ (getD_mem (d := noSg) hlt)
   have HPV := hD (show ∀ j, k = j + 1 → (∃ pl, ∀ i u, (sgA (x.segs.getD j noSg) pl)[i]? = some u → wr.cell? ⟨b, o + j * 4 + i, none⟩ = some u) ∧ SegOk (x.segs.getD j noSg) ∧ lastI (fun k => upI ((x.segs.getD k noSg).at_ + (x.segs.getD k noSg).size)) k = upI ((x.segs.getD j noSg).at_ + (x.segs.getD j noSg).size) from fun j hj => by
    refine ⟨⟨B j, hE.get j (by omega)⟩, ?_, by rw [hj]; rfl⟩
    have := List.all_eq_true.1 HE.out j (List.mem_range.2 (by omega))
    unfold segAt at this
    simp only [Bool.and_eq_true] at this
    exact segB_ok this.1)
   have HZ := hD (show k = 0 → lastI (fun k => upI ((x.segs.getD k noSg).at_ + (x.segs.getD k noSg).size)) k = 0 from fun h => by rw [h]; rfl)
   clear hg hE
   generalize segAt x.segs k = sk at *
   generalize lastI (fun k => upI ((x.segs.getD k noSg).at_ + (x.segs.getD k noSg).size)) k = la at *
   generalize x.segs.getD k noSg = s at *
   generalize B k = pl at *
   unfold I64 Long at hfs
   have HBX := hD (HBR.out.trans ((sgbox_below wr s pl).mono HBR.out.size))
   have HBX0 := hD (HB0.out.trans ((sgbox_below wr s pl).mono HB0.out.size))
   have hx := Bx.new wr (sgA s pl) 61
   have x0 := hx.c 0
   have x1 := hx.c 1
   have x2 := hx.c 2
   have x3 := hx.c 3
   simp only [List.getElem?_toArray, List.getElem?_cons_succ, List.getElem?_cons_zero] at x0 x1 x2 x3
   clear hx
   cases hsb : segB s
   ·
    have HV := hD (HNO.out (by rw [HSB.out, hsb]; rfl))
    have hq := segB_no hsb
    clear HY HNO HSB HPV HFI H HN
    have e1 : 0 ≤ s.at_ → s.at_ ≤ 65536 → 1 ≤ s.size → s.size ≤ 65536 → wrap64 (s.at_ + s.size) = s.at_ + s.size := fun _ _ _ _ => wrap_in (by omega) (by omega)
    rcases hq with h1 | ⟨h1, h2⟩ | ⟨h1, h2, h3⟩ | ⟨h1, h2, h3, h4⟩ | ⟨h1, h2, h3, h4, h5⟩ | ⟨h1, h2, h3, h4, h5, h6⟩ | ⟨h1, h2, h3, h4, h5, h6, h7⟩ | ⟨h1, h2, h3, h4, h5, h6, h7, h8⟩ | ⟨h1, h2, h3, h4, h5, h6, h7, h8, h9⟩
    all_goals
     try have e1 := e1 h1 h2 h4 h5
     go_wp2_with fail
     go_ret
     exact ⟨by rw [HV.out]; rfl, HBX0.out⟩
   ·
    obtain ⟨h1, h2, h3, h4, h5, h6, h7, h8, h9⟩ := segB_yes hsb
    have e1 : wrap64 (s.at_ + s.size) = s.at_ + s.size := wrap_in (by omega) (by omega)
    go_upto_region 9 with (fail)
    change Code.wp _ _ _ _ (wr.alloc (.cells (sgA s pl) 61))
    have hbx := sgbox_below wr s pl
    have f2' := cell_below hbx f2
    have HBD := hD (HBX.out.trans ((drew_below (wr.alloc (.cells (sgA s pl) 61))).mono HBX.out.size))
    have HBD0 := hD (HBX0.out.trans ((drew_below (wr.alloc (.cells (sgA s pl) 61))).mono HBX0.out.size))
    have hz : wr.heap.size < (wr.alloc (.cells (sgA s pl) 61)).heap.size := by simp
    have HU := hD (fun (y : Sg) (hy : SegOk y) X => up_any (y.at_ + y.size) X (by unfold SegOk at hy; omega) (by unfold SegOk at hy; omega))
    have HPC := hD (show ∀ j, k = j + 1 → (∃ pl', ∀ i u, (sgA (x.segs.getD j noSg) pl')[i]? = some u → (wr.alloc (.cells (sgA s pl) 61)).cell? ⟨b, o + j * 4 + i, none⟩ = some u) from fun j hj => by
     obtain ⟨⟨pl', hc⟩, -⟩ := HPV.out j hj
     exact ⟨pl', fun i u hu => cell_below hbx (hc i u hu)⟩)
    clear hbx d0 d1 d2 d3 f2
    generalize wr.alloc (.cells (sgA s pl) 61) = w2 at *
    have y0 : w2.drew.cell? ⟨wr.heap.size, 0, none⟩ = some (.int .i64 s.at_) := x0
    have y2 : w2.drew.cell? ⟨w.heap.size, 2, none⟩ = some (.slice (some ⟨b, o, none⟩) x.segs.length sgc) := f2'
    by_cases hk0 : k = 0
    ·
     have hk0' : ¬ (0 : Int) < (k : Int) := by omega
     have HSV := hD (HY.out (by rw [HSB.out, hsb, HZ.out hk0]; simp [h1]))
     clear HY HNO HSB HPV HPC HFI H HN
     subst hk0
     refine wp_region_held_drew (S := fun X => X = w2.drew) (by kernel_rfl) rfl (fun hHeld0 => ?_)
     refine tkI 0 77 (.int .i64 ((0 : Nat) : Int)) ?_
     simp only [Act.put, zI, zJ, zK]
     refine tkI 1 78 (.bool false) ?_
     simp only [Act.put, zI, zJ, zK]
     refine tkI 2 79 (.bool false) ?_
     simp only [Act.put, zI, zJ, zK]
     refine tnI 3 80 ?_
     simp only [Act.put, zI, zJ, zK]
     refine tnI 4 81 ?_
     simp only [Act.put, zI, zJ, zK]
     refine tnI 5 82 ?_
     simp only [Act.put, zI, zJ, zK]
     refine tnI 6 83 ?_
     simp only [Act.put, zI, zJ, zK]
     refine tnI 7 84 ?_
     simp only [Act.put, zI, zJ, zK]
     refine tnI 8 85 ?_
     simp only [Act.put, zI, zJ, zK]
     refine tnI 9 86 ?_
     simp only [Act.put, zI, zJ, zK]
     refine tnI 10 87 ?_
     simp only [Act.put, zI, zJ, zK]
     refine tnI 11 88 ?_
     simp only [Act.put, zI, zJ, zK]
     refine tnI 12 89 ?_
     simp only [Act.put, zI, zJ, zK]
     refine tnI 13 90 ?_
     simp only [Act.put, zI, zJ, zK]
     refine tnI 14 91 ?_
     simp only [Act.put, zI, zJ, zK]
     refine tnI 15 92 ?_
     simp only [Act.put, zI, zJ, zK]
     refine tnI 16 93 ?_
     simp only [Act.put, zI, zJ, zK]
     refine tnI 17 94 ?_
     simp only [Act.put, zI, zJ, zK]
     refine tnI 18 95 ?_
     simp only [Act.put, zI, zJ, zK]
     refine tnI 19 96 ?_
     simp only [Act.put, zI, zJ, zK]
     refine tnI 20 97 ?_
     simp only [Act.put, zI, zJ, zK]
     refine tnI 21 98 ?_
     simp only [Act.put, zI, zJ, zK]
     refine tkI 22 99 (.bool false) ?_
     simp only [Act.put, zI, zJ, zK]
     refine wpAnyH_done (by kernel_rfl) ?_ _
     go_wp2_with fail
     go_roundw
     case rel => exact ⟨1, by omega, by go_num, HBD.out, HSV.out⟩
     case measure => simp [intOf]; omega
    ·
     obtain ⟨j, hj⟩ : ∃ j, k = j + 1 := ⟨k - 1, by omega⟩
     obtain ⟨-, hso, hla⟩ := HPV.out j hj
     obtain ⟨pl', hc⟩ := HPC.out j hj
     have q0 : w2.drew.cell? ⟨b, o + j * 4, none⟩ = some (.int .i64 (x.segs.getD j noSg).at_) := hc 0 _ rfl
     have q1 : w2.drew.cell? ⟨b, o + j * 4 + 1, none⟩ = some (.int .i64 (x.segs.getD j noSg).size) := hc 1 _ rfl
     have HUP := hD (fun X => HU.out (x.segs.getD j noSg) hso X)
     have e2 : wrap64 ((x.segs.getD j noSg).at_ + (x.segs.getD j noSg).size) = (x.segs.getD j noSg).at_ + (x.segs.getD j noSg).size := by unfold SegOk at hso; exact wrap_in (by omega) (by omega)
     have hk0' : (0 : Int) < (k : Int) := by omega
     have e3 : wrap64 ((k : Int) - 1) = (k : Int) - 1 := wrap_in (by omega) (by omega)
     have hkt : ((k : Int) - 1).toNat = j := by omega
     have e4 : IntKind.i64.wrap ((k : Int) - 1) = (k : Int) - 1 := (wrap_i64 _).trans e3
     have e5 : IntKind.i64.wrap ((x.segs.getD j noSg).at_ + (x.segs.getD j noSg).size) = (x.segs.getD j noSg).at_ + (x.segs.getD j noSg).size := (wrap_i64 _).trans e2
     have hkn : 0 < k := by omega
     have hk1 : ¬ (k : Int) < 1 := by omega
     have hj0 : (0 : Int) ≤ (k : Int) - 1 := by omega
     have hj1 : (k : Int) - 1 < (x.segs.length : Int) := by omega
     rw [← hla] at HUP
     clear hc HU HPV HPC HFI H HN hso hla hj
     generalize x.segs.getD j noSg = y at *
     by_cases hlo : s.at_ < la
     ·
      have HSV := hD (HNO.out (by rw [HSB.out, hsb]; simp; omega))
      clear HY HNO HSB
      refine wp_region_held_drew (S := fun X => X = w2.drew) (by kernel_rfl) rfl (fun hHeld0 => ?_)
      refine tkI 0 77 (.int .i64 (k : Int)) ?_
      simp only [Act.put, zI, zJ, zK]
      refine tkI 1 78 (.bool true) ?_
      simp only [Act.put, zI, zJ, zK]
      refine tkI 2 79 (.bool true) ?_
      simp only [Act.put, zI, zJ, zK]
      refine tkI 3 80 (.pointer (some ⟨wr.heap.size, 0, none⟩)) ?_
      simp only [Act.put, zI, zJ, zK]
      refine tjI 4 81 (.int .i64 s.at_) ?_ ?_
      ·
       intro X hX; subst hX; go_simp
      (try simp only [Act.put, zI, zJ, zK])
      refine tkI 5 82 (.pointer (some ⟨w.heap.size, 2, none⟩)) ?_
      simp only [Act.put, zI, zJ, zK]
      refine tjI 6 83 (.slice (some ⟨b, o, none⟩) x.segs.length sgc) ?_ ?_
      ·
       intro X hX; subst hX; go_simp
      (try simp only [Act.put, zI, zJ, zK])
      refine tkI 7 84 (.int .i64 (k : Int)) ?_
      simp only [Act.put, zI, zJ, zK]
      refine tkI 8 85 (.int .i64 ((k : Int) - 1)) ?_
      simp only [Act.put, zI, zJ, zK]
      refine tkI 9 86 (.pointer (some ⟨b, o + j * 4, none⟩)) ?_
      simp only [Act.put, zI, zJ, zK]
      refine tkI 10 87 (.pointer (some ⟨b, o + j * 4, none⟩)) ?_
      simp only [Act.put, zI, zJ, zK]
      refine tjI 11 88 (.int .i64 y.at_) ?_ ?_
      ·
       intro X hX; subst hX; go_simp
      (try simp only [Act.put, zI, zJ, zK])
      refine tkI 12 89 (.pointer (some ⟨w.heap.size, 2, none⟩)) ?_
      simp only [Act.put, zI, zJ, zK]
      refine tjI 13 90 (.slice (some ⟨b, o, none⟩) x.segs.length sgc) ?_ ?_
      ·
       intro X hX; subst hX; go_simp
      (try simp only [Act.put, zI, zJ, zK])
      refine tkI 14 91 (.int .i64 (k : Int)) ?_
      simp only [Act.put, zI, zJ, zK]
      refine tkI 15 92 (.int .i64 ((k : Int) - 1)) ?_
      simp only [Act.put, zI, zJ, zK]
      refine tkI 16 93 (.pointer (some ⟨b, o + j * 4, none⟩)) ?_
      simp only [Act.put, zI, zJ, zK]
      refine tkI 17 94 (.pointer (some ⟨b, o + j * 4 + 1, none⟩)) ?_
      simp only [Act.put, zI, zJ, zK]
      refine tjI 18 95 (.int .i64 y.size) ?_ ?_
      ·
       intro X hX; subst hX; go_simp
      (try simp only [Act.put, zI, zJ, zK])
      refine tkI 19 96 (.int .i64 (y.at_ + y.size)) ?_
      simp only [Act.put, zI, zJ, zK]
      refine rYI 20 fun K hK => ?_
      go_simp
      refine (HUP.out _).mono ?_
      rintro e wq1 ⟨rfl, rfl⟩
      go_simp
      refine hK.out _ _ hHeld0 (fun hHeld1 => ?_)
      clear hK K
      (try simp only [Act.put, zI, zJ, zK])
      refine tkI 21 98 (.bool true) ?_
      simp only [Act.put, zI, zJ, zK]
      refine tkI 22 99 (.bool true) ?_
      simp only [Act.put, zI, zJ, zK]
      refine wpAnyH_done (by kernel_rfl) ?_ _
      clear e2 e3 e4 e5 hkt q0 q1 y0 y2
      go_wp2_with fail
      go_ret
      exact ⟨by rw [HSV.out]; rfl, HBD0.out⟩
     ·
      have HSV := hD (HY.out (by rw [HSB.out, hsb]; simp; omega))
      clear HY HNO HSB
      refine wp_region_held_drew (S := fun X => X = w2.drew) (by kernel_rfl) rfl (fun hHeld0 => ?_)
      refine tkI 0 77 (.int .i64 (k : Int)) ?_
      simp only [Act.put, zI, zJ, zK]
      refine tkI 1 78 (.bool true) ?_
      simp only [Act.put, zI, zJ, zK]
      refine tkI 2 79 (.bool true) ?_
      simp only [Act.put, zI, zJ, zK]
      refine tkI 3 80 (.pointer (some ⟨wr.heap.size, 0, none⟩)) ?_
      simp only [Act.put, zI, zJ, zK]
      refine tjI 4 81 (.int .i64 s.at_) ?_ ?_
      ·
       intro X hX; subst hX; go_simp
      (try simp only [Act.put, zI, zJ, zK])
      refine tkI 5 82 (.pointer (some ⟨w.heap.size, 2, none⟩)) ?_
      simp only [Act.put, zI, zJ, zK]
      refine tjI 6 83 (.slice (some ⟨b, o, none⟩) x.segs.length sgc) ?_ ?_
      ·
       intro X hX; subst hX; go_simp
      (try simp only [Act.put, zI, zJ, zK])
      refine tkI 7 84 (.int .i64 (k : Int)) ?_
      simp only [Act.put, zI, zJ, zK]
      refine tkI 8 85 (.int .i64 ((k : Int) - 1)) ?_
      simp only [Act.put, zI, zJ, zK]
      refine tkI 9 86 (.pointer (some ⟨b, o + j * 4, none⟩)) ?_
      simp only [Act.put, zI, zJ, zK]
      refine tkI 10 87 (.pointer (some ⟨b, o + j * 4, none⟩)) ?_
      simp only [Act.put, zI, zJ, zK]
      refine tjI 11 88 (.int .i64 y.at_) ?_ ?_
      ·
       intro X hX; subst hX; go_simp
      (try simp only [Act.put, zI, zJ, zK])
      refine tkI 12 89 (.pointer (some ⟨w.heap.size, 2, none⟩)) ?_
      simp only [Act.put, zI, zJ, zK]
      refine tjI 13 90 (.slice (some ⟨b, o, none⟩) x.segs.length sgc) ?_ ?_
      ·
       intro X hX; subst hX; go_simp
      (try simp only [Act.put, zI, zJ, zK])
      refine tkI 14 91 (.int .i64 (k : Int)) ?_
      simp only [Act.put, zI, zJ, zK]
      refine tkI 15 92 (.int .i64 ((k : Int) - 1)) ?_
      simp only [Act.put, zI, zJ, zK]
      refine tkI 16 93 (.pointer (some ⟨b, o + j * 4, none⟩)) ?_
      simp only [Act.put, zI, zJ, zK]
      refine tkI 17 94 (.pointer (some ⟨b, o + j * 4 + 1, none⟩)) ?_
      simp only [Act.put, zI, zJ, zK]
      refine tjI 18 95 (.int .i64 y.size) ?_ ?_
      ·
       intro X hX; subst hX; go_simp
      (try simp only [Act.put, zI, zJ, zK])
      refine tkI 19 96 (.int .i64 (y.at_ + y.size)) ?_
      simp only [Act.put, zI, zJ, zK]
      refine rYI 20 fun K hK => ?_
      go_simp
      refine (HUP.out _).mono ?_
      rintro e wq1 ⟨rfl, rfl⟩
      go_simp
      refine hK.out _ _ hHeld0 (fun hHeld1 => ?_)
      clear hK K
      (try simp only [Act.put, zI, zJ, zK])
      refine tkI 21 98 (.bool false) ?_
      simp only [Act.put, zI, zJ, zK]
      refine tkI 22 99 (.bool false) ?_
      simp only [Act.put, zI, zJ, zK]
      refine wpAnyH_done (by kernel_rfl) ?_ _
      clear e2 e3 e4 e5 hkt q0 q1 y0 y2
      go_wp2_with fail
      go_roundw
      case rel => exact ⟨k + 1, by omega, by go_num, HBD.out, HSV.out⟩
      case measure => simp [intOf]; omega
  ·
   obtain rfl : k = x.segs.length := by omega
   go_wp2_with fail
   go_ret
   exact ⟨by rw [HF2.out, HE.out]; rfl, HB0.out⟩
end Go.Proofs.YtfljignkjmabpaaGreat
