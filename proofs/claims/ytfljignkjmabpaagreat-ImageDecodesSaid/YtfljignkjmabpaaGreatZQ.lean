/- A part of the proof. -/
import Derived.Test.YtfljignkjmabpaaGreatZN
import Derived.Test.YtfljignkjmabpaaGreatZG
import Derived.Test.YtfljignkjmabpaaGreatZYTr
set_option linter.unusedSimpArgs false
set_option linter.unusedVariables false
namespace Go.Proofs.YtfljignkjmabpaaGreat
set_option maxRecDepth 100000
open Go.RowKit
theorem any_take_range (l : List Sym) (k : Nat) (hk : k ≤ l.length) (q : Sym → Bool) : (l.take k).any q = (List.range k).any (fun j => q (l.getD j noSy)) := by
 have hl : (l.take k).length = k := by rw [List.length_take]; omega
 rw [← range_any (l.take k) noSy q, hl, Bool.eq_iff_iff, List.any_eq_true, List.any_eq_true]
 constructor
 ·
  rintro ⟨j, hj, h⟩
  refine ⟨j, hj, ?_⟩
  have := List.mem_range.1 hj
  rwa [List.getD_eq_getElem?_getD, List.getElem?_take_of_lt this, ← List.getD_eq_getElem?_getD] at h
 ·
  rintro ⟨j, hj, h⟩
  refine ⟨j, hj, ?_⟩
  have := List.mem_range.1 hj
  rwa [List.getD_eq_getElem?_getD, List.getElem?_take_of_lt this, ← List.getD_eq_getElem?_getD]
theorem symB_right {x : Im} {s : Sym} (h : rightB s = true) : symB x s = (!s.dfd || (if s.kind = 3 then decide (s.val ≤ x.tlsSize) && decide (s.size ≤ x.tlsSize - s.val) else standB x.segs s.val s.size 0)) := by
 have hz := right_size h
 unfold symB
 rw [h, Bool.true_and]
 congr 1
 by_cases hk : s.kind = 3
 ·
  rw [if_pos hk, if_pos hk]
  unfold withB
  rw [Bool.eq_iff_iff]
  simp only [Bool.and_eq_true, decide_eq_true_eq]
  omega
 ·
  rw [if_neg hk, if_neg hk]
set_option maxHeartbeats 8000000 in
theorem dsyms_any (p : Pl) (x : Im) (w : World) (h : ImIn w (fun k => k < w.heap.size) p x) (hf : Fit x) (hs : ∀ s ∈ x.segs, SegOk s) (ht : 0 ≤ x.tlsSize ∧ x.tlsSize ≤ 4096) :
  Calls Tryz.prog 65 #[imV p x] w fun e w' => e = .returned (.bool (symsB x)) ∧ Below w.heap.size w w' := by
 obtain ⟨sg, nd, rp, ⟨sya, syc⟩, bk, fw, rl, sl, ini, fin, tl⟩ := p
 have hls := hf.syms
 unfold Long at hls
 have hb1 := ibox_below w ⟨sg, nd, rp, ⟨sya, syc⟩, bk, fw, rl, sl, ini, fin, tl⟩ x
 have hx1 := Ix.new w ⟨sg, nd, rp, ⟨sya, syc⟩, bk, fw, rl, sl, ini, fin, tl⟩ x
 have H := hD (fun (X : World) (hX : Below w.heap.size w X) => (h.lt hX).syms)
 have HFI := hD hf.sym
 have HTS := hD ht
 have HST := hD (fun (s : Sym) (hz : 0 ≤ s.size) (hz2 : I64 s.size) (X : World) (hX : Below w.heap.size w X) => dstands_any _ x s.val s.size 0 X (h.lt hX) hf.segs hs hz hz2.2)
 generalize hbb : symsB x = bb
 have HF := hD (hbb.symm.trans (show symsB x = (decide (x.syms.length ≤ 512) && (List.range x.syms.length).all (symAt x)) from rfl))
 clear h hf hs ht hbb
 go_enter Tryz.func65, Tryz.ntmps65
 go_upto_region 1 with (fail)
 change Code.wp _ _ _ _ (w.alloc (.cells (imA ⟨sg, nd, rp, ⟨sya, syc⟩, bk, fw, rl, sl, ini, fin, tl⟩ x) 40))
 generalize w.alloc (.cells (imA ⟨sg, nd, rp, ⟨sya, syc⟩, bk, fw, rl, sl, ini, fin, tl⟩ x) 40) = w1 at *
 have HB1 := hD hb1
 have HX1 := hD hx1
 obtain ⟨-, -, -, -, -, c5, -⟩ := hx1.cells
 simp only at c5
 clear hb1 hx1
 by_cases hl : x.syms.length ≤ 512
 ·
  have hl' : ¬ (512 : Int) < (x.syms.length : Int) := by omega
  have HF2 := hD (show bb = (List.range x.syms.length).all (symAt x) by rw [HF.out, decide_eq_true hl]; rfl)
  clear HF
  go_wp2
  go_loopw [3] (fun t wr => ∃ k : Nat, k ≤ x.syms.length ∧ t = .int .i64 k ∧ Below w1.heap.size w1 wr ∧ (List.range k).all (symAt x) = true) (fun t _ => x.syms.length - (intOf t).toNat)
  case atStart => exact ⟨0, Nat.zero_le _, rfl, Below.refl _ _, rfl⟩
  case round =>
   obtain ⟨k, hk, rfl, hb, he⟩ := hrel
   have HE := hD he
   have HB := hD (HB1.out.trans (hb.mono HB1.out.size))
   have HBR := hD hb
   have HX := hD (HX1.out.below hb)
   have f5 := cell_below hb c5
   clear he hb
   by_cases hlt : k < x.syms.length
   ·
    obtain ⟨ad, rfl⟩ : ∃ ad, sya = some ad := by
     cases sya with
     | none => have := ((H.out _ HB.out).nil rfl).1; omega
     | some ad => exact ⟨ad, rfl⟩
    have HS := hD (H.out _ HB.out)
    have hcap := HS.out.cap
    obtain ⟨b, o, rfl⟩ := HS.out.plain (by omega)
    have hg := HS.out.els.get k hlt
    have d0 := hg 0 _ rfl
    have d1 := hg 1 _ rfl
    have d2 := hg 2 _ rfl
    have d3 := hg 3 _ rfl
    have d4 := hg 4 _ rfl
    have d5 := hg 5 _ rfl
    have d6 := hg 6 _ rfl
    have d7 := hg 7 _ rfl
    have d8 := hg 8 _ rfl
    simp only [Nat.add_zero] at d0
    clear hg
    have HA := hD (show symAt x k = (symB x (x.syms.getD k noSy) && !(List.range k).any (fun j => clashB (x.syms.getD k noSy) (x.syms.getD j noSy))) by unfold symAt; rw [any_take_range _ _ hk])
    have HYE := hD (fun h => syms_step (x := x) (k := k) HE.out h)
    have HNO := hD (fun (h : symAt x k = false) => HF2.out.trans (List.all_eq_false.2 ⟨k, List.mem_range.2 hlt, by simp [h]⟩))
    have hfs := HFI.out _ (getD_mem (d := noSy) hlt)
    have HSB := hD (fun h => symB_right (x := x) (s := x.syms.getD k noSy) h)
    generalize symAt x k = sa at *
    generalize hss : x.syms.getD k noSy = s at *
    have HRI := hD (fun X => rright_any s X (by have := hfs.1; unfold Long at this; omega) (by have := hfs.2.1; unfold Long at this; omega))
    have HSI := hD hfs
    clear HE hfs hss
    have hbx := (Below.refl wr.heap.size wr).alloc (Nat.le_refl _) (.cells (symA s) 105)
    have HBX := hD (HB.out.trans (hbx.mono HB.out.size))
    have HBX1 := hD (HBR.out.trans (hbx.mono HBR.out.size))
    have HSX := hD (Sx.new wr s)
    have HXX := hD (HX.out.below hbx)
    clear hbx
    go_upto_region 7 with (fail)
    change Code.wp _ _ _ _ (wr.alloc (.cells (symA s) 105))
    generalize wr.alloc (.cells (symA s) 105) = w2 at *
    clear d0 d1 d2 d3 d4 d5 d6 d7 d8 f5 HS HX
    obtain ⟨x0, x1, x2, x3, x4, x5, x6, x7, x8⟩ := HSX.out.cells
    cases hr : rightB s
    ·
     have HV := hD (HNO.out (by rw [HA.out, show symB x s = false by unfold symB; rw [hr]; rfl]; rfl))
     rw [hr] at HRI
     clear hr
     go_wp2_with (go_at_call 144; (with_reducible refine (HRI.out _).mono ?_); rintro e w3 ⟨rfl, hb3⟩)
     go_ret
     exact ⟨by rw [HV.out]; rfl, HBX.out.trans (hb3.mono HBX.out.size)⟩
    rw [hr] at HRI
    have HSQ := hD (HSB.out hr)
    have hz := right_size hr
    go_upto_region 9 with (go_at_call 144; (with_reducible refine (HRI.out _).mono ?_); rintro e w3 ⟨rfl, hb3⟩)
    have HB3 := hD (HBX.out.trans (hb3.mono HBX.out.size))
    have HB31 := hD (HBX1.out.trans (hb3.mono HBX1.out.size))
    have HX3 := hD (HXX.out.below hb3)
    have HS3 := hD (HSX.out.below hb3)
    have hz3 := hb3.size
    clear x0 x1 x2 x3 x4 x5 x6 x7 x8 hb3
    obtain ⟨x0, x1, x2, x3, x4, x5, x6, x7, x8⟩ := HS3.out.cells
    obtain ⟨c0, c1, c2, c3, c4, f5, c6, c7, c8, c9, c10, c11, c12, c13, c14⟩ := HX3.out.cells
    simp only at c2 c3 c4 f5 c6 c7 c9 c10 c11 c12 c13
    have HTT := hD (HST.out s hz.2 HSI.out.2.2.2.2.2 w3 HB3.out)
    have hti := HTS.out
    have hsi := HSI.out.2.2.2.2
    unfold I64 at hsi
    have e1 : wrap64 (x.tlsSize - s.val) = x.tlsSize - s.val := wrap_in (by omega) (by omega)
    have hcase : (symB x s = false ∧ s.dfd = true ∧ s.kind = 3 ∧ x.tlsSize < s.val) ∨ (symB x s = false ∧ s.dfd = true ∧ s.kind = 3 ∧ s.val ≤ x.tlsSize ∧ x.tlsSize - s.val < s.size) ∨ (symB x s = false ∧ s.dfd = true ∧ ¬ s.kind = 3 ∧ standB x.segs s.val s.size 0 = false) ∨
      (symB x s = true ∧ s.dfd = false) ∨ (symB x s = true ∧ s.dfd = true ∧ s.kind = 3 ∧ s.val ≤ x.tlsSize ∧ s.size ≤ x.tlsSize - s.val) ∨ (symB x s = true ∧ s.dfd = true ∧ ¬ s.kind = 3 ∧ standB x.segs s.val s.size 0 = true) := by
     rw [HSQ.out]
     cases hd : s.dfd
     ·
      exact .inr (.inr (.inr (.inl ⟨rfl, rfl⟩)))
     ·
      by_cases hk : s.kind = 3
      ·
       rw [if_pos hk]
       by_cases q1 : s.val ≤ x.tlsSize
       ·
        by_cases q2 : s.size ≤ x.tlsSize - s.val
        ·
         exact .inr (.inr (.inr (.inr (.inl ⟨by simp [q1, q2], rfl, hk, q1, q2⟩))))
        ·
         exact .inr (.inl ⟨by simp [q2], rfl, hk, q1, by omega⟩)
       ·
        exact .inl ⟨by simp [q1], rfl, hk, by omega⟩
      ·
       rw [if_neg hk]
       cases hst : standB x.segs s.val s.size 0
       ·
        exact .inr (.inr (.inl ⟨rfl, rfl, hk, rfl⟩))
       ·
        exact .inr (.inr (.inr (.inr (.inr ⟨rfl, rfl, hk, rfl⟩))))
    clear HSQ HST
    rcases hcase with ⟨hsym, h1, h2, h3⟩ | ⟨hsym, h1, h2, h3, h4⟩ | ⟨hsym, h1, h2, h3⟩ | ⟨hsym, h1⟩ | ⟨hsym, h1, h2, h3, h4⟩ | ⟨hsym, h1, h2, h3⟩
    ·
     have HV := hD (HNO.out (by rw [HA.out, hsym]; rfl))
     rw [h1] at x6
     rw [h2] at x3
     clear hsym h1 h2
     go_wp2_with fail
     go_ret
     exact ⟨by rw [HV.out]; rfl, HB3.out⟩
    ·
     have HV := hD (HNO.out (by rw [HA.out, hsym]; rfl))
     rw [h1] at x6
     rw [h2] at x3
     clear hsym h1 h2
     go_wp2_with fail
     go_ret
     exact ⟨by rw [HV.out]; rfl, HB3.out⟩
    ·
     have HV := hD (HNO.out (by rw [HA.out, hsym]; rfl))
     rw [h1] at x6
     rw [h3] at HTT
     clear hsym h1 h3
     go_wp2_with (go_at_call 145; (with_reducible refine (HTT.out).mono ?_); rintro e w4 ⟨rfl, hb4⟩)
     go_ret
     exact ⟨by rw [HV.out]; rfl, HB3.out.trans (hb4.mono HB3.out.size)⟩
    ·
     rw [h1] at x6
     go_upto_region 11 with (fail)
     obtain ⟨w4, hw4⟩ : ∃ w4, w4 = w3 := ⟨_, rfl⟩
     subst hw4
     have HB4 := hD HB3.out
     have HB41 := hD HB31.out
     have HX4 := hD HX3.out
     have HS4 := hD HS3.out
     clear x0 x1 x2 x3 x4 x5 x6 x7 x8 c0 c1 c2 c3 c4 f5 c6 c7 c8 c9 c10 c11 c12 c13 c14 h1 e1 hti hsi HTT
     have HZB := hD (show symB x s = true from hsym)
     go_wp2_with fail
     go_loopw [5] (fun t wr2 => ∃ j : Nat, j ≤ k ∧ t = .int .i64 j ∧ Below w4.heap.size w4 wr2 ∧ (List.range j).any (fun j => clashB s (x.syms.getD j noSy)) = false) (fun t _ => k - (intOf t).toNat)
     case atStart => exact ⟨0, Nat.zero_le _, rfl, Below.refl _ _, rfl⟩
     case round =>
      obtain ⟨j, hj, rfl, hbj, hje⟩ := hrel
      have HJ := hD hje
      have HBJ := hD hbj
      have HBW := hD (HB4.out.trans (hbj.mono HB4.out.size))
      have HS5 := hD (HS4.out.below hbj)
      obtain ⟨-, -, -, -, -, f5, -⟩ := (HX4.out.below hbj).cells
      simp only at f5
      clear hje hbj
      by_cases hjk : j < k
      ·
       have HL := hD (H.out _ HBW.out)
       have hg := HL.out.els.get j (by omega)
       have d0 := hg 0 _ rfl
       have d1 := hg 1 _ rfl
       have d2 := hg 2 _ rfl
       have d3 := hg 3 _ rfl
       have d4 := hg 4 _ rfl
       have d5 := hg 5 _ rfl
       have d6 := hg 6 _ rfl
       have d7 := hg 7 _ rfl
       have d8 := hg 8 _ rfl
       simp only [Nat.add_zero] at d0
       clear hg HL
       have HJY := hD (fun h => range_yes (p := fun j => clashB s (x.syms.getD j noSy)) hjk h)
       have HJT := hD (range_take (p := fun j => clashB s (x.syms.getD j noSy)) HJ.out)
       try simp only at HJY HJT
       have hj0 : (0 : Int) ≤ (j : Int) := by omega
       have hj1 : (j : Int) < (x.syms.length : Int) := by omega
       generalize x.syms.getD j noSy = t at *
       have hbx := (Below.refl wr.heap.size wr).alloc (Nat.le_refl _) (.cells (symA t) 105)
       have HBX5 := hD (HBJ.out.trans (hbx.mono HBJ.out.size))
       have HBW5 := hD (HBW.out.trans (hbx.mono HBW.out.size))
       obtain ⟨x0, x1, x2, x3, x4, x5, x6, x7, x8⟩ := (Sx.new wr t).cells
       obtain ⟨y0, y1, y2, y3, y4, y5, y6, y7, y8⟩ := (HS5.out.below hbx).cells
       clear hbx
       go_upto_region 15 with (fail)
       clear d0 d1 d2 d3 d4 d5 d6 d7 d8 f5
       change Code.wp _ _ _ _ (wr.alloc (.cells (symA t) 105))
       generalize wr.alloc (.cells (symA t) 105) = w6 at *
       have HCB := hD (show clashB s t = (t.dfd && s.dfd && decide (t.name = s.name) && (decide (t.ver = s.ver) || (!t.old && !s.old))) from rfl)
       have hcase : (clashB s t = true ∧ s.dfd = true ∧ t.dfd = true ∧ s.name = t.name ∧ s.ver = t.ver) ∨ (clashB s t = true ∧ s.dfd = true ∧ t.dfd = true ∧ s.name = t.name ∧ ¬ s.ver = t.ver ∧ s.old = false ∧ t.old = false) ∨
         (clashB s t = false ∧ s.dfd = false) ∨ (clashB s t = false ∧ s.dfd = true ∧ t.dfd = false) ∨ (clashB s t = false ∧ s.dfd = true ∧ t.dfd = true ∧ ¬ s.name = t.name) ∨
         (clashB s t = false ∧ s.dfd = true ∧ t.dfd = true ∧ s.name = t.name ∧ ¬ s.ver = t.ver ∧ s.old = true) ∨ (clashB s t = false ∧ s.dfd = true ∧ t.dfd = true ∧ s.name = t.name ∧ ¬ s.ver = t.ver ∧ s.old = false ∧ t.old = true) := by
        rw [HCB.out]
        cases s.dfd <;> cases t.dfd <;> by_cases hn : s.name = t.name <;> by_cases hv : s.ver = t.ver <;> cases s.old <;> cases t.old <;> simp [hn, hv, eq_comm]
       clear HCB
       rcases hcase with ⟨hc, h1, h2, h3, h4⟩ | ⟨hc, h1, h2, h3, h4, h5, h6⟩ | ⟨hc, h1⟩ | ⟨hc, h1, h2⟩ | ⟨hc, h1, h2, h3⟩ | ⟨hc, h1, h2, h3, h4, h5⟩ | ⟨hc, h1, h2, h3, h4, h5, h6⟩
       ·
        have HV := hD (HNO.out (by rw [HA.out, HJY.out hc, Bool.not_true, Bool.and_false]))
        rw [h1] at y6
        rw [h2] at x6
        rw [h3] at y0
        rw [h4] at y1
        clear hc h1 h2 h3 h4 HA HNO HYE HJY HJT
        go_wp2_with fail
        go_ret
        exact ⟨by rw [HV.out]; rfl, HBW5.out⟩
       ·
        have HV := hD (HNO.out (by rw [HA.out, HJY.out hc, Bool.not_true, Bool.and_false]))
        rw [h1] at y6
        rw [h2] at x6
        rw [h3] at y0
        rw [h5] at y2
        rw [h6] at x2
        clear hc h1 h2 h3 h5 h6 HA HNO HYE HJY HJT
        go_wp2_with fail
        go_ret
        exact ⟨by rw [HV.out]; rfl, HBW5.out⟩
       all_goals
        have HV := hD (HJT.out.trans hc)
        first | (rw [h1] at y6; clear h1) | skip
        first | (rw [h2] at x6; clear h2) | skip
        first | (rw [h5] at y2; clear h5) | skip
        first | (rw [h6] at x2; clear h6) | skip
        first | (rw [h3] at y0; clear h3) | skip
        clear hc HA HNO HYE HJY HJT
        go_wp2_with fail
        all_goals
         first
          | exact absurd (by assumption) h4
          | exact absurd (beq_iff_eq.1 (by assumption)) h4
          | skip
        go_roundw
        case rel => exact ⟨j + 1, by omega, by go_num, HBX5.out, HV.out⟩
        case measure => simp [intOf]; omega
      ·
       obtain rfl : j = k := by omega
       have HV := hD (HYE.out (by rw [HA.out, HZB.out, HJ.out]; rfl))
       have HBF := hD (HB41.out.trans (HBJ.out.mono HB41.out.size))
       clear HA HNO HYE HJ
       go_wp2_with fail
       go_roundw
       case rel => exact ⟨j + 1, by omega, by go_num, HBF.out, HV.out⟩
       case measure => simp [intOf]; omega
    ·
     rw [h1] at x6
     rw [h2] at x3
     go_upto_region 11 with (fail)
     obtain ⟨w4, hw4⟩ : ∃ w4, w4 = w3 := ⟨_, rfl⟩
     subst hw4
     have HB4 := hD HB3.out
     have HB41 := hD HB31.out
     have HX4 := hD HX3.out
     have HS4 := hD HS3.out
     clear x0 x1 x2 x3 x4 x5 x6 x7 x8 c0 c1 c2 c3 c4 f5 c6 c7 c8 c9 c10 c11 c12 c13 c14 h1 h2 h3 h4 e1 hti hsi HTT
     have HZB := hD (show symB x s = true from hsym)
     go_wp2_with fail
     go_loopw [5] (fun t wr2 => ∃ j : Nat, j ≤ k ∧ t = .int .i64 j ∧ Below w4.heap.size w4 wr2 ∧ (List.range j).any (fun j => clashB s (x.syms.getD j noSy)) = false) (fun t _ => k - (intOf t).toNat)
     case atStart => exact ⟨0, Nat.zero_le _, rfl, Below.refl _ _, rfl⟩
     case round =>
      obtain ⟨j, hj, rfl, hbj, hje⟩ := hrel
      have HJ := hD hje
      have HBJ := hD hbj
      have HBW := hD (HB4.out.trans (hbj.mono HB4.out.size))
      have HS5 := hD (HS4.out.below hbj)
      obtain ⟨-, -, -, -, -, f5, -⟩ := (HX4.out.below hbj).cells
      simp only at f5
      clear hje hbj
      by_cases hjk : j < k
      ·
       have HL := hD (H.out _ HBW.out)
       have hg := HL.out.els.get j (by omega)
       have d0 := hg 0 _ rfl
       have d1 := hg 1 _ rfl
       have d2 := hg 2 _ rfl
       have d3 := hg 3 _ rfl
       have d4 := hg 4 _ rfl
       have d5 := hg 5 _ rfl
       have d6 := hg 6 _ rfl
       have d7 := hg 7 _ rfl
       have d8 := hg 8 _ rfl
       simp only [Nat.add_zero] at d0
       clear hg HL
       have HJY := hD (fun h => range_yes (p := fun j => clashB s (x.syms.getD j noSy)) hjk h)
       have HJT := hD (range_take (p := fun j => clashB s (x.syms.getD j noSy)) HJ.out)
       try simp only at HJY HJT
       have hj0 : (0 : Int) ≤ (j : Int) := by omega
       have hj1 : (j : Int) < (x.syms.length : Int) := by omega
       generalize x.syms.getD j noSy = t at *
       have hbx := (Below.refl wr.heap.size wr).alloc (Nat.le_refl _) (.cells (symA t) 105)
       have HBX5 := hD (HBJ.out.trans (hbx.mono HBJ.out.size))
       have HBW5 := hD (HBW.out.trans (hbx.mono HBW.out.size))
       obtain ⟨x0, x1, x2, x3, x4, x5, x6, x7, x8⟩ := (Sx.new wr t).cells
       obtain ⟨y0, y1, y2, y3, y4, y5, y6, y7, y8⟩ := (HS5.out.below hbx).cells
       clear hbx
       go_upto_region 15 with (fail)
       clear d0 d1 d2 d3 d4 d5 d6 d7 d8 f5
       change Code.wp _ _ _ _ (wr.alloc (.cells (symA t) 105))
       generalize wr.alloc (.cells (symA t) 105) = w6 at *
       have HCB := hD (show clashB s t = (t.dfd && s.dfd && decide (t.name = s.name) && (decide (t.ver = s.ver) || (!t.old && !s.old))) from rfl)
       have hcase : (clashB s t = true ∧ s.dfd = true ∧ t.dfd = true ∧ s.name = t.name ∧ s.ver = t.ver) ∨ (clashB s t = true ∧ s.dfd = true ∧ t.dfd = true ∧ s.name = t.name ∧ ¬ s.ver = t.ver ∧ s.old = false ∧ t.old = false) ∨
         (clashB s t = false ∧ s.dfd = false) ∨ (clashB s t = false ∧ s.dfd = true ∧ t.dfd = false) ∨ (clashB s t = false ∧ s.dfd = true ∧ t.dfd = true ∧ ¬ s.name = t.name) ∨
         (clashB s t = false ∧ s.dfd = true ∧ t.dfd = true ∧ s.name = t.name ∧ ¬ s.ver = t.ver ∧ s.old = true) ∨ (clashB s t = false ∧ s.dfd = true ∧ t.dfd = true ∧ s.name = t.name ∧ ¬ s.ver = t.ver ∧ s.old = false ∧ t.old = true) := by
        rw [HCB.out]
        cases s.dfd <;> cases t.dfd <;> by_cases hn : s.name = t.name <;> by_cases hv : s.ver = t.ver <;> cases s.old <;> cases t.old <;> simp [hn, hv, eq_comm]
       clear HCB
       rcases hcase with ⟨hc, h1, h2, h3, h4⟩ | ⟨hc, h1, h2, h3, h4, h5, h6⟩ | ⟨hc, h1⟩ | ⟨hc, h1, h2⟩ | ⟨hc, h1, h2, h3⟩ | ⟨hc, h1, h2, h3, h4, h5⟩ | ⟨hc, h1, h2, h3, h4, h5, h6⟩
       ·
        have HV := hD (HNO.out (by rw [HA.out, HJY.out hc, Bool.not_true, Bool.and_false]))
        rw [h1] at y6
        rw [h2] at x6
        rw [h3] at y0
        rw [h4] at y1
        clear hc h1 h2 h3 h4 HA HNO HYE HJY HJT
        go_wp2_with fail
        go_ret
        exact ⟨by rw [HV.out]; rfl, HBW5.out⟩
       ·
        have HV := hD (HNO.out (by rw [HA.out, HJY.out hc, Bool.not_true, Bool.and_false]))
        rw [h1] at y6
        rw [h2] at x6
        rw [h3] at y0
        rw [h5] at y2
        rw [h6] at x2
        clear hc h1 h2 h3 h5 h6 HA HNO HYE HJY HJT
        go_wp2_with fail
        go_ret
        exact ⟨by rw [HV.out]; rfl, HBW5.out⟩
       all_goals
        have HV := hD (HJT.out.trans hc)
        first | (rw [h1] at y6; clear h1) | skip
        first | (rw [h2] at x6; clear h2) | skip
        first | (rw [h5] at y2; clear h5) | skip
        first | (rw [h6] at x2; clear h6) | skip
        first | (rw [h3] at y0; clear h3) | skip
        clear hc HA HNO HYE HJY HJT
        go_wp2_with fail
        all_goals
         first
          | exact absurd (by assumption) h4
          | exact absurd (beq_iff_eq.1 (by assumption)) h4
          | skip
        go_roundw
        case rel => exact ⟨j + 1, by omega, by go_num, HBX5.out, HV.out⟩
        case measure => simp [intOf]; omega
      ·
       obtain rfl : j = k := by omega
       have HV := hD (HYE.out (by rw [HA.out, HZB.out, HJ.out]; rfl))
       have HBF := hD (HB41.out.trans (HBJ.out.mono HB41.out.size))
       clear HA HNO HYE HJ
       go_wp2_with fail
       go_roundw
       case rel => exact ⟨j + 1, by omega, by go_num, HBF.out, HV.out⟩
       case measure => simp [intOf]; omega
    ·
     rw [h1] at x6
     rw [h3] at HTT
     go_upto_region 11 with (go_at_call 145; (with_reducible refine (HTT.out).mono ?_); rintro e w4 ⟨rfl, hb4⟩)
     have HB4 := hD (HB3.out.trans (hb4.mono HB3.out.size))
     have HB41 := hD (HB31.out.trans (hb4.mono HB31.out.size))
     have HX4 := hD (HX3.out.below hb4)
     have HS4 := hD (HS3.out.below hb4)
     clear x0 x1 x2 x3 x4 x5 x6 x7 x8 c0 c1 c2 c3 c4 f5 c6 c7 c8 c9 c10 c11 c12 c13 c14 h1 h2 h3 e1 hti hsi HTT hb4
     have HZB := hD (show symB x s = true from hsym)
     go_wp2_with fail
     go_loopw [5] (fun t wr2 => ∃ j : Nat, j ≤ k ∧ t = .int .i64 j ∧ Below w4.heap.size w4 wr2 ∧ (List.range j).any (fun j => clashB s (x.syms.getD j noSy)) = false) (fun t _ => k - (intOf t).toNat)
     case atStart => exact ⟨0, Nat.zero_le _, rfl, Below.refl _ _, rfl⟩
     case round =>
      obtain ⟨j, hj, rfl, hbj, hje⟩ := hrel
      have HJ := hD hje
      have HBJ := hD hbj
      have HBW := hD (HB4.out.trans (hbj.mono HB4.out.size))
      have HS5 := hD (HS4.out.below hbj)
      obtain ⟨-, -, -, -, -, f5, -⟩ := (HX4.out.below hbj).cells
      simp only at f5
      clear hje hbj
      by_cases hjk : j < k
      ·
       have HL := hD (H.out _ HBW.out)
       have hg := HL.out.els.get j (by omega)
       have d0 := hg 0 _ rfl
       have d1 := hg 1 _ rfl
       have d2 := hg 2 _ rfl
       have d3 := hg 3 _ rfl
       have d4 := hg 4 _ rfl
       have d5 := hg 5 _ rfl
       have d6 := hg 6 _ rfl
       have d7 := hg 7 _ rfl
       have d8 := hg 8 _ rfl
       simp only [Nat.add_zero] at d0
       clear hg HL
       have HJY := hD (fun h => range_yes (p := fun j => clashB s (x.syms.getD j noSy)) hjk h)
       have HJT := hD (range_take (p := fun j => clashB s (x.syms.getD j noSy)) HJ.out)
       try simp only at HJY HJT
       have hj0 : (0 : Int) ≤ (j : Int) := by omega
       have hj1 : (j : Int) < (x.syms.length : Int) := by omega
       generalize x.syms.getD j noSy = t at *
       have hbx := (Below.refl wr.heap.size wr).alloc (Nat.le_refl _) (.cells (symA t) 105)
       have HBX5 := hD (HBJ.out.trans (hbx.mono HBJ.out.size))
       have HBW5 := hD (HBW.out.trans (hbx.mono HBW.out.size))
       obtain ⟨x0, x1, x2, x3, x4, x5, x6, x7, x8⟩ := (Sx.new wr t).cells
       obtain ⟨y0, y1, y2, y3, y4, y5, y6, y7, y8⟩ := (HS5.out.below hbx).cells
       clear hbx
       go_upto_region 15 with (fail)
       clear d0 d1 d2 d3 d4 d5 d6 d7 d8 f5
       change Code.wp _ _ _ _ (wr.alloc (.cells (symA t) 105))
       generalize wr.alloc (.cells (symA t) 105) = w6 at *
       have HCB := hD (show clashB s t = (t.dfd && s.dfd && decide (t.name = s.name) && (decide (t.ver = s.ver) || (!t.old && !s.old))) from rfl)
       have hcase : (clashB s t = true ∧ s.dfd = true ∧ t.dfd = true ∧ s.name = t.name ∧ s.ver = t.ver) ∨ (clashB s t = true ∧ s.dfd = true ∧ t.dfd = true ∧ s.name = t.name ∧ ¬ s.ver = t.ver ∧ s.old = false ∧ t.old = false) ∨
         (clashB s t = false ∧ s.dfd = false) ∨ (clashB s t = false ∧ s.dfd = true ∧ t.dfd = false) ∨ (clashB s t = false ∧ s.dfd = true ∧ t.dfd = true ∧ ¬ s.name = t.name) ∨
         (clashB s t = false ∧ s.dfd = true ∧ t.dfd = true ∧ s.name = t.name ∧ ¬ s.ver = t.ver ∧ s.old = true) ∨ (clashB s t = false ∧ s.dfd = true ∧ t.dfd = true ∧ s.name = t.name ∧ ¬ s.ver = t.ver ∧ s.old = false ∧ t.old = true) := by
        rw [HCB.out]
        cases s.dfd <;> cases t.dfd <;> by_cases hn : s.name = t.name <;> by_cases hv : s.ver = t.ver <;> cases s.old <;> cases t.old <;> simp [hn, hv, eq_comm]
       clear HCB
       rcases hcase with ⟨hc, h1, h2, h3, h4⟩ | ⟨hc, h1, h2, h3, h4, h5, h6⟩ | ⟨hc, h1⟩ | ⟨hc, h1, h2⟩ | ⟨hc, h1, h2, h3⟩ | ⟨hc, h1, h2, h3, h4, h5⟩ | ⟨hc, h1, h2, h3, h4, h5, h6⟩
       ·
        have HV := hD (HNO.out (by rw [HA.out, HJY.out hc, Bool.not_true, Bool.and_false]))
        rw [h1] at y6
        rw [h2] at x6
        rw [h3] at y0
        rw [h4] at y1
        clear hc h1 h2 h3 h4 HA HNO HYE HJY HJT
        go_wp2_with fail
        go_ret
        exact ⟨by rw [HV.out]; rfl, HBW5.out⟩
       ·
        have HV := hD (HNO.out (by rw [HA.out, HJY.out hc, Bool.not_true, Bool.and_false]))
        rw [h1] at y6
        rw [h2] at x6
        rw [h3] at y0
        rw [h5] at y2
        rw [h6] at x2
        clear hc h1 h2 h3 h5 h6 HA HNO HYE HJY HJT
        go_wp2_with fail
        go_ret
        exact ⟨by rw [HV.out]; rfl, HBW5.out⟩
       all_goals
        have HV := hD (HJT.out.trans hc)
        first | (rw [h1] at y6; clear h1) | skip
        first | (rw [h2] at x6; clear h2) | skip
        first | (rw [h5] at y2; clear h5) | skip
        first | (rw [h6] at x2; clear h6) | skip
        first | (rw [h3] at y0; clear h3) | skip
        clear hc HA HNO HYE HJY HJT
        go_wp2_with fail
        all_goals
         first
          | exact absurd (by assumption) h4
          | exact absurd (beq_iff_eq.1 (by assumption)) h4
          | skip
        go_roundw
        case rel => exact ⟨j + 1, by omega, by go_num, HBX5.out, HV.out⟩
        case measure => simp [intOf]; omega
      ·
       obtain rfl : j = k := by omega
       have HV := hD (HYE.out (by rw [HA.out, HZB.out, HJ.out]; rfl))
       have HBF := hD (HB41.out.trans (HBJ.out.mono HB41.out.size))
       clear HA HNO HYE HJ
       go_wp2_with fail
       go_roundw
       case rel => exact ⟨j + 1, by omega, by go_num, HBF.out, HV.out⟩
       case measure => simp [intOf]; omega
   ·
    obtain rfl : k = x.syms.length := by omega
    go_wp2_with fail
    go_ret
    exact ⟨by rw [HF2.out, HE.out]; rfl, HB.out⟩
 ·
  have hl' : (512 : Int) < (x.syms.length : Int) := by omega
  have HV := hD (show bb = false by rw [HF.out, decide_eq_false hl]; rfl)
  go_wp2
  go_ret
  exact ⟨by rw [HV.out]; rfl, HB1.out⟩
end Go.Proofs.YtfljignkjmabpaaGreat
