/- A part of the proof. -/
import Derived.Test.YtfljignkjmabpaaGreatZN
set_option linter.unusedSimpArgs false
set_option linter.unusedVariables false
namespace Go.Proofs.YtfljignkjmabpaaGreat
set_option maxRecDepth 100000
open Go.RowKit
theorem flag_one {f : Int} (h0 : 0 ≤ f) (h1 : f ≤ 15) : bits .and .i64 f 1 = f % 2 := by
 obtain ⟨n, rfl⟩ : ∃ n : Nat, f = n := ⟨f.toNat, by omega⟩
 have hn : n ≤ 15 := by omega
 have : ∀ m : Fin 16, bits .and .i64 (m.val : Int) 1 = (m.val : Int) % 2 := by decide +kernel
 exact this ⟨n, by omega⟩
theorem kind_wide' {x : Im} {r : Rl} (hf : Fit x) (h : kindRB x r = true) : 0 ≤ wideI x r ∧ wideI x r ≤ 9223372036854775807 := by
 unfold wideI
 by_cases hk : r.kind = 2
 ·
  rw [if_pos hk]
  obtain ⟨j, hj, hl⟩ := kind_idx h hk
  unfold kindRB at h
  rw [if_neg (by omega)] at h
  by_cases hi : idxB x.syms.length r.sym = false
  ·
   rw [if_pos hi] at h; cases h
  rw [if_neg hi, if_neg (by omega), if_neg (by omega), if_neg (by omega), if_neg (by omega), if_pos hk] at h
  unfold copiedB at h
  simp only [Bool.and_eq_true, decide_eq_true_eq] at h
  have hq := hf.sym (x.syms.getD r.sym.toNat noSy) (getD_mem (by rw [hj]; exact hl))
  have := hq.2.2.2.2.2
  unfold I64 at this
  omega
 ·
  rw [if_neg hk]
  omega
def okK (x : Im) (r : Rl) (s : Sym) : Bool :=
 if r.kind = 0 ∨ r.kind = 6 then !decide (s.kind = 3) else if r.kind = 7 then decide (r.add = 0) else if r.kind = 3 then decide (s.kind = 3) && decide (r.add = 0)
 else if r.kind = 4 ∨ r.kind = 5 then decide (s.kind = 3) else if r.kind = 2 then copiedB s r.at_ && decide (r.add = 0) && decide (x.flags % 2 = 1) else false
def pmK (r : Rl) : Int := if r.kind = 2 then 2 else 0
theorem kind_okK {x : Im} {r : Rl} (h1 : ¬ r.kind = 1) (hi : idxB x.syms.length r.sym = true) (hf0 : 0 ≤ x.flags) (hf1 : x.flags ≤ 15) : kindRB x r = okK x r (x.syms.getD r.sym.toNat noSy) := by
 unfold kindRB okK
 rw [if_neg h1, if_neg (by rw [hi]; simp), flag_one hf0 hf1]
 generalize x.syms.getD r.sym.toNat noSy = s
 split
 ·
  rfl
 split
 ·
  rfl
 split
 ·
  rfl
 split
 ·
  rfl
 split
 ·
  generalize copiedB s r.at_ = a
  rw [show (!decide (x.flags % 2 = 0)) = decide (x.flags % 2 = 1) by rw [Bool.eq_iff_iff]; simp; omega]
  generalize decide (x.flags % 2 = 1) = b
  generalize decide (r.add = 0) = c
  cases a <;> cases b <;> cases c <;> rfl
 ·
  rfl
set_option maxHeartbeats 8000000 in
theorem dfits_any (p : Pl) (x : Im) (r : Rl) (w : World) (h : ImIn w (fun k => k < w.heap.size) p x) (hf : Fit x) (hs : ∀ s ∈ x.segs, SegOk s) (hf0 : 0 ≤ x.flags) (hf1 : x.flags ≤ 15) :
  Calls Tryz.prog 149 #[imV p x, .agg (rlA r)] w fun e w' => e = .returned (.bool (relB x r)) ∧ Below w.heap.size w w' := by
 obtain ⟨sg, nd, rp, ⟨sya, syc⟩, bk, fw, rl, sl, ini, fin, tl⟩ := p
 obtain ⟨W, hW, hB, hX, hR⟩ := im_rl w ⟨sg, nd, rp, ⟨sya, syc⟩, bk, fw, rl, sl, ini, fin, tl⟩ x r
 have HRS := hD (show RS w ⟨sg, nd, rp, ⟨sya, syc⟩, bk, fw, rl, sl, ini, fin, tl⟩ x r W from ⟨hB, hX, hR⟩)
 have HB := hD hB
 have HS := hD (h.lt hB).syms
 have HWD0 := hD (fun (hk : kindRB x r = true) (X : World) (hX : Below w.heap.size w X) => wide_any _ x r X (h.lt hX) hf.syms (kind_idx hk))
 have HSD0 := hD (fun (hk : kindRB x r = true) (X : World) (hX : Below w.heap.size w X) => dstands_any _ x r.at_ (wideI x r) (pmK r) X (h.lt hX) hf.segs hs (kind_wide' hf hk).1 (kind_wide' hf hk).2)
 have HS1 := hD (fun (X : World) (hX : Below w.heap.size w X) => dstands_any _ x r.at_ 8 0 X (h.lt hX) hf.segs hs (by omega) (by omega))
 have hls := hf.syms
 unfold Long at hls
 generalize hbb : relB x r = bb
 have HF := hD (hbb.symm.trans (show relB x r = (withB r.add (-4294967296) 4294967296 && kindRB x r && standB x.segs r.at_ (wideI x r) (pmK r)) from rfl))
 obtain ⟨c0, c1, c2, c3, c4, c5, c6, c7, c8, c9, c10, c11, c12, c13, c14⟩ := hX.cells
 obtain ⟨d0, d1, d2, d3⟩ := hR.rl
 simp only at c2 c3 c4 c5 c6 c7 c9 c10 c11 c12 c13
 have HKK := hD (fun h1 hi => kind_okK (x := x) (r := r) h1 hi hf0 hf1)
 have hff0 := hf0
 clear h hf hs hB hX hR hbb
 go_enter Tryz.func149, Tryz.ntmps149
 go_upto_region 1 with (fail)
 rw [← hW]
 clear hW
 by_cases h1 : r.kind = 1
 ·
  have HV := hD (show bb = (decide (r.sym = -1) && (decide (0 ≤ r.add) && (decide (r.add ≤ 65536) && standB x.segs r.at_ 8 0))) by
   rw [HF.out]
   unfold kindRB wideI pmK withB
   rw [if_pos h1, if_neg (by omega), if_neg (by omega)]
   generalize standB x.segs r.at_ 8 0 = b
   rw [Bool.eq_iff_iff]
   simp only [Bool.and_eq_true, decide_eq_true_eq]
   constructor
   ·
    rintro ⟨⟨_, a, b, c⟩, d⟩
    exact ⟨a, b, c, d⟩
   ·
    rintro ⟨a, b, c, d⟩
    exact ⟨⟨⟨by omega, by omega⟩, a, b, c⟩, d⟩)
  clear HF HKK HWD0 HSD0
  generalize standB x.segs r.at_ 8 0 = b1 at *
  go_wp2_with (go_at_call 145; (with_reducible refine (HS1.out _ HB.out).mono ?_); rintro e w2 ⟨rfl, hb2⟩; have HB2 := hD (HB.out.trans (hb2.mono HB.out.size)); clear hb2)
  all_goals
   go_ret
   rw [HV.out]
   first
    | (refine ⟨?_, HB2.out⟩; simp [*] <;> (intros; omega))
    | (refine ⟨?_, HB.out⟩; simp [*] <;> (intros; omega))
 cases hix : idxB x.syms.length r.sym
 ·
  have HV := hD (show bb = false by
   rw [HF.out, show kindRB x r = false by unfold kindRB; rw [if_neg h1, if_pos hix]]
   simp)
  have hq : r.sym < 0 ∨ (0 ≤ r.sym ∧ (x.syms.length : Int) ≤ r.sym) := by
   unfold idxB withB at hix
   simp only [Bool.and_eq_false_iff, decide_eq_false_iff_not] at hix
   omega
  clear hix HF HKK HWD0 HSD0 HS1
  rcases hq with hq | ⟨hq, hq2⟩
  all_goals
   go_wp2_with fail
   go_ret
   exact ⟨by rw [HV.out]; rfl, HB.out⟩
 obtain ⟨j, hj, hlt⟩ := idx_get hix
 have hr0 : 0 ≤ r.sym := by omega
 have hr1 : r.sym < (x.syms.length : Int) := by omega
 by_cases ha1 : r.add < -4294967296
 ·
  have HV := hD (show bb = false by rw [HF.out]; unfold withB; rw [decide_eq_false (show ¬ (-4294967296 : Int) ≤ r.add by omega)]; rfl)
  clear hix HF HKK HWD0 HSD0 HS1 hj
  go_wp2_with fail
  go_ret
  exact ⟨by rw [HV.out]; rfl, HB.out⟩
 by_cases ha2 : 4294967296 < r.add
 ·
  have HV := hD (show bb = false by rw [HF.out]; unfold withB; rw [decide_eq_false (show ¬ r.add ≤ (4294967296 : Int) by omega), Bool.and_false]; rfl)
  clear hix HF HKK HWD0 HSD0 HS1 hj
  go_wp2_with fail
  go_ret
  exact ⟨by rw [HV.out]; rfl, HB.out⟩
 have HF2 := hD (show bb = (kindRB x r && standB x.segs r.at_ (wideI x r) (pmK r)) by
  rw [HF.out]; unfold withB; rw [decide_eq_true (show (-4294967296 : Int) ≤ r.add by omega), decide_eq_true (show r.add ≤ (4294967296 : Int) by omega)]; rfl)
 have HK := hD (HKK.out h1 hix)
 have HPM := hD (show pmK r = if r.kind = 2 then 2 else 0 from rfl)
 clear HF HKK HS1 hix
 generalize kindRB x r = ok at *
 generalize standB x.segs r.at_ (wideI x r) (pmK r) = b3 at *
 generalize wideI x r = wd at *
 generalize hpm : pmK r = pm at *
 rw [show r.sym.toNat = j by omega] at HK
 obtain ⟨ad, rfl⟩ : ∃ ad, sya = some ad := by
  cases sya with
  | none => have := (HS.out.nil rfl).1; omega
  | some ad => exact ⟨ad, rfl⟩
 obtain ⟨b, o, rfl⟩ := HS.out.plain (by omega)
 have hg := HS.out.els.get j hlt
 have e0 := hg 0 _ rfl
 have e1 := hg 1 _ rfl
 have e2 := hg 2 _ rfl
 have e3 := hg 3 _ rfl
 have e4 := hg 4 _ rfl
 have e5 := hg 5 _ rfl
 have e6 := hg 6 _ rfl
 have e7 := hg 7 _ rfl
 have e8 := hg 8 _ rfl
 simp only [Nat.add_zero] at e0
 clear hg HS
 generalize x.syms.getD j noSy = s at *
 have hrj : r.sym.toNat = j := by omega
 go_upto_region 6 with (fail)
 have hbx := (Below.refl W.heap.size W).alloc (Nat.le_refl _) (.cells (symA s) 105)
 have HRX := hD (HRS.out.on hbx)
 have hsx := Sx.new W s
 have hrl := (HRS.out.on hbx).2.2.rl
 have hfl := cell_below hbx c1
 have HSZ := hD (hbx.size)
 change Code.wp _ _ _ _ (W.alloc (.cells (symA s) 105))
 clear hbx e0 e1 e2 e3 e4 e5 e6 e7 e8 c0 c1 c2 c3 c4 c5 c6 c7 c8 c9 c10 c11 c12 c13 c14 d0 d1 d2 d3 HRS HB
 generalize W.alloc (.cells (symA s) 105) = w3 at *
 obtain ⟨d0, d1, d2, d3⟩ := hrl
 obtain ⟨x0, x1, x2, x3, x4, x5, x6, x7, x8⟩ := hsx.cells
 have HRD := hD (HRX.out.on (drew_below w3))
 clear hsx
 go_upto_region 9 with (fail)
 rename_i K1 ha1 K2 ha2
 have key : ∀ (u6 u9 u10 u11 u12 u13 u14 u15 u16 u17 u18 u19 u20 u21 u22 u23 u24 u25 u26 u27 u28 u29 u30 u31 u32 u33 u34 u35 u36 u37 u38 u39 u40 u41 u42 u43 u44 u45 u46 u47 u48 u49 u50 u51 u52 u53 u54 u55 u56 u57 u58 u59 u60 u61 u62 u63 u64 u65 u66 u67 u68 u69 u70 u71 u72 u73 u74 u75 u76 u77 u78 u79 u80 u81 u82 u83 u84 u85 u86 u87 u88 u89 u90 u91 u92 u93 u94 u95 u96 u97 u98 u99 u100 u101 u102 u103 u104 u105 u106 u107 u108 u109 u110 u111 u112 u113 u114 u115 u116 u117 u118 u119 u120 u121 u122 u123 u124 u125 u126 u127 : Value), K1 { tmps := #[imV ⟨sg, nd, rp, ⟨some ⟨b, o, none⟩, syc⟩, bk, fw, rl, sl, ini, fin, tl⟩ x, .agg (rlA r), .pointer (some ⟨w.heap.size, 0, none⟩), .pointer (some ⟨w.heap.size + 1, 0, none⟩), .bool false, .pointer (some ⟨W.heap.size, 0, none⟩), u6, .int .i64 pm, .bool ok, u9, u10, u11, u12, u13, u14, u15, u16, u17, u18, u19, u20, u21, u22, u23, u24, u25, u26, u27, u28, u29, u30, u31, u32, u33, u34, u35, u36, u37, u38, u39, u40, u41, u42, u43, u44, u45, u46, u47, u48, u49, u50, u51, u52, u53, u54, u55, u56, u57, u58, u59, u60, u61, u62, u63, u64, u65, u66, u67, u68, u69, u70, u71, u72, u73, u74, u75, u76, u77, u78, u79, u80, u81, u82, u83, u84, u85, u86, u87, u88, u89, u90, u91, u92, u93, u94, u95, u96, u97, u98, u99, u100, u101, u102, u103, u104, u105, u106, u107, u108, u109, u110, u111, u112, u113, u114, u115, u116, u117, u118, u119, u120, u121, u122, u123, u124, u125, u126, u127], defers := [] } w3 := by
  intro u6 u9 u10 u11 u12 u13 u14 u15 u16 u17 u18 u19 u20 u21 u22 u23 u24 u25 u26 u27 u28 u29 u30 u31 u32 u33 u34 u35 u36 u37 u38 u39 u40 u41 u42 u43 u44 u45 u46 u47 u48 u49 u50 u51 u52 u53 u54 u55 u56 u57 u58 u59 u60 u61 u62 u63 u64 u65 u66 u67 u68 u69 u70 u71 u72 u73 u74 u75 u76 u77 u78 u79 u80 u81 u82 u83 u84 u85 u86 u87 u88 u89 u90 u91 u92 u93 u94 u95 u96 u97 u98 u99 u100 u101 u102 u103 u104 u105 u106 u107 u108 u109 u110 u111 u112 u113 u114 u115 u116 u117 u118 u119 u120 u121 u122 u123 u124 u125 u126 u127
  refine ha1 _ _ ?_
  clear ha2 K2
  go_upto_region 23 with (fail)
  cases ok
  ·
   have HV := hD (show bb = false by rw [HF2.out]; rfl)
   clear HF2 HWD0 HSD0 HK HPM ha1 K1
   refine wp_region_held_drew (S := RS w ⟨sg, nd, rp, ⟨some ⟨b, o, none⟩, syc⟩, bk, fw, rl, sl, ini, fin, tl⟩ x r) (by kernel_rfl) HRD.out (fun hHeld0 => ?_)
   refine tkI 0 117 (.bool false) ?_
   simp only [Act.put, zI, zJ, zK]
   refine tkI 1 118 (.bool false) ?_
   simp only [Act.put, zI, zJ, zK]
   refine tnI 2 119 ?_
   simp only [Act.put, zI, zJ, zK]
   refine tnI 3 120 ?_
   simp only [Act.put, zI, zJ, zK]
   refine tnI 4 121 ?_
   simp only [Act.put, zI, zJ, zK]
   refine tnI 5 122 ?_
   simp only [Act.put, zI, zJ, zK]
   refine tnI 6 123 ?_
   simp only [Act.put, zI, zJ, zK]
   refine tnI 7 124 ?_
   simp only [Act.put, zI, zJ, zK]
   refine tnI 8 125 ?_
   simp only [Act.put, zI, zJ, zK]
   refine tnI 9 126 ?_
   simp only [Act.put, zI, zJ, zK]
   refine tkI 10 127 (.bool false) ?_
   simp only [Act.put, zI, zJ, zK]
   refine tkI 11 4 (.bool false) ?_
   simp only [Act.put, zI, zJ, zK]
   refine wpAnyH_done (by kernel_rfl) ?_ _
   go_wp2_with fail
   go_ret
   exact ⟨by rw [HV.out]; rfl, hHeld0.1⟩
  ·
   have HV := hD (show bb = b3 by rw [HF2.out]; rfl)
   have HWD := hD (HWD0.out rfl)
   have HSD := hD (HSD0.out rfl)
   clear HF2 HWD0 HSD0 HK HPM ha1 K1
   refine wp_region_held_drew (S := RS w ⟨sg, nd, rp, ⟨some ⟨b, o, none⟩, syc⟩, bk, fw, rl, sl, ini, fin, tl⟩ x r) (by kernel_rfl) HRD.out (fun hHeld0 => ?_)
   refine tkI 0 117 (.bool true) ?_
   simp only [Act.put, zI, zJ, zK]
   refine tkI 1 118 (.bool true) ?_
   simp only [Act.put, zI, zJ, zK]
   refine tjI 2 119 (imV ⟨sg, nd, rp, ⟨some ⟨b, o, none⟩, syc⟩, bk, fw, rl, sl, ini, fin, tl⟩ x) ?_ ?_
   ·
    intro X hX; obtain ⟨-, hI, hJ⟩ := hX; obtain ⟨c0, c1, c2, c3, c4, c5, c6, c7, c8, c9, c10, c11, c12, c13, c14⟩ := hI.cells; go_simp
   (try simp only [Act.put, zI, zJ, zK])
   refine tkI 3 120 (.pointer (some ⟨w.heap.size + 1, 0, none⟩)) ?_
   simp only [Act.put, zI, zJ, zK]
   refine tjI 4 121 (.int .i64 r.at_) ?_ ?_
   ·
    intro X hX; obtain ⟨-, hI, hJ⟩ := hX; obtain ⟨d0, d1, d2, d3⟩ := hJ.rl; go_simp
   (try simp only [Act.put, zI, zJ, zK])
   refine tjI 5 122 (imV ⟨sg, nd, rp, ⟨some ⟨b, o, none⟩, syc⟩, bk, fw, rl, sl, ini, fin, tl⟩ x) ?_ ?_
   ·
    intro X hX; obtain ⟨-, hI, hJ⟩ := hX; obtain ⟨c0, c1, c2, c3, c4, c5, c6, c7, c8, c9, c10, c11, c12, c13, c14⟩ := hI.cells; go_simp
   (try simp only [Act.put, zI, zJ, zK])
   refine tjI 6 123 (.agg (rlA r)) ?_ ?_
   ·
    intro X hX; obtain ⟨-, hI, hJ⟩ := hX; obtain ⟨d0, d1, d2, d3⟩ := hJ.rl; go_simp
   (try simp only [Act.put, zI, zJ, zK])
   refine tkI 8 125 (.int .i64 pm) ?_
   simp only [Act.put, zI, zJ, zK]
   refine rYI 7 fun K hK => ?_
   go_simp
   refine (HWD.out _ hHeld0.1).mono ?_
   rintro e wq1 ⟨rfl, hq1⟩
   go_simp
   refine hK.out _ _ ((hHeld0).on hq1) (fun hHeld1 => ?_)
   clear hK K
   (try simp only [Act.put, zI, zJ, zK])
   refine rYI 9 fun K hK => ?_
   go_simp
   refine (HSD.out _ hHeld1.1).mono ?_
   rintro e wq2 ⟨rfl, hq2⟩
   go_simp
   refine hK.out _ _ ((hHeld1).on hq2) (fun hHeld2 => ?_)
   clear hK K
   (try simp only [Act.put, zI, zJ, zK])
   refine tkI 10 127 (.bool b3) ?_
   simp only [Act.put, zI, zJ, zK]
   refine tkI 11 4 (.bool b3) ?_
   simp only [Act.put, zI, zJ, zK]
   refine wpAnyH_done (by kernel_rfl) ?_ _
   go_wp2_with fail
   go_ret
   exact ⟨by rw [HV.out]; rfl, hHeld2.1⟩
 clear ha1
 by_cases k0 : r.kind = 0
 ·
  have hp : pm = 0 := by rw [HPM.out]; simp [k0]
  rw [k0] at d1
  have hv : ok = !(s.kind == 3) := by rw [HK.out]; unfold okK; first | (simp [copiedB, k0]; done) | (simp [copiedB, k0]; rfl)
  clear HK HPM hpm HF2 HWD0 HSD0 k0
  subst hv hp
  go_wp2_with fail
  apply key
 by_cases k6 : r.kind = 6
 ·
  have hp : pm = 0 := by rw [HPM.out]; simp [k6]
  rw [k6] at d1
  have hv : ok = !(s.kind == 3) := by rw [HK.out]; unfold okK; first | (simp [copiedB, k6]; done) | (simp [copiedB, k6]; rfl)
  clear HK HPM hpm HF2 HWD0 HSD0 k6
  subst hv hp
  go_wp2_with fail
  apply key
 by_cases k7 : r.kind = 7
 ·
  have hp : pm = 0 := by rw [HPM.out]; simp [k7]
  rw [k7] at d1
  have hv : ok = (r.add == 0) := by rw [HK.out]; unfold okK; first | (simp [copiedB, k7]; done) | (simp [copiedB, k7]; rfl)
  clear HK HPM hpm HF2 HWD0 HSD0 k7
  subst hv hp
  go_wp2_with fail
  apply key
 by_cases k3 : r.kind = 3
 ·
  have hp : pm = 0 := by rw [HPM.out]; simp [k3]
  rw [k3] at d1
  by_cases q3 : s.kind = 3
  ·
   have hv : ok = (r.add == 0) := by rw [HK.out]; unfold okK; first | (simp [copiedB, k3, q3]; done) | (simp [copiedB, k3, q3]; rfl)
   clear HK HPM hpm HF2 HWD0 HSD0 k3
   subst hv hp
   go_wp2_with fail
   apply key
  ·
   have hv : ok = false := by rw [HK.out]; unfold okK; first | (simp [copiedB, k3, q3]; done) | (simp [copiedB, k3, q3]; rfl)
   clear HK HPM hpm HF2 HWD0 HSD0 k3
   subst hv hp
   go_wp2_with fail
   apply key
 by_cases k4 : r.kind = 4
 ·
  have hp : pm = 0 := by rw [HPM.out]; simp [k4]
  rw [k4] at d1
  have hv : ok = (s.kind == 3) := by rw [HK.out]; unfold okK; first | (simp [copiedB, k4]; done) | (simp [copiedB, k4]; rfl)
  clear HK HPM hpm HF2 HWD0 HSD0 k4
  subst hv hp
  go_wp2_with fail
  apply key
 by_cases k5 : r.kind = 5
 ·
  have hp : pm = 0 := by rw [HPM.out]; simp [k5]
  rw [k5] at d1
  have hv : ok = (s.kind == 3) := by rw [HK.out]; unfold okK; first | (simp [copiedB, k5]; done) | (simp [copiedB, k5]; rfl)
  clear HK HPM hpm HF2 HWD0 HSD0 k5
  subst hv hp
  go_wp2_with fail
  apply key
 by_cases k2 : r.kind = 2
 ·
  have hp : pm = 2 := by rw [HPM.out]; simp [k2]
  rw [k2] at d1
  by_cases q1 : s.kind = 2
  ·
   by_cases q2 : s.dfd = true
   ·
    by_cases q3 : 1 ≤ s.size
    ·
     by_cases q4 : s.val = r.at_
     ·
      by_cases q5 : r.add = 0
      ·
       have hv : ok = (x.flags % 2 == 1) := by rw [HK.out]; unfold okK; first | (simp [copiedB, k2, q1, q2, q3, q4, q5]; done) | (simp [copiedB, k2, q1, q2, q3, q4, q5]; rfl)
       clear HK HPM hpm HF2 HWD0 HSD0 k2
       subst hv hp
       go_wp2_with fail
       apply key
      ·
       have hv : ok = false := by rw [HK.out]; unfold okK; first | (simp [copiedB, k2, q1, q2, q3, q4, q5]; done) | (simp [copiedB, k2, q1, q2, q3, q4, q5]; rfl)
       clear HK HPM hpm HF2 HWD0 HSD0 k2
       subst hv hp
       go_wp2_with fail
       apply key
     ·
      have hv : ok = false := by rw [HK.out]; unfold okK; first | (simp [copiedB, k2, q1, q2, q3, q4]; done) | (simp [copiedB, k2, q1, q2, q3, q4]; rfl)
      clear HK HPM hpm HF2 HWD0 HSD0 k2
      subst hv hp
      go_wp2_with fail
      apply key
    ·
     have hv : ok = false := by rw [HK.out]; unfold okK; first | (simp [copiedB, k2, q1, q2, q3]; done) | (simp [copiedB, k2, q1, q2, q3]; rfl)
     clear HK HPM hpm HF2 HWD0 HSD0 k2
     subst hv hp
     go_wp2_with fail
     apply key
   ·
    have hv : ok = false := by rw [HK.out]; unfold okK; first | (simp [copiedB, k2, q1, q2]; done) | (simp [copiedB, k2, q1, q2]; rfl)
    clear HK HPM hpm HF2 HWD0 HSD0 k2
    subst hv hp
    go_wp2_with fail
    apply key
  ·
   have hv : ok = false := by rw [HK.out]; unfold okK; first | (simp [copiedB, k2, q1]; done) | (simp [copiedB, k2, q1]; rfl)
   clear HK HPM hpm HF2 HWD0 HSD0 k2
   subst hv hp
   go_wp2_with fail
   apply key
 have hp : pm = 0 := by rw [HPM.out]; simp [k2]
 have hv : ok = false := by rw [HK.out]; unfold okK; first | (simp [k0, k6, k7, k3, k4, k5, k2]; done) | (simp [k0, k6, k7, k3, k4, k5, k2]; rfl)
 clear HK HPM hpm HF2 HWD0 HSD0
 subst hv hp
 go_wp2_with fail
 apply key
end Go.Proofs.YtfljignkjmabpaaGreat
