/- A part of the proof. -/
import Derived.Test.YtfljignkjmabpaaGreatZSA
set_option linter.unusedSimpArgs false
set_option linter.unusedVariables false
namespace Go.Proofs.YtfljignkjmabpaaGreat
set_option maxRecDepth 100000
open Go.RowKit
def ItIm (r : Im × Bool × St) (w : World) (G g : Nat) (bad : Bool) (en : Ending) (w' : World) : Prop :=
 ∃ (p : Pl) (y : Im), en = .returned (imV p y) ∧ ImIn w' (fun k => w.heap.size ≤ k ∧ k < w'.heap.size) p y ∧ (r.2.2.1 = 0 → y = r.1) ∧ Ri w' G g (bad || r.2.1) r.2.2 ∧ Kr G g w w'
theorem it_im2 {w w' : World} {G g : Nat} {bad : Bool} {r : Im × Bool × St} {en : Ending} {i : Im} {b : Bool} {t : St} (hr : r = (i, b, t)) (p : Pl) (y : Im) (h1 : en = .returned (imV p y)) (h2 : ImIn w' (fun k => w.heap.size ≤ k ∧ k < w'.heap.size) p y) (h3 : t.1 = 0 → y = i) (h4 : Ri w' G g (bad || b) t) (h5 : Kr G g w w') : ItIm r w G g bad en w' := by
 subst hr
 exact ⟨p, y, h1, h2, h3, h4, h5⟩
theorem bads (a b0 b3 b4 b5 b6 b7 b9 b10 b11 b12 b13 : Bool) : (a || (b0 || (false || (false || (b3 || (b4 || (b5 || (b6 || (b7 || (false || (b9 || (b10 || (b11 || (b12 || (b13 || (false || false)))))))))))))))) = (((((((((((a || b0) || b3) || b4) || b5) || b6) || b7) || b9) || b10) || b11) || b12) || b13) := by
 simp only [Bool.false_or, Bool.or_false, Bool.or_assoc]
set_option maxHeartbeats 8000000 in
theorem rimage_any {G g : Nat} {bad : Bool} {s : St} (w : World) (h : Ri w G g bad s) : Calls Tryz.prog 17 #[.pointer (some ⟨G, 0, none⟩)] w (ItIm (rdIm s) w G g bad) := by
 have HS0 := hD (RX.start (ty := 40) #[.string ⟨#[]⟩, .int .i64 0, .slice none 0 0, .slice none 0 0, .slice none 0 0, .slice none 0 0, .slice none 0 0, .slice none 0 0, .int .i64 0, .slice none 0 0, .slice none 0 0, .slice none 0 0, .slice none 0 0, .slice none 0 0, .int .i64 0] h)
 have hbx : Below w.heap.size w (w.alloc (.cells #[.string ⟨#[]⟩, .int .i64 0, .slice none 0 0, .slice none 0 0, .slice none 0 0, .slice none 0 0, .slice none 0 0, .slice none 0 0, .int .i64 0, .slice none 0 0, .slice none 0 0, .slice none 0 0, .slice none 0 0, .slice none 0 0, .int .i64 0] 40)) := (Below.refl _ _).alloc (Nat.le_refl _) _
 have HRS := hD (h.below hbx)
 have HKS := hD (show Kr G g w (w.alloc (.cells #[.string ⟨#[]⟩, .int .i64 0, .slice none 0 0, .slice none 0 0, .slice none 0 0, .slice none 0 0, .slice none 0 0, .slice none 0 0, .int .i64 0, .slice none 0 0, .slice none 0 0, .slice none 0 0, .slice none 0 0, .slice none 0 0, .int .i64 0] 40)) from Kr.of_below hbx)
 have HG := hD (show g < G ∧ G < w.heap.size from ⟨h.lt, h.gt⟩)
 have HT := hD (rmark_any _ (h.below hbx))
 clear h hbx
 go_enter Tryz.func17, Tryz.ntmps17
 go_upto_region 1 with (fail)
 change Code.wp _ _ _ _ (w.alloc (.cells #[.string ⟨#[]⟩, .int .i64 0, .slice none 0 0, .slice none 0 0, .slice none 0 0, .slice none 0 0, .slice none 0 0, .slice none 0 0, .int .i64 0, .slice none 0 0, .slice none 0 0, .slice none 0 0, .slice none 0 0, .slice none 0 0, .int .i64 0] 40))
 generalize w.alloc (.cells #[.string ⟨#[]⟩, .int .i64 0, .slice none 0 0, .slice none 0 0, .slice none 0 0, .slice none 0 0, .slice none 0 0, .slice none 0 0, .int .i64 0, .slice none 0 0, .slice none 0 0, .slice none 0 0, .slice none 0 0, .slice none 0 0, .int .i64 0] 40) = w1 at *
 generalize hgr : w.heap.size = gr at *
 go_upto_region 2 with (go_at_call 37; (with_reducible refine (HT.out).mono ?_); rintro en wm ⟨rfl, h1, h2⟩; have HR0 := hD h1; have HKM := hD h2; have HSM := hD (HS0.out.on h1 h2); clear h1 h2)
 generalize hq0 : rdMark s = q0 at *
 have HQ0 := hD hq0
 clear hq0 HT HS0 HRS
 refine wp_region_held_drew (S := RX G g gr 15 40) (by kernel_rfl) HSM.out.drew (fun hHeld0 => ?_)
 refine tkI 0 5 (.pointer (some ⟨G, 0, none⟩)) ?_
 simp only [Act.put, zI, zJ, zK]
 refine tkI 1 6 (.pointer (some ⟨G, 0, none⟩)) ?_
 simp only [Act.put, zI, zJ, zK]
 refine tkI 2 7 (.pointer (some ⟨G, 0, none⟩)) ?_
 simp only [Act.put, zI, zJ, zK]
 refine tjI 3 8 (.pointer (some ⟨g, 0, none⟩)) ?_ ?_
 ·
  intro X hX; obtain ⟨⟨b, t, hW⟩, hB⟩ := hX; have hc := hW.c0; go_simp
 (try simp only [Act.put, zI, zJ, zK])
 refine tkI 5 10 (.pointer (some ⟨G, 0, none⟩)) ?_
 simp only [Act.put, zI, zJ, zK]
 refine tkI 6 11 (.pointer (some ⟨G, 0, none⟩)) ?_
 simp only [Act.put, zI, zJ, zK]
 refine tkI 7 12 (.pointer (some ⟨G, 0, none⟩)) ?_
 simp only [Act.put, zI, zJ, zK]
 refine tjI 8 13 (.pointer (some ⟨g, 0, none⟩)) ?_ ?_
 ·
  intro X hX; obtain ⟨⟨b, t, hW⟩, hB⟩ := hX; have hc := hW.c0; go_simp
 (try simp only [Act.put, zI, zJ, zK])
 refine tkI 10 15 (.pointer (some ⟨G, 0, none⟩)) ?_
 simp only [Act.put, zI, zJ, zK]
 refine tkI 11 16 (.pointer (some ⟨G, 0, none⟩)) ?_
 simp only [Act.put, zI, zJ, zK]
 refine tkI 12 17 (.func (.func 41) #[.pointer (some ⟨G, 0, none⟩)] #[]) ?_
 simp only [Act.put, zI, zJ, zK]
 refine tkI 14 19 (.pointer (some ⟨G, 0, none⟩)) ?_
 simp only [Act.put, zI, zJ, zK]
 refine tkI 15 20 (.pointer (some ⟨G, 0, none⟩)) ?_
 simp only [Act.put, zI, zJ, zK]
 refine tkI 16 21 (.func (.func 43) #[.pointer (some ⟨G, 0, none⟩)] #[]) ?_
 simp only [Act.put, zI, zJ, zK]
 refine tkI 18 23 (.pointer (some ⟨G, 0, none⟩)) ?_
 simp only [Act.put, zI, zJ, zK]
 refine tkI 20 25 (.pointer (some ⟨G, 0, none⟩)) ?_
 simp only [Act.put, zI, zJ, zK]
 refine tkI 21 26 (.pointer (some ⟨G, 0, none⟩)) ?_
 simp only [Act.put, zI, zJ, zK]
 refine tkI 22 27 (.func (.func 46) #[.pointer (some ⟨G, 0, none⟩)] #[]) ?_
 simp only [Act.put, zI, zJ, zK]
 refine tkI 24 29 (.pointer (some ⟨G, 0, none⟩)) ?_
 simp only [Act.put, zI, zJ, zK]
 refine tkI 26 31 (.pointer (some ⟨G, 0, none⟩)) ?_
 simp only [Act.put, zI, zJ, zK]
 refine tkI 27 32 (.pointer (some ⟨G, 0, none⟩)) ?_
 simp only [Act.put, zI, zJ, zK]
 refine tkI 28 33 (.func (.func 49) #[.pointer (some ⟨G, 0, none⟩)] #[]) ?_
 simp only [Act.put, zI, zJ, zK]
 refine tkI 30 35 (.pointer (some ⟨G, 0, none⟩)) ?_
 simp only [Act.put, zI, zJ, zK]
 refine tkI 31 36 (.pointer (some ⟨G, 0, none⟩)) ?_
 simp only [Act.put, zI, zJ, zK]
 refine tkI 32 37 (.func (.func 51) #[.pointer (some ⟨G, 0, none⟩)] #[]) ?_
 simp only [Act.put, zI, zJ, zK]
 refine tkI 34 39 (.pointer (some ⟨G, 0, none⟩)) ?_
 simp only [Act.put, zI, zJ, zK]
 refine tkI 36 41 (.pointer (some ⟨G, 0, none⟩)) ?_
 simp only [Act.put, zI, zJ, zK]
 refine tkI 38 43 (.pointer (some ⟨G, 0, none⟩)) ?_
 simp only [Act.put, zI, zJ, zK]
 refine tkI 39 44 (.pointer (some ⟨G, 0, none⟩)) ?_
 simp only [Act.put, zI, zJ, zK]
 refine tkI 40 45 (.pointer (some ⟨G, 0, none⟩)) ?_
 simp only [Act.put, zI, zJ, zK]
 refine tjI 41 46 (.pointer (some ⟨g, 0, none⟩)) ?_ ?_
 ·
  intro X hX; obtain ⟨⟨b, t, hW⟩, hB⟩ := hX; have hc := hW.c0; go_simp
 (try simp only [Act.put, zI, zJ, zK])
 refine tkI 43 48 (.pointer (some ⟨G, 0, none⟩)) ?_
 simp only [Act.put, zI, zJ, zK]
 refine tkI 44 49 (.pointer (some ⟨G, 0, none⟩)) ?_
 simp only [Act.put, zI, zJ, zK]
 refine tkI 45 50 (.pointer (some ⟨G, 0, none⟩)) ?_
 simp only [Act.put, zI, zJ, zK]
 refine tjI 46 51 (.pointer (some ⟨g, 0, none⟩)) ?_ ?_
 ·
  intro X hX; obtain ⟨⟨b, t, hW⟩, hB⟩ := hX; have hc := hW.c0; go_simp
 (try simp only [Act.put, zI, zJ, zK])
 refine rYI 4 fun K hK => ?_
 go_simp
 refine ((HR0.out.below (drew_below wm)).text).mono ?_
 rintro en w1a ⟨rfl, h1, h2⟩
 generalize hq1 : rMeas 2 4096 q0.2.2 = q1 at *; have HQ1 := hD hq1; clear hq1; have HR1 := hD h1; have HK1 := hD h2
 go_simp
 refine hK.out _ _ (hHeld0.on h1 h2) (fun hHeld1 => ?_)
 clear hK K
 (try simp only [Act.put, zI, zJ, zK])
 refine rYI 9 fun K hK => ?_
 go_simp
 refine (HR1.out.num 1).mono ?_
 rintro en w2a ⟨rfl, h1, h2⟩
 generalize hq2 : rNum 1 q1.2 = q2 at *; have HQ2 := hD hq2; clear hq2; have HR2 := hD h1; have HK2 := hD h2
 go_simp
 refine hK.out _ _ (hHeld1.on h1 h2) (fun hHeld2 => ?_)
 clear hK K
 (try simp only [Act.put, zI, zJ, zK])
 refine rYI 13 fun K hK => ?_
 go_simp
 refine (rlSeg_any 1 (by decide) 41 _ HR2.out (fun _ _ => by go_simp) (fun X b t hX _ => rseg_any X hX)).mono ?_
 rintro en w3a ⟨A3, c3, y3, B3, rfl, ha, hb, hv, h1, h2⟩
 generalize hq3 : rdList 1 rdSg q2.2 = q3 at *; have HQ3 := hD hq3; clear hq3; have HR3 := hD h1; have HK3 := hD h2; have HA3 := hD ha; have HB3 := hD hb; have HV3 := hD hv; clear ha hb hv
 go_simp
 refine hK.out _ _ (hHeld2.on h1 h2) (fun hHeld3 => ?_)
 clear hK K
 (try simp only [Act.put, zI, zJ, zK])
 refine rYI 17 fun K hK => ?_
 go_simp
 refine (rlNeed_any 1 (by decide) 43 _ HR3.out (fun _ _ => by go_simp) (fun X b t hX _ => rneed_any X hX)).mono ?_
 rintro en w4a ⟨A4, c4, y4, B4, rfl, ha, hb, hv, h1, h2⟩
 generalize hq4 : rdList 1 rdNd q3.2.2 = q4 at *; have HQ4 := hD hq4; clear hq4; have HR4 := hD h1; have HK4 := hD h2; have HA4 := hD ha; have HB4 := hD hb; have HV4 := hD hv; clear ha hb hv
 go_simp
 refine hK.out _ _ (hHeld3.on h1 h2) (fun hHeld4 => ?_)
 clear hK K
 (try simp only [Act.put, zI, zJ, zK])
 refine rYI 19 fun K hK => ?_
 go_simp
 refine (rtexts_any _ HR4.out).mono ?_
 rintro en w5a ⟨A5, c5, y5, B5, rfl, ha, hb, hv, h1, h2⟩
 generalize hq5 : rdTx q4.2.2 = q5 at *; have HQ5 := hD hq5; clear hq5; have HR5 := hD h1; have HK5 := hD h2; have HA5 := hD ha; have HV5 := hD hv; clear ha hb hv
 go_simp
 refine hK.out _ _ (hHeld4.on h1 h2) (fun hHeld5 => ?_)
 clear hK K
 (try simp only [Act.put, zI, zJ, zK])
 refine rYI 23 fun K hK => ?_
 go_simp
 refine (rlSym_any 2 (by decide) 46 _ HR5.out (fun _ _ => by go_simp) (fun X b t hX _ => rsymbol_any X hX)).mono ?_
 rintro en w6a ⟨A6, c6, y6, B6, rfl, ha, hb, hv, h1, h2⟩
 generalize hq6 : rdList 2 rdSym q5.2.2 = q6 at *; have HQ6 := hD hq6; clear hq6; have HR6 := hD h1; have HK6 := hD h2; have HA6 := hD ha; have HV6 := hD hv; clear ha hb hv
 go_simp
 refine hK.out _ _ (hHeld5.on h1 h2) (fun hHeld6 => ?_)
 clear hK K
 (try simp only [Act.put, zI, zJ, zK])
 refine rYI 25 fun K hK => ?_
 go_simp
 refine (rtable_any _ HR6.out).mono ?_
 rintro en w7a ⟨y7, y9, A7, c7, A9, c9, rfl, ha, hv, hv2, h1, h2⟩
 generalize hq7 : rdList 2 rdRow q6.2.2 = q7 at *; have HQ7 := hD hq7; clear hq7; generalize hq8 : rNum 1 q7.2.2 = q8 at *; have HQ8 := hD hq8; clear hq8; generalize hq9 : rdList 1 rdWd q8.2 = q9 at *; have HQ9 := hD hq9; clear hq9; have HR7 := hD h1; have HK7 := hD h2; have HA7 := hD ha; have HV7 := hD hv; have HV9 := hD hv2; clear ha hv hv2
 go_simp
 refine hK.out _ _ (hHeld6.on h1 h2) (fun hHeld7 => ?_)
 clear hK K
 (try simp only [Act.put, zI, zJ, zK])
 refine rYI 29 fun K hK => ?_
 go_simp
 refine (rlRel_any 2 (by decide) 49 _ HR7.out (fun _ _ => by go_simp) (fun X b t hX _ => rreloc_any X hX)).mono ?_
 rintro en w8a ⟨A10, c10, y10, B10, rfl, ha, hb, hv, h1, h2⟩
 generalize hq10 : rdList 2 rdRl q9.2.2 = q10 at *; have HQ10 := hD hq10; clear hq10; have HR8 := hD h1; have HK8 := hD h2; have HA8 := hD ha; have HV10 := hD hv; clear ha hb hv
 go_simp
 refine hK.out _ _ (hHeld7.on h1 h2) (fun hHeld8 => ?_)
 clear hK K
 (try simp only [Act.put, zI, zJ, zK])
 refine rYI 33 fun K hK => ?_
 go_simp
 refine (rlSlot_any 2 (by decide) 51 _ HR8.out (fun _ _ => by go_simp) (fun X b t hX _ => rslot_any X hX)).mono ?_
 rintro en w9a ⟨A11, c11, y11, B11, rfl, ha, hb, hv, h1, h2⟩
 generalize hq11 : rdList 2 rdSl q10.2.2 = q11 at *; have HQ11 := hD hq11; clear hq11; have HR9 := hD h1; have HK9 := hD h2; have HA9 := hD ha; have HV11 := hD hv; clear ha hb hv
 go_simp
 refine hK.out _ _ (hHeld8.on h1 h2) (fun hHeld9 => ?_)
 clear hK K
 (try simp only [Act.put, zI, zJ, zK])
 refine rYI 35 fun K hK => ?_
 go_simp
 refine (rruns_any _ HR9.out).mono ?_
 rintro en w10a ⟨y12, B12, rfl, ha, hv, h1, h2⟩
 generalize hq12 : rdRuns q11.2.2 = q12 at *; have HQ12 := hD hq12; clear hq12; have HR10 := hD h1; have HK10 := hD h2; have HA10 := hD ha; have HV12 := hD hv; clear ha hv
 go_simp
 refine hK.out _ _ (hHeld9.on h1 h2) (fun hHeld10 => ?_)
 clear hK K
 (try simp only [Act.put, zI, zJ, zK])
 refine rYI 37 fun K hK => ?_
 go_simp
 refine (rruns_any _ HR10.out).mono ?_
 rintro en w11a ⟨y13, B13, rfl, ha, hv, h1, h2⟩
 generalize hq13 : rdRuns q12.2.2 = q13 at *; have HQ13 := hD hq13; clear hq13; have HR11 := hD h1; have HK11 := hD h2; have HA11 := hD ha; have HV13 := hD hv; clear ha hv
 go_simp
 refine hK.out _ _ (hHeld10.on h1 h2) (fun hHeld11 => ?_)
 clear hK K
 (try simp only [Act.put, zI, zJ, zK])
 refine rYI 42 fun K hK => ?_
 go_simp
 refine (HR11.out.num 2).mono ?_
 rintro en w12a ⟨rfl, h1, h2⟩
 generalize hq14 : rNum 2 q13.2.2 = q14 at *; have HQ14 := hD hq14; clear hq14; have HR12 := hD h1; have HK12 := hD h2
 go_simp
 refine hK.out _ _ (hHeld11.on h1 h2) (fun hHeld12 => ?_)
 clear hK K
 (try simp only [Act.put, zI, zJ, zK])
 refine rYI 47 fun K hK => ?_
 go_simp
 refine (HR12.out.block).mono ?_
 rintro en w13a ⟨A15, c15, rfl, ho, h1, h2⟩
 generalize hq15 : rMeas 4 1048576 q14.2 = q15 at *; have HQ15 := hD hq15; clear hq15; have HR13 := hD h1; have HK13 := hD h2; have HO := hD ho; clear ho
 go_simp
 refine hK.out _ _ (hHeld12.on h1 h2) (fun hHeld13 => ?_)
 clear hK K
 (try simp only [Act.put, zI, zJ, zK])
 refine tkI 48 53 (.agg #[str q1.1, .int .i64 q2.1, .slice A3 y3.length c3, .slice A4 y4.length c4, .slice A5 y5.length c5, .slice A6 y6.length c6, .slice A7 y7.length c7, .slice A9 y9.length c9, .int .i64 q8.1, .slice A10 y10.length c10, .slice A11 y11.length c11, .slice B12.1 y12.length B12.2, .slice B13.1 y13.length B13.2, .slice A15 q15.1.length c15, .int .i64 q14.1]) ?_
 simp only [Act.put, zI, zJ, zK]
 refine rYI 49 fun K hK => ?_
 rw [if_pos (by rfl)]
 obtain ⟨cs0, hcs, hB0⟩ := hHeld13.2.1
 refine wp_store_row 40 (.tmp 2) (.tmp 53) rfl gr #[str q1.1, .int .i64 q2.1, .slice A3 y3.length c3, .slice A4 y4.length c4, .slice A5 y5.length c5, .slice A6 y6.length c6, .slice A7 y7.length c7, .slice A9 y9.length c9, .int .i64 q8.1, .slice A10 y10.length c10, .slice A11 y11.length c11, .slice B12.1 y12.length B12.2, .slice B13.1 y13.length B13.2, .slice A15 q15.1.length c15, .int .i64 q14.1] rfl rfl 40 cs0 hB0 Tryz.info_img (by rw [hcs]; rfl) (by simp [Value.oneCell']) ?_
 refine hK.out _ _ (hHeld13.row _ rfl) (fun hHeldZ => ?_)
 clear hK K
 refine wpAnyH_done (by kernel_rfl) ?_ _
 have HRZ := hD (HR13.out.row (gr := gr) hHeld13.2.2.2 #[str q1.1, .int .i64 q2.1, .slice A3 y3.length c3, .slice A4 y4.length c4, .slice A5 y5.length c5, .slice A6 y6.length c6, .slice A7 y7.length c7, .slice A9 y9.length c9, .int .i64 q8.1, .slice A10 y10.length c10, .slice A11 y11.length c11, .slice B12.1 y12.length B12.2, .slice B13.1 y13.length B13.2, .slice A15 q15.1.length c15, .int .i64 q14.1])
 have HKZ := hD (Kr.row (gr := gr) ((HKS.out.trans HKM.out).trans ((Kr.of_below (drew_below wm)).trans (HK1.out.trans ((((((((((((HK2.out).trans HK3.out).trans HK4.out).trans HK5.out).trans HK6.out).trans HK7.out).trans HK8.out).trans HK9.out).trans HK10.out).trans HK11.out).trans HK12.out).trans HK13.out)))) (by omega) #[str q1.1, .int .i64 q2.1, .slice A3 y3.length c3, .slice A4 y4.length c4, .slice A5 y5.length c5, .slice A6 y6.length c6, .slice A7 y7.length c7, .slice A9 y9.length c9, .int .i64 q8.1, .slice A10 y10.length c10, .slice A11 y11.length c11, .slice B12.1 y12.length B12.2, .slice B13.1 y13.length B13.2, .slice A15 q15.1.length c15, .int .i64 q14.1])
 have hBZ := hHeld13.put #[str q1.1, .int .i64 q2.1, .slice A3 y3.length c3, .slice A4 y4.length c4, .slice A5 y5.length c5, .slice A6 y6.length c6, .slice A7 y7.length c7, .slice A9 y9.length c9, .int .i64 q8.1, .slice A10 y10.length c10, .slice A11 y11.length c11, .slice B12.1 y12.length B12.2, .slice B13.1 y13.length B13.2, .slice A15 q15.1.length c15, .int .i64 q14.1]
 have HST := hD (Steps.mk (s := s) HQ0.out HQ1.out HQ2.out HQ3.out HQ4.out HQ5.out HQ6.out HQ7.out HQ8.out HQ9.out HQ10.out HQ11.out HQ12.out HQ13.out HQ14.out HQ15.out)
 have l2 := hHeld2.lt
 have l3 := hHeld3.lt
 have l4 := hHeld4.lt
 have l5 := hHeld5.lt
 have l6 := hHeld6.lt
 have l7 := hHeld7.lt
 have l8 := hHeld8.lt
 have l9 := hHeld9.lt
 have l10 := hHeld10.lt
 have l11 := hHeld11.lt
 have l12 := hHeld12.lt
 have HIN := hD (show ImIn (World.setRow w13a gr #[str q1.1, .int .i64 q2.1, .slice A3 y3.length c3, .slice A4 y4.length c4, .slice A5 y5.length c5, .slice A6 y6.length c6, .slice A7 y7.length c7, .slice A9 y9.length c9, .int .i64 q8.1, .slice A10 y10.length c10, .slice A11 y11.length c11, .slice B12.1 y12.length B12.2, .slice B13.1 y13.length B13.2, .slice A15 q15.1.length c15, .int .i64 q14.1]) (fun k => gr ≤ k ∧ k < (World.setRow w13a gr #[str q1.1, .int .i64 q2.1, .slice A3 y3.length c3, .slice A4 y4.length c4, .slice A5 y5.length c5, .slice A6 y6.length c6, .slice A7 y7.length c7, .slice A9 y9.length c9, .int .i64 q8.1, .slice A10 y10.length c10, .slice A11 y11.length c11, .slice B12.1 y12.length B12.2, .slice B13.1 y13.length B13.2, .slice A15 q15.1.length c15, .int .i64 q14.1]).heap.size) ⟨(A3, c3), (A4, c4), (A5, c5), (A6, c6), (A7, c7), (A9, c9), (A10, c10), (A11, c11), B12, B13, (A15, c15)⟩ ⟨q1.1, q2.1, y3, y4, y5, y6, y7, y9, q8.1, y10, y11, y12, y13, q15.1, q14.1⟩ from
  im_row HG.out l2 l3 l4 l5 l6 l7 l8 l9 l10 l12 HK4.out HK5.out HK6.out HK7.out HK8.out HK9.out HK10.out HK11.out HK12.out HK13.out HA3.out HB3.out HA4.out HB4.out HA5.out HA6.out HA7.out HA8.out HA9.out HA10.out HA11.out HO.out _)
 clear hB0 hcs
 generalize (World.setRow w13a gr #[str q1.1, .int .i64 q2.1, .slice A3 y3.length c3, .slice A4 y4.length c4, .slice A5 y5.length c5, .slice A6 y6.length c6, .slice A7 y7.length c7, .slice A9 y9.length c9, .int .i64 q8.1, .slice A10 y10.length c10, .slice A11 y11.length c11, .slice B12.1 y12.length B12.2, .slice B13.1 y13.length B13.2, .slice A15 q15.1.length c15, .int .i64 q14.1]) = wz at *
 have eq := hBZ.c; have e0 := eq 0; have e1 := eq 1; have e2 := eq 2; have e3 := eq 3; have e4 := eq 4; have e5 := eq 5; have e6 := eq 6; have e7 := eq 7; have e8 := eq 8; have e9 := eq 9; have e10 := eq 10; have e11 := eq 11; have e12 := eq 12; have e13 := eq 13; have e14 := eq 14; clear eq
 simp only [gA, gB, gC] at e0 e1 e2 e3 e4 e5 e6 e7 e8 e9 e10 e11 e12 e13 e14
 clear hBZ
 go_wp2_with fail
 refine bodyPost_ret (v := .agg #[str q1.1, .int .i64 q2.1, .slice A3 y3.length c3, .slice A4 y4.length c4, .slice A5 y5.length c5, .slice A6 y6.length c6, .slice A7 y7.length c7, .slice A9 y9.length c9, .int .i64 q8.1, .slice A10 y10.length c10, .slice A11 y11.length c11, .slice B12.1 y12.length B12.2, .slice B13.1 y13.length B13.2, .slice A15 q15.1.length c15, .int .i64 q14.1]) (by simp [results, Tryz.results17, go_sem, e0, e1, e2, e3, e4, e5, e6, e7, e8, e9, e10, e11, e12, e13, e14]) rfl ?_
 have hst := HST.out
 have hfi := hst.fine
 have him := hst.im
 generalize rdIm s = ri at *
 refine it_im2 him ⟨(A3, c3), (A4, c4), (A5, c5), (A6, c6), (A7, c7), (A9, c9), (A10, c10), (A11, c11), B12, B13, (A15, c15)⟩ ⟨q1.1, q2.1, y3, y4, y5, y6, y7, y9, q8.1, y10, y11, y12, y13, q15.1, q14.1⟩ im_ret (by rw [hgr]; exact HIN.out) (fun h0 => ?_) (by rw [bads]; exact HRZ.out) HKZ.out
 obtain ⟨z3, z4, z5, z6, z7, z9, z10, z11, z12, z13⟩ := hfi h0
 rw [HV3.out z3, HV4.out z4, HV5.out z5, HV6.out z6, HV7.out z7, HV9.out z9, HV10.out z10, HV11.out z11, HV12.out z12, HV13.out z13]
 rfl
end Go.Proofs.YtfljignkjmabpaaGreat
