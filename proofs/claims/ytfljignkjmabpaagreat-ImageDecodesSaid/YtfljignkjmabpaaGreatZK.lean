/- A part of the proof. -/
import Derived.Test.YtfljignkjmabpaaGreatZJ
set_option linter.unusedSimpArgs false
set_option linter.unusedVariables false
namespace Go.Proofs.YtfljignkjmabpaaGreat
set_option maxRecDepth 100000
open Go.RowKit
def overAny (x : Im) (a : Int) : Bool := x.relocs.any (overB x a)
set_option maxHeartbeats 2000000 in
theorem isRelocated_any (p : Pl) (x : Im) (a : Int) (w : World) (h : ImIn w (fun k => k < w.heap.size) p x) (hf : Fit x) (hs : ∀ s ∈ x.segs, SegOk s) (hr : ∀ r ∈ x.relocs, relB x r = true) (ha : 0 ≤ a) (ha2 : a ≤ 65536) :
  Calls Tryz.prog 182 #[imV p x, .int .i64 a] w fun e w' => e = .returned (.bool (overAny x a)) ∧ Below w.heap.size w w' := by
 have hb1 := ibox_below w p x
 have hx1 := Ix.new w p x
 generalize hw1 : w.alloc (.cells (imA p x) 40) = w1 at *
 have hb2 := (Below.refl w1.heap.size w1).alloc (Nat.le_refl _) (.cells #[.int .i64 a] 3)
 have hx2 := Bx.new w1 #[.int .i64 a] 3
 generalize hw2 : w1.alloc (.cells #[.int .i64 a] 3) = w2 at *
 have z1 : w1.heap.size = w.heap.size + 1 := by rw [← hw1]; simp
 have hl := hf.relocs
 unfold Long at hl
 have hB := hb1.trans (hb2.mono (by omega))
 have HC := hD (cfRel_any p.rl.1 x.relocs.length p.rl.2 x.relocs 209 #[.pointer (some ⟨w1.heap.size, 0, none⟩), .pointer (some ⟨w.heap.size, 0, none⟩)] (fun k => overB x a (x.relocs.getD k noRl)) w2 (h.lt hB).relocs.els (by omega) (fun _ _ => by go_simp)
  (fun k Y hk hY => over_any p x _ a _ _ Y ((h.lt hB).lt hY) hf hs ((hx1.below hb2).below hY) (hr _ (getD_mem hk)) ha ha2 ((hx2.below hY).c 0)))
 rw [range_any x.relocs noRl (overB x a), z1] at HC
 have HF := hD (show overAny x a = x.relocs.any (overB x a) from rfl)
 have HB := hD hB
 obtain ⟨-, -, -, -, -, -, -, -, -, c9, -⟩ := (hx1.below hb2).cells
 clear h hf hs hr ha ha2 hb1 hb2 hx1 hx2 hB
 go_enter Tryz.func182, Tryz.ntmps182
 go_upto_region 1 with (fail)
 go_upto_region 99 with (go_at_call 208; (with_reducible refine (HC.out).mono ?_); rintro e w5 ⟨rfl, hb5⟩)
 first | go_ret | skip
 exact ⟨by rw [HF.out]; rfl, HB.out.trans (hb5.mono HB.out.size)⟩
def slotB (x : Im) (s : Sl) : Bool := idxB x.syms.length s.sym && decide ((x.syms.getD s.sym.toNat noSy).kind = 1) && standB x.segs s.stub 8 4 && standB x.segs s.at_ 8 0 && !overAny x s.at_
def SS (w : World) (p : Pl) (x : Im) (s : Sl) (X : World) : Prop := Below w.heap.size w X ∧ Ix X w.heap.size p x ∧ Bx X (w.heap.size + 1) (slA s) 112
theorem SS.on {w X Y : World} {p : Pl} {x : Im} {s : Sl} (h : SS w p x s X) (hb : Below X.heap.size X Y) : SS w p x s Y := ⟨h.1.trans (hb.mono h.1.size), h.2.1.below hb, h.2.2.below hb⟩
theorem Bx.sl {w : World} {g : Nat} {s : Sl} (h : Bx w g (slA s) 112) : w.cell? ⟨g, 0, none⟩ = some (.int .i64 s.at_) ∧ w.cell? ⟨g, 1, none⟩ = some (.int .i64 s.sym) ∧ w.cell? ⟨g, 2, none⟩ = some (.int .i64 s.stub) := ⟨h.c 0, h.c 1, h.c 2⟩
theorem im_sl (w : World) (p : Pl) (x : Im) (s : Sl) : ∃ W : World, W = (w.alloc (.cells (imA p x) 40)).alloc (.cells (slA s) 112) ∧ SS w p x s W := by
 refine ⟨_, rfl, (ibox_below w p x).alloc (by simp) _, ⟨(Ix.new w p x).bx.alloc _⟩, ?_⟩
 have := Bx.new (w.alloc (.cells (imA p x) 40)) (slA s) 112
 simpa using this
set_option maxHeartbeats 4000000 in
theorem isSlot_any (p : Pl) (x : Im) (s : Sl) (w : World) (h : ImIn w (fun k => k < w.heap.size) p x) (hf : Fit x) (hs : ∀ s ∈ x.segs, SegOk s) (hr : ∀ r ∈ x.relocs, relB x r = true) :
  Calls Tryz.prog 119 #[imV p x, .agg (slA s)] w fun e w' => e = .returned (.bool (slotB x s)) ∧ Below w.heap.size w w' := by
 obtain ⟨sg, nd, rp, ⟨sya, syc⟩, bk, fw, rl, sl, ini, fin, tl⟩ := p
 obtain ⟨W, hW, hS⟩ := im_sl w ⟨sg, nd, rp, ⟨sya, syc⟩, bk, fw, rl, sl, ini, fin, tl⟩ x s
 have HS := hD hS
 have HM := hD (fun (X : World) (hX : SS w ⟨sg, nd, rp, ⟨sya, syc⟩, bk, fw, rl, sl, ini, fin, tl⟩ x s X) => (h.lt hX.1).syms)
 have HI := hD (fun X => idx_any ⟨sg, nd, rp, ⟨sya, syc⟩, bk, fw, rl, sl, ini, fin, tl⟩ x s.sym X hf.syms)
 have HH1 := hD (fun (X : World) (hX : SS w ⟨sg, nd, rp, ⟨sya, syc⟩, bk, fw, rl, sl, ini, fin, tl⟩ x s X) => has_img _ x s.stub 8 4 X (h.lt hX.1) hf.segs hs (by omega) (by omega))
 have HH2 := hD (fun (X : World) (hX : SS w ⟨sg, nd, rp, ⟨sya, syc⟩, bk, fw, rl, sl, ini, fin, tl⟩ x s X) => has_img _ x s.at_ 8 0 X (h.lt hX.1) hf.segs hs (by omega) (by omega))
 have HRL := hD (fun (ho : standB x.segs s.at_ 8 0 = true) (X : World) (hX : SS w ⟨sg, nd, rp, ⟨sya, syc⟩, bk, fw, rl, sl, ini, fin, tl⟩ x s X) => isRelocated_any _ x s.at_ X (h.lt hX.1) hf hs hr (stand_range ho hs).1 (by have := stand_range ho hs; omega))
 generalize hbb : slotB x s = bb
 have HF := hD (hbb.symm.trans (show slotB x s = (idxB x.syms.length s.sym && decide ((x.syms.getD s.sym.toNat noSy).kind = 1) && standB x.segs s.stub 8 4 && standB x.segs s.at_ 8 0 && !overAny x s.at_) from rfl))
 obtain ⟨c0, c1, c2, c3, c4, c5, c6, c7, c8, c9, c10, c11, c12, c13, c14⟩ := hS.2.1.cells
 obtain ⟨d0, d1, d2⟩ := hS.2.2.sl
 simp only at c2 c3 c4 c5 c6 c7 c9 c10 c11 c12 c13
 have hlen := hf.syms
 unfold Long at hlen
 clear h hf hs hr hS hbb
 go_enter Tryz.func119, Tryz.ntmps119
 go_upto_region 1 with (fail)
 rw [← hW]
 clear hW
 cases hix : idxB x.syms.length s.sym
 ·
  rw [hix] at HI HF
  go_wp2_with (go_at_call 181; (with_reducible refine (HI.out _).mono ?_); rintro e w2 ⟨rfl, hb2⟩)
  go_ret
  exact ⟨by rw [HF.out]; rfl, (HS.out.on hb2).1⟩
 rw [hix] at HI HF
 obtain ⟨j, hj, hlt⟩ := idx_get hix
 obtain ⟨sa, ss, st⟩ := s
 simp only at hj d0 d1 d2 HI HF
 subst hj
 rw [show ((j : Int)).toNat = j from rfl] at HF
 obtain ⟨ad, rfl⟩ : ∃ ad, sya = some ad := by
  cases sya with
  | none => have := ((HM.out _ HS.out).nil rfl).1; omega
  | some ad => exact ⟨ad, rfl⟩
 obtain ⟨b, o, rfl⟩ := (HM.out _ HS.out).plain (by omega)
 have hj0 : (0 : Int) ≤ (j : Int) := by omega
 have hj1 : (j : Int) < (x.syms.length : Int) := by omega
 have HEL := hD (fun (X : World) (hX : SS w _ x ⟨sa, j, st⟩ X) => (HM.out X hX).els.get j hlt 3)
 generalize x.syms.getD j noSy = y at *
 clear hix HM
 by_cases hk : y.kind = 1
 ·
  have HF2 := hD (show bb = (standB x.segs st 8 4 && standB x.segs sa 8 0 && !overAny x sa) by rw [HF.out]; simp [hk])
  clear HF
  generalize standB x.segs st 8 4 = b1 at *
  generalize standB x.segs sa 8 0 = b2 at *
  generalize overAny x sa = b3 at *
  cases b1
  ·
   go_wp2_with (first
    | (go_at_call 181; (with_reducible refine (HI.out _).mono ?_); rintro e w2 ⟨rfl, hb2⟩; have HS2 := hD (HS.out.on hb2); obtain ⟨pc0, pc1, pc2, pc3, pc4, pc5, pc6, pc7, pc8, pc9, pc10, pc11, pc12, pc13, pc14⟩ := HS2.out.2.1.cells; obtain ⟨ps0, ps1, ps2⟩ := HS2.out.2.2.sl; simp only at pc2 pc3 pc4 pc5 pc6 pc7 pc9 pc10 pc11 pc12 pc13 ps0 ps1 ps2; have k3 := HEL.out _ HS2.out _ rfl; clear hb2)
    | (go_at_call 124; (with_reducible refine (HH1.out _ HS2.out).mono ?_); rintro e w3 ⟨rfl, hb3⟩; have HS3 := hD (HS2.out.on hb3); obtain ⟨qc0, qc1, qc2, qc3, qc4, qc5, qc6, qc7, qc8, qc9, qc10, qc11, qc12, qc13, qc14⟩ := HS3.out.2.1.cells; obtain ⟨qs0, qs1, qs2⟩ := HS3.out.2.2.sl; simp only at qc2 qc3 qc4 qc5 qc6 qc7 qc9 qc10 qc11 qc12 qc13 qs0 qs1 qs2; clear hb3))
   go_ret
   exact ⟨by rw [HF2.out]; rfl, HS3.out.1⟩
  cases b2
  ·
   go_wp2_with (first
    | (go_at_call 181; (with_reducible refine (HI.out _).mono ?_); rintro e w2 ⟨rfl, hb2⟩; have HS2 := hD (HS.out.on hb2); obtain ⟨pc0, pc1, pc2, pc3, pc4, pc5, pc6, pc7, pc8, pc9, pc10, pc11, pc12, pc13, pc14⟩ := HS2.out.2.1.cells; obtain ⟨ps0, ps1, ps2⟩ := HS2.out.2.2.sl; simp only at pc2 pc3 pc4 pc5 pc6 pc7 pc9 pc10 pc11 pc12 pc13 ps0 ps1 ps2; have k3 := HEL.out _ HS2.out _ rfl; clear hb2)
    | (go_at_call 124; (with_reducible refine (HH1.out _ HS2.out).mono ?_); rintro e w3 ⟨rfl, hb3⟩; have HS3 := hD (HS2.out.on hb3); obtain ⟨qc0, qc1, qc2, qc3, qc4, qc5, qc6, qc7, qc8, qc9, qc10, qc11, qc12, qc13, qc14⟩ := HS3.out.2.1.cells; obtain ⟨qs0, qs1, qs2⟩ := HS3.out.2.2.sl; simp only at qc2 qc3 qc4 qc5 qc6 qc7 qc9 qc10 qc11 qc12 qc13 qs0 qs1 qs2; clear hb3)
    | (go_at_call 124; (with_reducible refine (HH2.out _ HS3.out).mono ?_); rintro e w4 ⟨rfl, hb4⟩; have HS4 := hD (HS3.out.on hb4); obtain ⟨rc0, rc1, rc2, rc3, rc4, rc5, rc6, rc7, rc8, rc9, rc10, rc11, rc12, rc13, rc14⟩ := HS4.out.2.1.cells; obtain ⟨rs0, rs1, rs2⟩ := HS4.out.2.2.sl; simp only at rc2 rc3 rc4 rc5 rc6 rc7 rc9 rc10 rc11 rc12 rc13 rs0 rs1 rs2; clear hb4))
   go_ret
   exact ⟨by rw [HF2.out]; rfl, HS4.out.1⟩
  have HR2 := hD (HRL.out rfl)
  clear HRL
  go_wp2_with (first
   | (go_at_call 181; (with_reducible refine (HI.out _).mono ?_); rintro e w2 ⟨rfl, hb2⟩; have HS2 := hD (HS.out.on hb2); obtain ⟨pc0, pc1, pc2, pc3, pc4, pc5, pc6, pc7, pc8, pc9, pc10, pc11, pc12, pc13, pc14⟩ := HS2.out.2.1.cells; obtain ⟨ps0, ps1, ps2⟩ := HS2.out.2.2.sl; simp only at pc2 pc3 pc4 pc5 pc6 pc7 pc9 pc10 pc11 pc12 pc13 ps0 ps1 ps2; have k3 := HEL.out _ HS2.out _ rfl; clear hb2)
   | (go_at_call 124; (with_reducible refine (HH1.out _ HS2.out).mono ?_); rintro e w3 ⟨rfl, hb3⟩; have HS3 := hD (HS2.out.on hb3); obtain ⟨qc0, qc1, qc2, qc3, qc4, qc5, qc6, qc7, qc8, qc9, qc10, qc11, qc12, qc13, qc14⟩ := HS3.out.2.1.cells; obtain ⟨qs0, qs1, qs2⟩ := HS3.out.2.2.sl; simp only at qc2 qc3 qc4 qc5 qc6 qc7 qc9 qc10 qc11 qc12 qc13 qs0 qs1 qs2; clear hb3)
   | (go_at_call 124; (with_reducible refine (HH2.out _ HS3.out).mono ?_); rintro e w4 ⟨rfl, hb4⟩; have HS4 := hD (HS3.out.on hb4); obtain ⟨rc0, rc1, rc2, rc3, rc4, rc5, rc6, rc7, rc8, rc9, rc10, rc11, rc12, rc13, rc14⟩ := HS4.out.2.1.cells; obtain ⟨rs0, rs1, rs2⟩ := HS4.out.2.2.sl; simp only at rc2 rc3 rc4 rc5 rc6 rc7 rc9 rc10 rc11 rc12 rc13 rs0 rs1 rs2; clear hb4)
   | (go_at_call 182; (with_reducible refine (HR2.out _ HS4.out).mono ?_); rintro e w5 ⟨rfl, hb5⟩; have HS5 := hD (HS4.out.on hb5); clear hb5))
  go_ret
  exact ⟨by rw [HF2.out]; rfl, HS5.out.1⟩
 ·
  have HF2 := hD (show bb = false by rw [HF.out]; simp [hk])
  clear HF
  go_wp2_with (go_at_call 181; (with_reducible refine (HI.out _).mono ?_); rintro e w2 ⟨rfl, hb2⟩; have HS2 := hD (HS.out.on hb2); obtain ⟨pc0, pc1, pc2, pc3, pc4, pc5, pc6, pc7, pc8, pc9, pc10, pc11, pc12, pc13, pc14⟩ := HS2.out.2.1.cells; obtain ⟨ps0, ps1, ps2⟩ := HS2.out.2.2.sl; simp only at pc2 pc3 pc4 pc5 pc6 pc7 pc9 pc10 pc11 pc12 pc13 ps0 ps1 ps2; have k3 := HEL.out _ HS2.out _ rfl; clear hb2)
  go_ret
  exact ⟨by rw [HF2.out]; rfl, HS2.out.1⟩
end Go.Proofs.YtfljignkjmabpaaGreat
