/- A part of the proof. -/
import Derived.Test.YtfljignkjmabpaaGreatZR
set_option linter.unusedSimpArgs false
set_option linter.unusedVariables false
namespace Go.Proofs.YtfljignkjmabpaaGreat
set_option maxRecDepth 100000
open Go.RowKit
theorem rel_step {p : Nat → Bool} {k : Nat} (h : (List.range k).all p = true) (h1 : p k = true) : (List.range (k + 1)).all p = true := by
 rw [List.range_succ, List.all_append, h]
 simp [h1]
theorem rel_fail {p : Nat → Bool} {k n : Nat} (hk : k < n) (h : p k = false) : (List.range n).all p = false := List.all_eq_false.2 ⟨k, List.mem_range.2 hk, by simp [h]⟩
def relAt (x : Im) (k : Nat) : Bool := relB x (x.relocs.getD k noRl) && decide (lastI (fun k => (x.relocs.getD k noRl).at_ + wideI x (x.relocs.getD k noRl)) k ≤ (x.relocs.getD k noRl).at_)
theorem relocs_eq (x : Im) : relocsB x = (decide (x.relocs.length ≤ 512) && (List.range x.relocs.length).all (relAt x)) := rfl
def MSX (w : World) (p : Pl) (x : Im) (X : World) : Prop := Below w.heap.size w X ∧ Ix X w.heap.size p x
theorem MSX.on {w X Y : World} {p : Pl} {x : Im} (h : MSX w p x X) (hb : Below X.heap.size X Y) : MSX w p x Y := ⟨h.1.trans (hb.mono h.1.size), h.2.below hb⟩
def Rl4 (X : World) (b o k : Nat) (r : Rl) : Prop := X.cell? ⟨b, o + k * 4, none⟩ = some (.int .i64 r.at_) ∧ X.cell? ⟨b, o + k * 4 + 1, none⟩ = some (.int .i64 r.kind) ∧ X.cell? ⟨b, o + k * 4 + 2, none⟩ = some (.int .i64 r.sym) ∧ X.cell? ⟨b, o + k * 4 + 3, none⟩ = some (.int .i64 r.add)
set_option maxHeartbeats 16000000 in
theorem drelocs_any (p : Pl) (x : Im) (w : World) (h : ImIn w (fun k => k < w.heap.size) p x) (hf : Fit x) (hs : ∀ s ∈ x.segs, SegOk s) (hf0 : 0 ≤ x.flags) (hf1 : x.flags ≤ 15) :
  Calls Tryz.prog 67 #[imV p x] w fun e w' => e = .returned (.bool (relocsB x)) ∧ Below w.heap.size w w' := by
 obtain ⟨sg, nd, rp, sy, bk, fw, ⟨rla, rlc⟩, sl, ini, fin, tl⟩ := p
 have HS0 := hD (show MSX w ⟨sg, nd, rp, sy, bk, fw, ⟨rla, rlc⟩, sl, ini, fin, tl⟩ x (w.alloc (.cells (imA ⟨sg, nd, rp, sy, bk, fw, ⟨rla, rlc⟩, sl, ini, fin, tl⟩ x) 40)) from ⟨ibox_below _ _ _, Ix.new _ _ _⟩)
 have HFD := hD (fun (r : Rl) (X : World) (hX : Below w.heap.size w X) => dfits_any _ x r X (h.lt hX) hf hs hf0 hf1)
 have HWI := hD (fun (r : Rl) (hr : relB x r = true) (X : World) (hX : Below w.heap.size w X) => wide_any _ x r X (h.lt hX) hf.syms (kind_idx (rel_kind hr)))
 have HRG := hD (fun (r : Rl) (hr : relB x r = true) => (⟨rel_range hs hr, kind_wide hf (rel_kind hr)⟩ : (0 ≤ r.at_ ∧ r.at_ + wideI x r ≤ 65536) ∧ 0 ≤ wideI x r ∧ wideI x r ≤ 9223372036854775807))
 have HEL := hD (fun (X : World) (hX : Below w.heap.size w X) => (h.lt hX).relocs.els)
 have hls := hf.relocs
 unfold Long at hls
 generalize hbb : relocsB x = bb
 have HF := hD (hbb.symm.trans (relocs_eq x))
 clear h hf hs hbb
 go_enter Tryz.func67, Tryz.ntmps67
 go_upto_region 1 with (fail)
 change Code.wp _ _ _ _ (w.alloc (.cells (imA ⟨sg, nd, rp, sy, bk, fw, ⟨rla, rlc⟩, sl, ini, fin, tl⟩ x) 40))
 generalize w.alloc (.cells (imA ⟨sg, nd, rp, sy, bk, fw, ⟨rla, rlc⟩, sl, ini, fin, tl⟩ x) 40) = w1 at *
 obtain ⟨-, -, -, -, -, -, -, -, -, c9, -⟩ := HS0.out.2.cells
 simp only at c9
 by_cases hl : x.relocs.length ≤ 512
 ·
  have hl' : ¬ (512 : Int) < (x.relocs.length : Int) := by omega
  have HF2 := hD (show bb = (List.range x.relocs.length).all (relAt x) by rw [HF.out, decide_eq_true hl]; rfl)
  clear HF
  go_wp2
  go_loopw [3] (fun t wr => ∃ k : Nat, k ≤ x.relocs.length ∧ t = .int .i64 k ∧ Below w1.heap.size w1 wr ∧ (List.range k).all (relAt x) = true) (fun t _ => x.relocs.length - (intOf t).toNat)
  case atStart => exact ⟨0, Nat.zero_le _, rfl, Below.refl _ _, rfl⟩
  case round =>
   obtain ⟨k, hk, rfl, hb, he⟩ := hrel
   have HE := hD he
   have HBR := hD hb
   have HSR := hD (HS0.out.on hb)
   have f9 := cell_below hb c9
   clear he hb
   by_cases hlt : k < x.relocs.length
   ·
    obtain ⟨ad, rfl⟩ : ∃ ad, rla = some ad := by
     cases rla with
     | none => have := ((HEL.out _ HSR.out.1).nil rfl).1; omega
     | some ad => exact ⟨ad, rfl⟩
    have hE := HEL.out _ HSR.out.1
    have hcap := hE.cap
    obtain ⟨b, o, rfl⟩ := hE.plain (by omega) rfl
    clear hE
    have HEK := hD (fun (X : World) (hX : Below w.heap.size w X) => (show Rl4 X b o k (x.relocs.getD k noRl) from ⟨(HEL.out X hX).get k hlt 0 _ rfl, (HEL.out X hX).get k hlt 1 _ rfl, (HEL.out X hX).get k hlt 2 _ rfl, (HEL.out X hX).get k hlt 3 _ rfl⟩))
    have HEJ0 := hD (fun (j : Nat) (hj : j < x.relocs.length) (X : World) (hX : Below w.heap.size w X) => (show Rl4 X b o j (x.relocs.getD j noRl) from ⟨(HEL.out X hX).get j hj 0 _ rfl, (HEL.out X hX).get j hj 1 _ rfl, (HEL.out X hX).get j hj 2 _ rfl, (HEL.out X hX).get j hj 3 _ rfl⟩))
    have HA := hD (show relAt x k = (relB x (x.relocs.getD k noRl) && decide (lastI (fun k => (x.relocs.getD k noRl).at_ + wideI x (x.relocs.getD k noRl)) k ≤ (x.relocs.getD k noRl).at_)) from rfl)
    have HY := hD (fun h => rel_step (p := relAt x) HE.out h)
    have HNO := hD (fun h => HF2.out.trans (rel_fail (p := relAt x) hlt h))
    have HPV := hD (show ∀ j, k = j + 1 → relB x (x.relocs.getD j noRl) = true ∧ lastI (fun k => (x.relocs.getD k noRl).at_ + wideI x (x.relocs.getD k noRl)) k = (x.relocs.getD j noRl).at_ + wideI x (x.relocs.getD j noRl) from fun j hj => by
     refine ⟨?_, by rw [hj]; rfl⟩
     have := List.all_eq_true.1 HE.out j (List.mem_range.2 (by omega))
     unfold relAt at this
     simp only [Bool.and_eq_true] at this
     exact this.1)
    have HZ := hD (show k = 0 → lastI (fun k => (x.relocs.getD k noRl).at_ + wideI x (x.relocs.getD k noRl)) k = 0 from fun h => by rw [h]; rfl)
    have HR0 := hD (fun h => (HRG.out (x.relocs.getD k noRl) h).1.1)
    have HFT := hD (HFD.out (x.relocs.getD k noRl))
    generalize relAt x k = ra at *
    generalize lastI (fun k => (x.relocs.getD k noRl).at_ + wideI x (x.relocs.getD k noRl)) k = la at *
    generalize x.relocs.getD k noRl = r at *
    have HSD := hD (HSR.out.on (drew_below wr))
    have hk0 : (0 : Int) ≤ (k : Int) := by omega
    have hk1 : (k : Int) < (x.relocs.length : Int) := by omega
    clear HEL HFD HE HF2
    unfold Rl4 at HEK HEJ0
    go_upto_region 6 with (fail)
    cases hr : relB x r
    ·
     have HV := hD (HNO.out (by rw [HA.out, hr]; rfl))
     rw [hr] at HFT
     clear HNO HY HA HPV HZ HR0 HWI HRG HEJ0 f9 c9
     refine wp_region_held_drew (S := MSX w ⟨sg, nd, rp, sy, bk, fw, ⟨some ⟨b, o, none⟩, rlc⟩, sl, ini, fin, tl⟩ x) (by kernel_rfl) HSD.out (fun hHeld0 => ?_)
     refine tjI 0 15 (imV ⟨sg, nd, rp, sy, bk, fw, ⟨some ⟨b, o, none⟩, rlc⟩, sl, ini, fin, tl⟩ x) ?_ ?_
     ·
      intro X hX; obtain ⟨hBX, hI⟩ := hX; obtain ⟨c0, c1, c2, c3, c4, c5, c6, c7, c8, c9, c10, c11, c12, c13, c14⟩ := hI.cells; go_simp
     (try simp only [Act.put, zI, zJ, zK])
     refine tkI 1 16 (.pointer (some ⟨w.heap.size, 9, none⟩)) ?_
     simp only [Act.put, zI, zJ, zK]
     refine tjI 2 17 (.slice (some ⟨b, o, none⟩) x.relocs.length rlc) ?_ ?_
     ·
      intro X hX; obtain ⟨hBX, hI⟩ := hX; obtain ⟨c0, c1, c2, c3, c4, c5, c6, c7, c8, c9, c10, c11, c12, c13, c14⟩ := hI.cells; go_simp
     (try simp only [Act.put, zI, zJ, zK])
     refine tkI 3 18 (.int .i64 (k : Int)) ?_
     simp only [Act.put, zI, zJ, zK]
     refine tkI 4 19 (.pointer (some ⟨b, o + k * 4, none⟩)) ?_
     simp only [Act.put, zI, zJ, zK]
     refine tjI 5 20 (.agg (rlA r)) ?_ ?_
     ·
      intro X hX; obtain ⟨hBX, hI⟩ := hX; obtain ⟨d0, d1, d2, d3⟩ := HEK.out X hBX; go_simp
     (try simp only [Act.put, zI, zJ, zK])
     refine rYI 6 fun K hK => ?_
     go_simp
     refine (HFT.out _ hHeld0.1).mono ?_
     rintro e wq1 ⟨rfl, hq1⟩
     go_simp
     refine hK.out _ _ ((hHeld0).on hq1) (fun hHeld1 => ?_)
     clear hK K
     (try simp only [Act.put, zI, zJ, zK])
     refine tkI 7 22 (.bool true) ?_
     simp only [Act.put, zI, zJ, zK]
     refine wpAnyH_done (by kernel_rfl) ?_ _
     go_wp2_with fail
     go_ret
     exact ⟨by rw [HV.out]; rfl, hHeld1.1⟩
    rw [hr] at HFT
    refine wp_region_held_drew (S := MSX w ⟨sg, nd, rp, sy, bk, fw, ⟨some ⟨b, o, none⟩, rlc⟩, sl, ini, fin, tl⟩ x) (by kernel_rfl) HSD.out (fun hHeld0 => ?_)
    refine tjI 0 15 (imV ⟨sg, nd, rp, sy, bk, fw, ⟨some ⟨b, o, none⟩, rlc⟩, sl, ini, fin, tl⟩ x) ?_ ?_
    ·
     intro X hX; obtain ⟨hBX, hI⟩ := hX; obtain ⟨c0, c1, c2, c3, c4, c5, c6, c7, c8, c9, c10, c11, c12, c13, c14⟩ := hI.cells; go_simp
    (try simp only [Act.put, zI, zJ, zK])
    refine tkI 1 16 (.pointer (some ⟨w.heap.size, 9, none⟩)) ?_
    simp only [Act.put, zI, zJ, zK]
    refine tjI 2 17 (.slice (some ⟨b, o, none⟩) x.relocs.length rlc) ?_ ?_
    ·
     intro X hX; obtain ⟨hBX, hI⟩ := hX; obtain ⟨c0, c1, c2, c3, c4, c5, c6, c7, c8, c9, c10, c11, c12, c13, c14⟩ := hI.cells; go_simp
    (try simp only [Act.put, zI, zJ, zK])
    refine tkI 3 18 (.int .i64 (k : Int)) ?_
    simp only [Act.put, zI, zJ, zK]
    refine tkI 4 19 (.pointer (some ⟨b, o + k * 4, none⟩)) ?_
    simp only [Act.put, zI, zJ, zK]
    refine tjI 5 20 (.agg (rlA r)) ?_ ?_
    ·
     intro X hX; obtain ⟨hBX, hI⟩ := hX; obtain ⟨d0, d1, d2, d3⟩ := HEK.out X hBX; go_simp
    (try simp only [Act.put, zI, zJ, zK])
    refine rYI 6 fun K hK => ?_
    go_simp
    refine (HFT.out _ hHeld0.1).mono ?_
    rintro e wq1 ⟨rfl, hq1⟩
    go_simp
    refine hK.out _ _ ((hHeld0).on hq1) (fun hHeld1 => ?_)
    clear hK K
    (try simp only [Act.put, zI, zJ, zK])
    refine tkI 7 22 (.bool false) ?_
    simp only [Act.put, zI, zJ, zK]
    refine wpAnyH_done (by kernel_rfl) ?_ _
    have HSE := hD (hHeld1.on (drew_below wq1))
    have HBF := hD (HBR.out.trans ((((drew_below wr).trans hq1).trans ((drew_below wq1).mono (((drew_below wr).trans hq1).size))).mono HBR.out.size))
    go_upto_region 8 with (fail)
    clear HFT f9 c9 hq1
    by_cases hk00 : k = 0
    ·
     have HSV := hD (HY.out (by rw [HA.out, hr, HZ.out hk00]; simp; exact HR0.out hr))
     clear HNO HY HA HPV HZ HR0 HWI HRG HEJ0
     have hk0' : ¬ (0 : Int) < (k : Int) := by omega
     subst hk00
     refine wp_region_held_drew (S := MSX w ⟨sg, nd, rp, sy, bk, fw, ⟨some ⟨b, o, none⟩, rlc⟩, sl, ini, fin, tl⟩ x) (by kernel_rfl) HSE.out (fun hHeld0 => ?_)
     refine tkI 0 23 (.int .i64 ((0 : Nat) : Int)) ?_
     simp only [Act.put, zI, zJ, zK]
     refine tkI 1 24 (.bool false) ?_
     simp only [Act.put, zI, zJ, zK]
     refine tkI 2 25 (.bool false) ?_
     simp only [Act.put, zI, zJ, zK]
     refine tnI 3 26 ?_
     simp only [Act.put, zI, zJ, zK]
     refine tnI 4 27 ?_
     simp only [Act.put, zI, zJ, zK]
     refine tnI 5 28 ?_
     simp only [Act.put, zI, zJ, zK]
     refine tnI 6 29 ?_
     simp only [Act.put, zI, zJ, zK]
     refine tnI 7 30 ?_
     simp only [Act.put, zI, zJ, zK]
     refine tnI 8 31 ?_
     simp only [Act.put, zI, zJ, zK]
     refine tnI 9 32 ?_
     simp only [Act.put, zI, zJ, zK]
     refine tnI 10 33 ?_
     simp only [Act.put, zI, zJ, zK]
     refine tnI 11 34 ?_
     simp only [Act.put, zI, zJ, zK]
     refine tnI 12 35 ?_
     simp only [Act.put, zI, zJ, zK]
     refine tnI 13 36 ?_
     simp only [Act.put, zI, zJ, zK]
     refine tnI 14 37 ?_
     simp only [Act.put, zI, zJ, zK]
     refine tnI 15 38 ?_
     simp only [Act.put, zI, zJ, zK]
     refine tnI 16 39 ?_
     simp only [Act.put, zI, zJ, zK]
     refine tnI 17 40 ?_
     simp only [Act.put, zI, zJ, zK]
     refine tnI 18 41 ?_
     simp only [Act.put, zI, zJ, zK]
     refine tnI 19 42 ?_
     simp only [Act.put, zI, zJ, zK]
     refine tnI 20 43 ?_
     simp only [Act.put, zI, zJ, zK]
     refine tnI 21 44 ?_
     simp only [Act.put, zI, zJ, zK]
     refine tnI 22 45 ?_
     simp only [Act.put, zI, zJ, zK]
     refine tnI 23 46 ?_
     simp only [Act.put, zI, zJ, zK]
     refine tnI 24 47 ?_
     simp only [Act.put, zI, zJ, zK]
     refine tnI 25 48 ?_
     simp only [Act.put, zI, zJ, zK]
     refine tkI 26 49 (.bool false) ?_
     simp only [Act.put, zI, zJ, zK]
     refine wpAnyH_done (by kernel_rfl) ?_ _
     go_wp2_with fail
     go_roundw
     case rel => exact ⟨1, by omega, by go_num, HBF.out, HSV.out⟩
     case measure => simp [intOf]; omega
    ·
     obtain ⟨j, hj⟩ : ∃ j, k = j + 1 := ⟨k - 1, by omega⟩
     obtain ⟨hyr, hla⟩ := HPV.out j hj
     have HWD := hD (HWI.out _ hyr)
     have hyg := HRG.out _ hyr
     have HEJ := hD (HEJ0.out j (by omega))
     generalize x.relocs.getD j noRl = y at *
     generalize wideI x y = wd at *
     have e2 : wrap64 (y.at_ + wd) = y.at_ + wd := wrap_in (by omega) (by omega)
     have e5 : IntKind.i64.wrap (y.at_ + wd) = y.at_ + wd := (wrap_i64 _).trans e2
     have hk0' : (0 : Int) < (k : Int) := by omega
     have e3 : wrap64 ((k : Int) - 1) = (k : Int) - 1 := wrap_in (by omega) (by omega)
     have hkt : ((k : Int) - 1).toNat = j := by omega
     have e4 : IntKind.i64.wrap ((k : Int) - 1) = (k : Int) - 1 := (wrap_i64 _).trans e3
     have hkn : 0 < k := by omega
     have hk11 : ¬ (k : Int) < 1 := by omega
     have hj0 : (0 : Int) ≤ (k : Int) - 1 := by omega
     have hj1 : (k : Int) - 1 < (x.relocs.length : Int) := by omega
     by_cases hlo : r.at_ < y.at_ + wd
     ·
      have HSV := hD (HNO.out (by rw [HA.out, hr, hla]; simp; omega))
      clear HNO HY HA HPV HZ HR0 HWI HRG HEJ0 hla hj hyr hyg
      refine wp_region_held_drew (S := MSX w ⟨sg, nd, rp, sy, bk, fw, ⟨some ⟨b, o, none⟩, rlc⟩, sl, ini, fin, tl⟩ x) (by kernel_rfl) HSE.out (fun hHeld0 => ?_)
      refine tkI 0 23 (.int .i64 (k : Int)) ?_
      simp only [Act.put, zI, zJ, zK]
      refine tkI 1 24 (.bool true) ?_
      simp only [Act.put, zI, zJ, zK]
      refine tkI 2 25 (.bool true) ?_
      simp only [Act.put, zI, zJ, zK]
      refine tkI 3 26 (.pointer (some ⟨w.heap.size, 9, none⟩)) ?_
      simp only [Act.put, zI, zJ, zK]
      refine tjI 4 27 (.slice (some ⟨b, o, none⟩) x.relocs.length rlc) ?_ ?_
      ·
       intro X hX; obtain ⟨hBX, hI⟩ := hX; obtain ⟨c0, c1, c2, c3, c4, c5, c6, c7, c8, c9, c10, c11, c12, c13, c14⟩ := hI.cells; go_simp
      (try simp only [Act.put, zI, zJ, zK])
      refine tkI 5 28 (.int .i64 (k : Int)) ?_
      simp only [Act.put, zI, zJ, zK]
      refine tkI 6 29 (.pointer (some ⟨b, o + k * 4, none⟩)) ?_
      simp only [Act.put, zI, zJ, zK]
      refine tkI 7 30 (.pointer (some ⟨b, o + k * 4, none⟩)) ?_
      simp only [Act.put, zI, zJ, zK]
      refine tjI 8 31 (.int .i64 r.at_) ?_ ?_
      ·
       intro X hX; obtain ⟨hBX, hI⟩ := hX; obtain ⟨d0, d1, d2, d3⟩ := HEK.out X hBX; go_simp
      (try simp only [Act.put, zI, zJ, zK])
      refine tkI 9 32 (.pointer (some ⟨w.heap.size, 9, none⟩)) ?_
      simp only [Act.put, zI, zJ, zK]
      refine tjI 10 33 (.slice (some ⟨b, o, none⟩) x.relocs.length rlc) ?_ ?_
      ·
       intro X hX; obtain ⟨hBX, hI⟩ := hX; obtain ⟨c0, c1, c2, c3, c4, c5, c6, c7, c8, c9, c10, c11, c12, c13, c14⟩ := hI.cells; go_simp
      (try simp only [Act.put, zI, zJ, zK])
      refine tkI 11 34 (.int .i64 (k : Int)) ?_
      simp only [Act.put, zI, zJ, zK]
      refine tkI 12 35 (.int .i64 ((k : Int) - 1)) ?_
      simp only [Act.put, zI, zJ, zK]
      refine tkI 13 36 (.pointer (some ⟨b, o + j * 4, none⟩)) ?_
      simp only [Act.put, zI, zJ, zK]
      refine tkI 14 37 (.pointer (some ⟨b, o + j * 4, none⟩)) ?_
      simp only [Act.put, zI, zJ, zK]
      refine tjI 15 38 (.int .i64 y.at_) ?_ ?_
      ·
       intro X hX; obtain ⟨hBX, hI⟩ := hX; obtain ⟨d0, d1, d2, d3⟩ := HEJ.out X hBX; go_simp
      (try simp only [Act.put, zI, zJ, zK])
      refine tjI 16 39 (imV ⟨sg, nd, rp, sy, bk, fw, ⟨some ⟨b, o, none⟩, rlc⟩, sl, ini, fin, tl⟩ x) ?_ ?_
      ·
       intro X hX; obtain ⟨hBX, hI⟩ := hX; obtain ⟨c0, c1, c2, c3, c4, c5, c6, c7, c8, c9, c10, c11, c12, c13, c14⟩ := hI.cells; go_simp
      (try simp only [Act.put, zI, zJ, zK])
      refine tkI 17 40 (.pointer (some ⟨w.heap.size, 9, none⟩)) ?_
      simp only [Act.put, zI, zJ, zK]
      refine tjI 18 41 (.slice (some ⟨b, o, none⟩) x.relocs.length rlc) ?_ ?_
      ·
       intro X hX; obtain ⟨hBX, hI⟩ := hX; obtain ⟨c0, c1, c2, c3, c4, c5, c6, c7, c8, c9, c10, c11, c12, c13, c14⟩ := hI.cells; go_simp
      (try simp only [Act.put, zI, zJ, zK])
      refine tkI 19 42 (.int .i64 (k : Int)) ?_
      simp only [Act.put, zI, zJ, zK]
      refine tkI 20 43 (.int .i64 ((k : Int) - 1)) ?_
      simp only [Act.put, zI, zJ, zK]
      refine tkI 21 44 (.pointer (some ⟨b, o + j * 4, none⟩)) ?_
      simp only [Act.put, zI, zJ, zK]
      refine tjI 22 45 (.agg (rlA y)) ?_ ?_
      ·
       intro X hX; obtain ⟨hBX, hI⟩ := hX; obtain ⟨d0, d1, d2, d3⟩ := HEJ.out X hBX; go_simp
      (try simp only [Act.put, zI, zJ, zK])
      refine rYI 23 fun K hK => ?_
      go_simp
      refine (HWD.out _ hHeld0.1).mono ?_
      rintro e wq1 ⟨rfl, hq1⟩
      go_simp
      refine hK.out _ _ ((hHeld0).on hq1) (fun hHeld1 => ?_)
      clear hK K
      (try simp only [Act.put, zI, zJ, zK])
      refine tkI 24 47 (.int .i64 (y.at_ + wd)) ?_
      simp only [Act.put, zI, zJ, zK]
      refine tkI 25 48 (.bool true) ?_
      simp only [Act.put, zI, zJ, zK]
      refine tkI 26 49 (.bool true) ?_
      simp only [Act.put, zI, zJ, zK]
      refine wpAnyH_done (by kernel_rfl) ?_ _
      clear e2 e3 e4 e5 hkt
      go_wp2_with fail
      go_ret
      exact ⟨by rw [HSV.out]; rfl, hHeld1.1⟩
     ·
      have HSV := hD (HY.out (by rw [HA.out, hr, hla]; simp; omega))
      clear HNO HY HA HPV HZ HR0 HWI HRG HEJ0 hla hj hyr hyg
      refine wp_region_held_drew (S := MSX w ⟨sg, nd, rp, sy, bk, fw, ⟨some ⟨b, o, none⟩, rlc⟩, sl, ini, fin, tl⟩ x) (by kernel_rfl) HSE.out (fun hHeld0 => ?_)
      refine tkI 0 23 (.int .i64 (k : Int)) ?_
      simp only [Act.put, zI, zJ, zK]
      refine tkI 1 24 (.bool true) ?_
      simp only [Act.put, zI, zJ, zK]
      refine tkI 2 25 (.bool true) ?_
      simp only [Act.put, zI, zJ, zK]
      refine tkI 3 26 (.pointer (some ⟨w.heap.size, 9, none⟩)) ?_
      simp only [Act.put, zI, zJ, zK]
      refine tjI 4 27 (.slice (some ⟨b, o, none⟩) x.relocs.length rlc) ?_ ?_
      ·
       intro X hX; obtain ⟨hBX, hI⟩ := hX; obtain ⟨c0, c1, c2, c3, c4, c5, c6, c7, c8, c9, c10, c11, c12, c13, c14⟩ := hI.cells; go_simp
      (try simp only [Act.put, zI, zJ, zK])
      refine tkI 5 28 (.int .i64 (k : Int)) ?_
      simp only [Act.put, zI, zJ, zK]
      refine tkI 6 29 (.pointer (some ⟨b, o + k * 4, none⟩)) ?_
      simp only [Act.put, zI, zJ, zK]
      refine tkI 7 30 (.pointer (some ⟨b, o + k * 4, none⟩)) ?_
      simp only [Act.put, zI, zJ, zK]
      refine tjI 8 31 (.int .i64 r.at_) ?_ ?_
      ·
       intro X hX; obtain ⟨hBX, hI⟩ := hX; obtain ⟨d0, d1, d2, d3⟩ := HEK.out X hBX; go_simp
      (try simp only [Act.put, zI, zJ, zK])
      refine tkI 9 32 (.pointer (some ⟨w.heap.size, 9, none⟩)) ?_
      simp only [Act.put, zI, zJ, zK]
      refine tjI 10 33 (.slice (some ⟨b, o, none⟩) x.relocs.length rlc) ?_ ?_
      ·
       intro X hX; obtain ⟨hBX, hI⟩ := hX; obtain ⟨c0, c1, c2, c3, c4, c5, c6, c7, c8, c9, c10, c11, c12, c13, c14⟩ := hI.cells; go_simp
      (try simp only [Act.put, zI, zJ, zK])
      refine tkI 11 34 (.int .i64 (k : Int)) ?_
      simp only [Act.put, zI, zJ, zK]
      refine tkI 12 35 (.int .i64 ((k : Int) - 1)) ?_
      simp only [Act.put, zI, zJ, zK]
      refine tkI 13 36 (.pointer (some ⟨b, o + j * 4, none⟩)) ?_
      simp only [Act.put, zI, zJ, zK]
      refine tkI 14 37 (.pointer (some ⟨b, o + j * 4, none⟩)) ?_
      simp only [Act.put, zI, zJ, zK]
      refine tjI 15 38 (.int .i64 y.at_) ?_ ?_
      ·
       intro X hX; obtain ⟨hBX, hI⟩ := hX; obtain ⟨d0, d1, d2, d3⟩ := HEJ.out X hBX; go_simp
      (try simp only [Act.put, zI, zJ, zK])
      refine tjI 16 39 (imV ⟨sg, nd, rp, sy, bk, fw, ⟨some ⟨b, o, none⟩, rlc⟩, sl, ini, fin, tl⟩ x) ?_ ?_
      ·
       intro X hX; obtain ⟨hBX, hI⟩ := hX; obtain ⟨c0, c1, c2, c3, c4, c5, c6, c7, c8, c9, c10, c11, c12, c13, c14⟩ := hI.cells; go_simp
      (try simp only [Act.put, zI, zJ, zK])
      refine tkI 17 40 (.pointer (some ⟨w.heap.size, 9, none⟩)) ?_
      simp only [Act.put, zI, zJ, zK]
      refine tjI 18 41 (.slice (some ⟨b, o, none⟩) x.relocs.length rlc) ?_ ?_
      ·
       intro X hX; obtain ⟨hBX, hI⟩ := hX; obtain ⟨c0, c1, c2, c3, c4, c5, c6, c7, c8, c9, c10, c11, c12, c13, c14⟩ := hI.cells; go_simp
      (try simp only [Act.put, zI, zJ, zK])
      refine tkI 19 42 (.int .i64 (k : Int)) ?_
      simp only [Act.put, zI, zJ, zK]
      refine tkI 20 43 (.int .i64 ((k : Int) - 1)) ?_
      simp only [Act.put, zI, zJ, zK]
      refine tkI 21 44 (.pointer (some ⟨b, o + j * 4, none⟩)) ?_
      simp only [Act.put, zI, zJ, zK]
      refine tjI 22 45 (.agg (rlA y)) ?_ ?_
      ·
       intro X hX; obtain ⟨hBX, hI⟩ := hX; obtain ⟨d0, d1, d2, d3⟩ := HEJ.out X hBX; go_simp
      (try simp only [Act.put, zI, zJ, zK])
      refine rYI 23 fun K hK => ?_
      go_simp
      refine (HWD.out _ hHeld0.1).mono ?_
      rintro e wq1 ⟨rfl, hq1⟩
      go_simp
      refine hK.out _ _ ((hHeld0).on hq1) (fun hHeld1 => ?_)
      clear hK K
      (try simp only [Act.put, zI, zJ, zK])
      refine tkI 24 47 (.int .i64 (y.at_ + wd)) ?_
      simp only [Act.put, zI, zJ, zK]
      refine tkI 25 48 (.bool false) ?_
      simp only [Act.put, zI, zJ, zK]
      refine tkI 26 49 (.bool false) ?_
      simp only [Act.put, zI, zJ, zK]
      refine wpAnyH_done (by kernel_rfl) ?_ _
      have HBG := hD (HBF.out.trans (hq1.mono HBF.out.size))
      clear e2 e3 e4 e5 hkt
      go_wp2_with fail
      go_roundw
      case rel => exact ⟨k + 1, by omega, by go_num, HBG.out, HSV.out⟩
      case measure => simp [intOf]; omega
   ·
    obtain rfl : k = x.relocs.length := by omega
    go_wp2_with fail
    go_ret
    exact ⟨by rw [HF2.out, HE.out]; rfl, HSR.out.1⟩
 ·
  have hl' : (512 : Int) < (x.relocs.length : Int) := by omega
  have HV := hD (show bb = false by rw [HF.out, decide_eq_false hl]; rfl)
  go_wp2
  go_ret
  exact ⟨by rw [HV.out]; rfl, HS0.out.1⟩
end Go.Proofs.YtfljignkjmabpaaGreat
