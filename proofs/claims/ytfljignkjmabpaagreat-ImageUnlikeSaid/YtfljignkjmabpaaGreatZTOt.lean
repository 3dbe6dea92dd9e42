/-
  Images in which a number is another one have unlike bytes: the walk of the law.
  How symbols come in: by value, and in slices.
  How tables come in.
-/
import Derived.Test.YtfljignkjmabpaaGreatZUl
import Derived.StillTailTactics
import Derived.Test.YtfljignkjmabpaaGreatZCZb
import Derived.Test.YtfljignkjmabpaaGreatZCA
import Derived.Test.YtfljignkjmabpaaGreatZTI
namespace Go.Proofs.YtfljignkjmabpaaGreat
set_option maxRecDepth 100000
set_option linter.unusedSimpArgs false
set_option linter.unusedVariables false
open Go.RowKit

theorem poke_all {w w4 : World} {g B n c : Nat} {A : Option Addr} {cs : List Value} {p : Pl} {x : Im} (j : Nat) (v : Value) (hg : w.heap.size ≤ g) (hi : ImIn w4 (fun k => k < w.heap.size) p x) (ho : w4.ownsRow B 5 1 (.slice A n c) n cs) (hne : ∀ k, (Value.slice A n c).ownBlock = some k → k ≠ g) (hb : Below w.heap.size w w4) :
    ImIn (w4.setCell ⟨g, j, none⟩ v) (fun k => k < w.heap.size) p x ∧ (w4.setCell ⟨g, j, none⟩ v).ownsRow B 5 1 (.slice A n c) n cs ∧ Below w.heap.size w (w4.setCell ⟨g, j, none⟩ v) := by
  refine ⟨hi.keep fun k hk _ => Below.heap_setCell w4 ⟨g, j, none⟩ v k (by show k ≠ g; omega), ?_, hb.setCell (p := ⟨g, j, none⟩) hg v⟩
  refine ho.kept (row := some g) ⟨rfl, rfl, rfl, by simp [World.setCell], fun k _ hn => Below.heap_setCell w4 ⟨g, j, none⟩ v k (fun e => hn (by rw [e]))⟩ ?_
  cases hq : (Value.slice A n c).ownBlock with
  | none => exact .inl rfl
  | some k => exact .inr fun e => hne k hq (by injection e)
theorem imIn_flags {w : World} {Q : Nat → Prop} {p : Pl} {x : Im} (h : ImIn w Q p x) (m : Nat) : ImIn w Q p (flagsX x m) := ⟨h.segs, h.needed, h.run, h.syms, h.tab, h.relocs, h.slots, h.init, h.fini, h.tls⟩
theorem imIn_tls {w : World} {Q : Nat → Prop} {p : Pl} {x : Im} (h : ImIn w Q p x) (m : Nat) : ImIn w Q p (tlsX x m) := ⟨h.segs, h.needed, h.run, h.syms, h.tab, h.relocs, h.slots, h.init, h.fini, h.tls⟩
theorem imIn_name {w : World} {Q : Nat → Prop} {p : Pl} {x : Im} (h : ImIn w Q p x) : ImIn w Q p (nameX x) := ⟨h.segs, h.needed, h.run, h.syms, h.tab, h.relocs, h.slots, h.init, h.fini, h.tls⟩
set_option maxHeartbeats 8000000 in
theorem unlike_no (p : Pl) (x : Im) (a1 : UInt8) (a2 : Int) (w : World) (h : ImIn w (fun k => k < w.heap.size) p x) (hf : Fit x) (hm : mayE x ≠ 0) :
    Calls Tryz.prog 4 #[imV p x, .int .u8 (a1.toNat : Int), .int .i64 a2] w fun e w' => e = .returned (.bool true) ∧ Below w.heap.size w w' := by
  have HS0 := Lib.hid (show Below w.heap.size w (w.alloc (.cells (imA p x) 40)) ∧ Ix (w.alloc (.cells (imA p x) 40)) w.heap.size p x from ⟨ibox_below _ _ _, Ix.new _ _ _⟩)
  have HEN := Lib.hid (fun (X : World) (hX : Below w.heap.size w X) => encode_no p x X (h.lt hX) hf hm)
  have hm0 : (mayE x == 0) = false := by simpa using hm
  have hm1 : (mayE x != 0) = true := by simpa using hm
  clear h hf hm
  generalize mayE x = m at *
  go_enter Tryz.func4, Tryz.ntmps4
  go_upto_region 1 with (fail)
  change Code.wp _ _ _ _ (w.alloc (.cells (imA p x) 40))
  generalize w.alloc (.cells (imA p x) 40) = w1 at *
  go_upto_region 2 with (go_at_call 5; (with_reducible refine (iawake_any _).mono ?_); rintro en w2 ⟨rfl, hb2⟩; have HX2 := Lib.hid (HS0.out.2.below hb2); have HB2 := Lib.hid (HS0.out.1.trans (hb2.mono HS0.out.1.size)); clear hb2)
  have HE2 := Lib.hid (HEN.out w2 HB2.out)
  refine wp_region_lit ?_
  refine wpl_load_im HX2.out rfl ?_
  go_wp2_with (go_at_call 12; (with_reducible refine (HE2.out).mono ?_); rintro en w3 ⟨rfl, hb3⟩; have HB3 := Lib.hid (HB2.out.trans (hb3.mono HB2.out.size)); clear hb3)
  go_ret
  exact ⟨rfl, HB3.out⟩
set_option maxHeartbeats 8000000 in
theorem unlike_0 (p : Pl) (x : Im) (a1 : UInt8) (a2 : Int) (w : World) (h : ImIn w (fun k => k < w.heap.size) p x) (hf : Fit x) (hm : mayE x = 0) (h0 : (a2 == 0) = false) (hI : I64 a2) (hk : (a1.toNat : Int).tmod 4 = 0) :
    Calls Tryz.prog 4 #[imV p x, .int .u8 (a1.toNat : Int), .int .i64 a2] w fun e w' => e = .returned (.bool true) ∧ Below w.heap.size w w' := by
  obtain ⟨u, hu⟩ : ∃ u : Nat, IntKind.u64.wrap a2 = (u : Int) := ⟨(IntKind.u64.wrap a2).toNat, by rw [IntKind.wrap_u64]; omega⟩
  have hul : u < 18446744073709551616 := by have := hu; rw [IntKind.wrap_u64] at this; omega
  have hrm : (u : Int).tmod 15 = ((u % 15 : Nat) : Int) := by rw [Int.tmod_eq_emod_of_nonneg (by omega)]; rfl
  have hmm : u % 15 < 15 := Nat.mod_lt _ (by decide)
  have HS0 := Lib.hid (show Below w.heap.size w (w.alloc (.cells (imA p x) 40)) ∧ Ix (w.alloc (.cells (imA p x) 40)) w.heap.size p x from ⟨ibox_below _ _ _, Ix.new _ _ _⟩)
  have HEN := Lib.hid (fun (X : World) (hX : Below w.heap.size w X) => encode_yes p x X (h.lt hX) hf hm)
  have HI := Lib.hid h
  have HFX := Lib.hid hf
  have HM := Lib.hid hm
  have HL := Lib.hid (form_ok hm hf).2.2
  have HRG := Lib.hid (ok_rg (may_ok hm))
  clear h hf hm
  generalize hfl : formL x = l at *
  have HFL := Lib.hid hfl
  clear hfl
  go_enter Tryz.func4, Tryz.ntmps4
  go_upto_region 1 with (fail)
  change Code.wp _ _ _ _ (w.alloc (.cells (imA p x) 40))
  generalize w.alloc (.cells (imA p x) 40) = w1 at *
  go_upto_region 2 with (go_at_call 5; (with_reducible refine (iawake_any _).mono ?_); rintro en w2 ⟨rfl, hb2⟩; have HX2 := Lib.hid (HS0.out.2.below hb2); have HB2 := Lib.hid (HS0.out.1.trans (hb2.mono HS0.out.1.size)); clear hb2)
  have HE2 := Lib.hid (HEN.out w2 HB2.out)
  refine wp_region_lit ?_
  refine wpl_load_im HX2.out rfl ?_
  go_upto_region 5 with (go_at_call 12; (with_reducible refine (HE2.out).mono ?_); rintro en w3 ⟨A3, c3, rfl, ho3, hb3⟩; have HX3 := Lib.hid (HX2.out.below hb3); have HB3 := Lib.hid (HB2.out.trans (hb3.mono HB2.out.size)); have HO3 := Lib.hid ho3; clear hb3 ho3)
  clear HE2 HEN HX2
  refine wp_region_lit ?_
  refine wpl_load_im HX3.out rfl ?_
  refine wpList_plain rfl fun K hK => ?_
  go_simp
  refine hK _ _ ?_
  clear hK K
  have hbz : Below w3.heap.size w3 (w3.alloc (.cells zIm 40)) := (Below.refl _ _).alloc (Nat.le_refl _) _
  have hxz : Bx (w3.alloc (.cells zIm 40)) w3.heap.size zIm 40 := Bx.new _ _ _
  refine wpl_store_im hxz rfl (cs := imA p x) rfl (by simp [Value.oneCell']) rfl rfl ?_
  have hx3l := HX3.out.lt
  have hw3 : w.heap.size ≤ w3.heap.size := HB3.out.size
  have HY := Lib.hid (show Ix ((w3.alloc (.cells zIm 40)).setRow w3.heap.size (imA p x)) w3.heap.size p x from ⟨setRow_heap _ w3.heap.size zIm (imA p x) 40 (0, 0) hxz⟩)
  have HX4 := Lib.hid (show Ix ((w3.alloc (.cells zIm 40)).setRow w3.heap.size (imA p x)) w.heap.size p x from ⟨(setRow_other _ w3.heap.size w.heap.size (imA p x) (by omega)).trans (HX3.out.below hbz).bx⟩)
  have HBR := Lib.hid (below_row hbz (Nat.le_refl _) (imA p x))
  have HB4 := Lib.hid (HB3.out.trans (HBR.out.mono HB3.out.size))
  have HO4 := Lib.hid (Siv.own_below HO3.out HBR.out)
  have hs4 : ((w3.alloc (.cells zIm 40)).setRow w3.heap.size (imA p x)).heap.size = w3.heap.size + 1 := by rw [setRow_size]; simp
  have HI4 := Lib.hid (HI.out.keep fun k hk _ => HB4.out.block k hk)
  have HOL := Lib.hid (fun k (hk : (Value.slice A3 l.length c3).ownBlock = some k) => show k < w3.heap.size from (HO3.out.lt k hk).2)
  clear hbz hxz HX3 HB3 HO3 HBR
  generalize (w3.alloc (.cells zIm 40)).setRow w3.heap.size (imA p x) = w4 at *
  obtain ⟨c0, c1, c2, c3', c4, c5, c6, c7, c8, c9, c10, c11, c12, c13, c14⟩ := HX4.out.cells
  obtain ⟨d0, d1, d2, d3, d4, d5, d6, d7, d8, d9, d10, d11, d12, d13, d14⟩ := HY.out.cells
  have fz := fun j => HY.out.bx.f j
  have f0 := fz 0
  have f1 := fz 1
  have f7 := fz 7
  have f8 := fz 8
  have f14 := fz 14
  clear fz
  have hrg := HRG.out.flags
  have HXR := Lib.hid (show bits .xor .i64 x.flags (1 + (u : Int) % 15) = ((x.flags.toNat ^^^ (1 + u % 15) : Nat) : Int) by
    obtain ⟨F, hF⟩ : ∃ F : Nat, x.flags = (F : Int) := ⟨x.flags.toNat, by omega⟩
    rw [hF, show (1 + (u : Int) % 15) = ((1 + u % 15 : Nat) : Int) by omega, i64_xor_nat _ _ (by omega) (by omega)]
    rfl)
  clear hrg
  go_upto_region 16 with (fail)
  rw [HXR.out]
  have hpk := poke_all 1 (.int .i64 ((x.flags.toNat ^^^ (1 + u % 15) : Nat) : Int)) hw3 HI4.out HO4.out (fun k hk => Nat.ne_of_lt (HOL.out k hk)) HB4.out
  have HXY := Lib.hid (show Ix (w4.setCell ⟨w3.heap.size, 1, none⟩ (.int .i64 ((x.flags.toNat ^^^ (1 + u % 15) : Nat) : Int))) w3.heap.size p (flagsX x (1 + u % 15)) from ⟨heap_setCell_same w4 w3.heap.size 1 _ _ _ HY.out.bx⟩)
  clear c0 c1 c2 c3' c4 c5 c6 c7 c8 c9 c10 c11 c12 c13 c14 d0 d1 d2 d3 d4 d5 d6 d7 d8 d9 d10 d11 d12 d13 d14 f0 f1 f7 f8 f14 HX4 HY
  generalize w4.setCell ⟨w3.heap.size, 1, none⟩ (.int .i64 ((x.flags.toNat ^^^ (1 + u % 15) : Nat) : Int)) = W at *
  have HBY := Lib.hid hpk.2.2
  have HOY := Lib.hid hpk.2.1
  have HIY := Lib.hid (imIn_flags (hpk.1.weak (fun k hk => Nat.lt_of_lt_of_le hk hpk.2.2.size)) (1 + u % 15))
  have HFY := Lib.hid (flagsX_fit HFX.out HRG.out (m := 1 + u % 15) (by omega))
  have HNE := Lib.hid (flagsX_ne (x := x) (m := 1 + u % 15) (by omega) (by have := HRG.out.flags; omega))
  clear hpk
  go_upto_region 16 with (fail)
  by_cases hy : mayE (flagsX x (1 + u % 15)) = 0
  · have HE := Lib.hid (encode_yes (p) (flagsX x (1 + u % 15)) W HIY.out HFY.out hy)
    have HNL := Lib.hid (form_unlike HM.out HFX.out hy HFY.out HNE.out)
    have HLY := Lib.hid (form_ok hy HFY.out).2.2
    rw [HFL.out] at HNL
    generalize formL (flagsX x (1 + u % 15)) = ly at *
    clear hy
    refine wp_region_lit ?_
    refine wpl_load_im HXY.out rfl ?_
    go_upto_region 17 with (go_at_call 12; (with_reducible refine (HE.out).mono ?_); rintro en w8 ⟨A8, c8, rfl, ho8, hb8⟩; have HO8 := Lib.hid ho8; have HB8 := Lib.hid (HBY.out.trans (hb8.mono HBY.out.size)); have HOX := Lib.hid (Siv.own_below HOY.out hb8); clear hb8 ho8)
    have hcv1 := conv_string (Src.of_own HOX.out)
    have hcv2 := conv_string (Src.of_own HO8.out)
    have hll : (l == ly) = false := by simpa using HNL.out
    go_upto_region 99 with (fail)
    first | go_ret | skip
    exact ⟨by simp [hll], HB8.out⟩
  · have HE := Lib.hid (encode_no (p) (flagsX x (1 + u % 15)) W HIY.out HFY.out hy)
    have hm1 : (mayE (flagsX x (1 + u % 15)) != 0) = true := by simpa using hy
    have hm2 : (mayE (flagsX x (1 + u % 15)) == 0) = false := by simpa using hy
    generalize mayE (flagsX x (1 + u % 15)) = m at *
    refine wp_region_lit ?_
    refine wpl_load_im HXY.out rfl ?_
    go_upto_region 17 with (go_at_call 12; (with_reducible refine (HE.out).mono ?_); rintro en w8 ⟨rfl, hb8⟩; have HB8 := Lib.hid (HBY.out.trans (hb8.mono HBY.out.size)); clear hb8)
    go_upto_region 99 with (fail)
    first | go_ret | skip
    exact ⟨rfl, HB8.out⟩
set_option maxHeartbeats 8000000 in
theorem unlike_1 (p : Pl) (x : Im) (a1 : UInt8) (a2 : Int) (w : World) (h : ImIn w (fun k => k < w.heap.size) p x) (hf : Fit x) (hm : mayE x = 0) (h0 : (a2 == 0) = false) (hI : I64 a2) (hk : (a1.toNat : Int).tmod 4 = 1) :
    Calls Tryz.prog 4 #[imV p x, .int .u8 (a1.toNat : Int), .int .i64 a2] w fun e w' => e = .returned (.bool true) ∧ Below w.heap.size w w' := by
  obtain ⟨u, hu⟩ : ∃ u : Nat, IntKind.u64.wrap a2 = (u : Int) := ⟨(IntKind.u64.wrap a2).toNat, by rw [IntKind.wrap_u64]; omega⟩
  have hul : u < 18446744073709551616 := by have := hu; rw [IntKind.wrap_u64] at this; omega
  have hrm : (u : Int).tmod 1000 = ((u % 1000 : Nat) : Int) := by rw [Int.tmod_eq_emod_of_nonneg (by omega)]; rfl
  have hmm : u % 1000 < 1000 := Nat.mod_lt _ (by decide)
  have HS0 := Lib.hid (show Below w.heap.size w (w.alloc (.cells (imA p x) 40)) ∧ Ix (w.alloc (.cells (imA p x) 40)) w.heap.size p x from ⟨ibox_below _ _ _, Ix.new _ _ _⟩)
  have HEN := Lib.hid (fun (X : World) (hX : Below w.heap.size w X) => encode_yes p x X (h.lt hX) hf hm)
  have HI := Lib.hid h
  have HFX := Lib.hid hf
  have HM := Lib.hid hm
  have HL := Lib.hid (form_ok hm hf).2.2
  have HRG := Lib.hid (ok_rg (may_ok hm))
  clear h hf hm
  generalize hfl : formL x = l at *
  have HFL := Lib.hid hfl
  clear hfl
  go_enter Tryz.func4, Tryz.ntmps4
  go_upto_region 1 with (fail)
  change Code.wp _ _ _ _ (w.alloc (.cells (imA p x) 40))
  generalize w.alloc (.cells (imA p x) 40) = w1 at *
  go_upto_region 2 with (go_at_call 5; (with_reducible refine (iawake_any _).mono ?_); rintro en w2 ⟨rfl, hb2⟩; have HX2 := Lib.hid (HS0.out.2.below hb2); have HB2 := Lib.hid (HS0.out.1.trans (hb2.mono HS0.out.1.size)); clear hb2)
  have HE2 := Lib.hid (HEN.out w2 HB2.out)
  refine wp_region_lit ?_
  refine wpl_load_im HX2.out rfl ?_
  go_upto_region 5 with (go_at_call 12; (with_reducible refine (HE2.out).mono ?_); rintro en w3 ⟨A3, c3, rfl, ho3, hb3⟩; have HX3 := Lib.hid (HX2.out.below hb3); have HB3 := Lib.hid (HB2.out.trans (hb3.mono HB2.out.size)); have HO3 := Lib.hid ho3; clear hb3 ho3)
  clear HE2 HEN HX2
  refine wp_region_lit ?_
  refine wpl_load_im HX3.out rfl ?_
  refine wpList_plain rfl fun K hK => ?_
  go_simp
  refine hK _ _ ?_
  clear hK K
  have hbz : Below w3.heap.size w3 (w3.alloc (.cells zIm 40)) := (Below.refl _ _).alloc (Nat.le_refl _) _
  have hxz : Bx (w3.alloc (.cells zIm 40)) w3.heap.size zIm 40 := Bx.new _ _ _
  refine wpl_store_im hxz rfl (cs := imA p x) rfl (by simp [Value.oneCell']) rfl rfl ?_
  have hx3l := HX3.out.lt
  have hw3 : w.heap.size ≤ w3.heap.size := HB3.out.size
  have HY := Lib.hid (show Ix ((w3.alloc (.cells zIm 40)).setRow w3.heap.size (imA p x)) w3.heap.size p x from ⟨setRow_heap _ w3.heap.size zIm (imA p x) 40 (0, 0) hxz⟩)
  have HX4 := Lib.hid (show Ix ((w3.alloc (.cells zIm 40)).setRow w3.heap.size (imA p x)) w.heap.size p x from ⟨(setRow_other _ w3.heap.size w.heap.size (imA p x) (by omega)).trans (HX3.out.below hbz).bx⟩)
  have HBR := Lib.hid (below_row hbz (Nat.le_refl _) (imA p x))
  have HB4 := Lib.hid (HB3.out.trans (HBR.out.mono HB3.out.size))
  have HO4 := Lib.hid (Siv.own_below HO3.out HBR.out)
  have hs4 : ((w3.alloc (.cells zIm 40)).setRow w3.heap.size (imA p x)).heap.size = w3.heap.size + 1 := by rw [setRow_size]; simp
  have HI4 := Lib.hid (HI.out.keep fun k hk _ => HB4.out.block k hk)
  have HOL := Lib.hid (fun k (hk : (Value.slice A3 l.length c3).ownBlock = some k) => show k < w3.heap.size from (HO3.out.lt k hk).2)
  clear hbz hxz HX3 HB3 HO3 HBR
  generalize (w3.alloc (.cells zIm 40)).setRow w3.heap.size (imA p x) = w4 at *
  obtain ⟨c0, c1, c2, c3', c4, c5, c6, c7, c8, c9, c10, c11, c12, c13, c14⟩ := HX4.out.cells
  obtain ⟨d0, d1, d2, d3, d4, d5, d6, d7, d8, d9, d10, d11, d12, d13, d14⟩ := HY.out.cells
  have fz := fun j => HY.out.bx.f j
  have f0 := fz 0
  have f1 := fz 1
  have f7 := fz 7
  have f8 := fz 8
  have f14 := fz 14
  clear fz
  have hrg := HRG.out.tlsSize
  have HXR := Lib.hid (show bits .xor .i64 x.tlsSize (1 + (u : Int) % 1000) = ((x.tlsSize.toNat ^^^ (1 + u % 1000) : Nat) : Int) by
    obtain ⟨F, hF⟩ : ∃ F : Nat, x.tlsSize = (F : Int) := ⟨x.tlsSize.toNat, by omega⟩
    rw [hF, show (1 + (u : Int) % 1000) = ((1 + u % 1000 : Nat) : Int) by omega, i64_xor_nat _ _ (by omega) (by omega)]
    rfl)
  clear hrg
  go_upto_region 16 with (fail)
  rw [HXR.out]
  have hpk := poke_all 14 (.int .i64 ((x.tlsSize.toNat ^^^ (1 + u % 1000) : Nat) : Int)) hw3 HI4.out HO4.out (fun k hk => Nat.ne_of_lt (HOL.out k hk)) HB4.out
  have HXY := Lib.hid (show Ix (w4.setCell ⟨w3.heap.size, 14, none⟩ (.int .i64 ((x.tlsSize.toNat ^^^ (1 + u % 1000) : Nat) : Int))) w3.heap.size p (tlsX x (1 + u % 1000)) from ⟨heap_setCell_same w4 w3.heap.size 14 _ _ _ HY.out.bx⟩)
  clear c0 c1 c2 c3' c4 c5 c6 c7 c8 c9 c10 c11 c12 c13 c14 d0 d1 d2 d3 d4 d5 d6 d7 d8 d9 d10 d11 d12 d13 d14 f0 f1 f7 f8 f14 HX4 HY
  generalize w4.setCell ⟨w3.heap.size, 14, none⟩ (.int .i64 ((x.tlsSize.toNat ^^^ (1 + u % 1000) : Nat) : Int)) = W at *
  have HBY := Lib.hid hpk.2.2
  have HOY := Lib.hid hpk.2.1
  have HIY := Lib.hid (imIn_tls (hpk.1.weak (fun k hk => Nat.lt_of_lt_of_le hk hpk.2.2.size)) (1 + u % 1000))
  have HFY := Lib.hid (tlsX_fit HFX.out HRG.out (m := 1 + u % 1000) (by omega))
  have HNE := Lib.hid (tlsX_ne (x := x) (m := 1 + u % 1000) (by omega) (by have := HRG.out.tlsSize; omega))
  clear hpk
  go_upto_region 16 with (fail)
  by_cases hy : mayE (tlsX x (1 + u % 1000)) = 0
  · have HE := Lib.hid (encode_yes (p) (tlsX x (1 + u % 1000)) W HIY.out HFY.out hy)
    have HNL := Lib.hid (form_unlike HM.out HFX.out hy HFY.out HNE.out)
    have HLY := Lib.hid (form_ok hy HFY.out).2.2
    rw [HFL.out] at HNL
    generalize formL (tlsX x (1 + u % 1000)) = ly at *
    clear hy
    refine wp_region_lit ?_
    refine wpl_load_im HXY.out rfl ?_
    go_upto_region 17 with (go_at_call 12; (with_reducible refine (HE.out).mono ?_); rintro en w8 ⟨A8, c8, rfl, ho8, hb8⟩; have HO8 := Lib.hid ho8; have HB8 := Lib.hid (HBY.out.trans (hb8.mono HBY.out.size)); have HOX := Lib.hid (Siv.own_below HOY.out hb8); clear hb8 ho8)
    have hcv1 := conv_string (Src.of_own HOX.out)
    have hcv2 := conv_string (Src.of_own HO8.out)
    have hll : (l == ly) = false := by simpa using HNL.out
    go_upto_region 99 with (fail)
    first | go_ret | skip
    exact ⟨by simp [hll], HB8.out⟩
  · have HE := Lib.hid (encode_no (p) (tlsX x (1 + u % 1000)) W HIY.out HFY.out hy)
    have hm1 : (mayE (tlsX x (1 + u % 1000)) != 0) = true := by simpa using hy
    have hm2 : (mayE (tlsX x (1 + u % 1000)) == 0) = false := by simpa using hy
    generalize mayE (tlsX x (1 + u % 1000)) = m at *
    refine wp_region_lit ?_
    refine wpl_load_im HXY.out rfl ?_
    go_upto_region 17 with (go_at_call 12; (with_reducible refine (HE.out).mono ?_); rintro en w8 ⟨rfl, hb8⟩; have HB8 := Lib.hid (HBY.out.trans (hb8.mono HBY.out.size)); clear hb8)
    go_upto_region 99 with (fail)
    first | go_ret | skip
    exact ⟨rfl, HB8.out⟩
set_option maxHeartbeats 8000000 in
theorem unlike_2 (p : Pl) (x : Im) (a1 : UInt8) (a2 : Int) (w : World) (h : ImIn w (fun k => k < w.heap.size) p x) (hf : Fit x) (hm : mayE x = 0) (h0 : (a2 == 0) = false) (hI : I64 a2) (hk : (a1.toNat : Int).tmod 4 = 2) :
    Calls Tryz.prog 4 #[imV p x, .int .u8 (a1.toNat : Int), .int .i64 a2] w fun e w' => e = .returned (.bool true) ∧ Below w.heap.size w w' := by
  have HS0 := Lib.hid (show Below w.heap.size w (w.alloc (.cells (imA p x) 40)) ∧ Ix (w.alloc (.cells (imA p x) 40)) w.heap.size p x from ⟨ibox_below _ _ _, Ix.new _ _ _⟩)
  have HEN := Lib.hid (fun (X : World) (hX : Below w.heap.size w X) => encode_yes p x X (h.lt hX) hf hm)
  have HI := Lib.hid h
  have HFX := Lib.hid hf
  have HM := Lib.hid hm
  have HL := Lib.hid (form_ok hm hf).2.2
  have HRG := Lib.hid (ok_rg (may_ok hm))
  clear h hf hm
  generalize hfl : formL x = l at *
  have HFL := Lib.hid hfl
  clear hfl
  go_enter Tryz.func4, Tryz.ntmps4
  go_upto_region 1 with (fail)
  change Code.wp _ _ _ _ (w.alloc (.cells (imA p x) 40))
  generalize w.alloc (.cells (imA p x) 40) = w1 at *
  go_upto_region 2 with (go_at_call 5; (with_reducible refine (iawake_any _).mono ?_); rintro en w2 ⟨rfl, hb2⟩; have HX2 := Lib.hid (HS0.out.2.below hb2); have HB2 := Lib.hid (HS0.out.1.trans (hb2.mono HS0.out.1.size)); clear hb2)
  have HE2 := Lib.hid (HEN.out w2 HB2.out)
  refine wp_region_lit ?_
  refine wpl_load_im HX2.out rfl ?_
  go_upto_region 5 with (go_at_call 12; (with_reducible refine (HE2.out).mono ?_); rintro en w3 ⟨A3, c3, rfl, ho3, hb3⟩; have HX3 := Lib.hid (HX2.out.below hb3); have HB3 := Lib.hid (HB2.out.trans (hb3.mono HB2.out.size)); have HO3 := Lib.hid ho3; clear hb3 ho3)
  clear HE2 HEN HX2
  refine wp_region_lit ?_
  refine wpl_load_im HX3.out rfl ?_
  refine wpList_plain rfl fun K hK => ?_
  go_simp
  refine hK _ _ ?_
  clear hK K
  have hbz : Below w3.heap.size w3 (w3.alloc (.cells zIm 40)) := (Below.refl _ _).alloc (Nat.le_refl _) _
  have hxz : Bx (w3.alloc (.cells zIm 40)) w3.heap.size zIm 40 := Bx.new _ _ _
  refine wpl_store_im hxz rfl (cs := imA p x) rfl (by simp [Value.oneCell']) rfl rfl ?_
  have hx3l := HX3.out.lt
  have hw3 : w.heap.size ≤ w3.heap.size := HB3.out.size
  have HY := Lib.hid (show Ix ((w3.alloc (.cells zIm 40)).setRow w3.heap.size (imA p x)) w3.heap.size p x from ⟨setRow_heap _ w3.heap.size zIm (imA p x) 40 (0, 0) hxz⟩)
  have HX4 := Lib.hid (show Ix ((w3.alloc (.cells zIm 40)).setRow w3.heap.size (imA p x)) w.heap.size p x from ⟨(setRow_other _ w3.heap.size w.heap.size (imA p x) (by omega)).trans (HX3.out.below hbz).bx⟩)
  have HBR := Lib.hid (below_row hbz (Nat.le_refl _) (imA p x))
  have HB4 := Lib.hid (HB3.out.trans (HBR.out.mono HB3.out.size))
  have HO4 := Lib.hid (Siv.own_below HO3.out HBR.out)
  have hs4 : ((w3.alloc (.cells zIm 40)).setRow w3.heap.size (imA p x)).heap.size = w3.heap.size + 1 := by rw [setRow_size]; simp
  have HI4 := Lib.hid (HI.out.keep fun k hk _ => HB4.out.block k hk)
  have HOL := Lib.hid (fun k (hk : (Value.slice A3 l.length c3).ownBlock = some k) => show k < w3.heap.size from (HO3.out.lt k hk).2)
  clear hbz hxz HX3 HB3 HO3 HBR
  generalize (w3.alloc (.cells zIm 40)).setRow w3.heap.size (imA p x) = w4 at *
  obtain ⟨c0, c1, c2, c3', c4, c5, c6, c7, c8, c9, c10, c11, c12, c13, c14⟩ := HX4.out.cells
  obtain ⟨d0, d1, d2, d3, d4, d5, d6, d7, d8, d9, d10, d11, d12, d13, d14⟩ := HY.out.cells
  have fz := fun j => HY.out.bx.f j
  have f0 := fz 0
  have f1 := fz 1
  have f7 := fz 7
  have f8 := fz 8
  have f14 := fz 14
  clear fz
  have hcat : ({ data := x.name.toArray } : ByteArray) ++ ({ data := #[120] } : ByteArray) = { data := (x.name ++ [120]).toArray } := by
    rw [show ({ data := #[120] } : ByteArray) = ⟨[120].toArray⟩ from rfl, ByteArray.mk_append_mk]
  have HCT := Lib.hid hcat
  clear hcat
  have hnl : x.name.length ≤ 64 := HRG.out.name
  have hsz : (ByteArray.mk x.name.toArray).size = x.name.length := by simp [ByteArray.size]
  go_upto_region 16 with (fail)
  rw [HCT.out]
  have hpk := poke_all 0 (str (x.name ++ [120])) hw3 HI4.out HO4.out (fun k hk => Nat.ne_of_lt (HOL.out k hk)) HB4.out
  have HXY := Lib.hid (show Ix (w4.setCell ⟨w3.heap.size, 0, none⟩ (str (x.name ++ [120]))) w3.heap.size p (nameX x) from ⟨heap_setCell_same w4 w3.heap.size 0 _ _ _ HY.out.bx⟩)
  clear c0 c1 c2 c3' c4 c5 c6 c7 c8 c9 c10 c11 c12 c13 c14 d0 d1 d2 d3 d4 d5 d6 d7 d8 d9 d10 d11 d12 d13 d14 f0 f1 f7 f8 f14 HX4 HY
  generalize w4.setCell ⟨w3.heap.size, 0, none⟩ (str (x.name ++ [120])) = W at *
  have HBY := Lib.hid hpk.2.2
  have HOY := Lib.hid hpk.2.1
  have HIY := Lib.hid (imIn_name (hpk.1.weak (fun k hk => Nat.lt_of_lt_of_le hk hpk.2.2.size)))
  have HFY := Lib.hid (nameX_fit HFX.out HRG.out)
  have HNE := Lib.hid (nameX_ne x)
  clear hpk
  go_upto_region 16 with (fail)
  by_cases hy : mayE (nameX x) = 0
  · have HE := Lib.hid (encode_yes (p) (nameX x) W HIY.out HFY.out hy)
    have HNL := Lib.hid (form_unlike HM.out HFX.out hy HFY.out HNE.out)
    have HLY := Lib.hid (form_ok hy HFY.out).2.2
    rw [HFL.out] at HNL
    generalize formL (nameX x) = ly at *
    clear hy
    refine wp_region_lit ?_
    refine wpl_load_im HXY.out rfl ?_
    go_upto_region 17 with (go_at_call 12; (with_reducible refine (HE.out).mono ?_); rintro en w8 ⟨A8, c8, rfl, ho8, hb8⟩; have HO8 := Lib.hid ho8; have HB8 := Lib.hid (HBY.out.trans (hb8.mono HBY.out.size)); have HOX := Lib.hid (Siv.own_below HOY.out hb8); clear hb8 ho8)
    have hcv1 := conv_string (Src.of_own HOX.out)
    have hcv2 := conv_string (Src.of_own HO8.out)
    have hll : (l == ly) = false := by simpa using HNL.out
    go_upto_region 99 with (fail)
    first | go_ret | skip
    exact ⟨by simp [hll], HB8.out⟩
  · have HE := Lib.hid (encode_no (p) (nameX x) W HIY.out HFY.out hy)
    have hm1 : (mayE (nameX x) != 0) = true := by simpa using hy
    have hm2 : (mayE (nameX x) == 0) = false := by simpa using hy
    generalize mayE (nameX x) = m at *
    refine wp_region_lit ?_
    refine wpl_load_im HXY.out rfl ?_
    go_upto_region 17 with (go_at_call 12; (with_reducible refine (HE.out).mono ?_); rintro en w8 ⟨rfl, hb8⟩; have HB8 := Lib.hid (HBY.out.trans (hb8.mono HBY.out.size)); clear hb8)
    go_upto_region 99 with (fail)
    first | go_ret | skip
    exact ⟨rfl, HB8.out⟩
set_option maxHeartbeats 8000000 in
theorem unlike_3 (p : Pl) (x : Im) (a1 : UInt8) (a2 : Int) (w : World) (h : ImIn w (fun k => k < w.heap.size) p x) (hf : Fit x) (hm : mayE x = 0) (h0 : (a2 == 0) = false) (hI : I64 a2) (hk : (a1.toNat : Int).tmod 4 = 3) :
    Calls Tryz.prog 4 #[imV p x, .int .u8 (a1.toNat : Int), .int .i64 a2] w fun e w' => e = .returned (.bool true) ∧ Below w.heap.size w w' := by
  obtain ⟨u, hu⟩ : ∃ u : Nat, IntKind.u64.wrap a2 = (u : Int) := ⟨(IntKind.u64.wrap a2).toNat, by rw [IntKind.wrap_u64]; omega⟩
  have hul : u < 18446744073709551616 := by have := hu; rw [IntKind.wrap_u64] at this; omega
  have HS0 := Lib.hid (show Below w.heap.size w (w.alloc (.cells (imA p x) 40)) ∧ Ix (w.alloc (.cells (imA p x) 40)) w.heap.size p x from ⟨ibox_below _ _ _, Ix.new _ _ _⟩)
  have HEN := Lib.hid (fun (X : World) (hX : Below w.heap.size w X) => encode_yes p x X (h.lt hX) hf hm)
  have HI := Lib.hid h
  have HFX := Lib.hid hf
  have HM := Lib.hid hm
  have HL := Lib.hid (form_ok hm hf).2.2
  have HRG := Lib.hid (ok_rg (may_ok hm))
  clear h hf hm
  generalize hfl : formL x = l at *
  have HFL := Lib.hid hfl
  clear hfl
  go_enter Tryz.func4, Tryz.ntmps4
  go_upto_region 1 with (fail)
  change Code.wp _ _ _ _ (w.alloc (.cells (imA p x) 40))
  generalize w.alloc (.cells (imA p x) 40) = w1 at *
  go_upto_region 2 with (go_at_call 5; (with_reducible refine (iawake_any _).mono ?_); rintro en w2 ⟨rfl, hb2⟩; have HX2 := Lib.hid (HS0.out.2.below hb2); have HB2 := Lib.hid (HS0.out.1.trans (hb2.mono HS0.out.1.size)); clear hb2)
  have HE2 := Lib.hid (HEN.out w2 HB2.out)
  refine wp_region_lit ?_
  refine wpl_load_im HX2.out rfl ?_
  go_upto_region 5 with (go_at_call 12; (with_reducible refine (HE2.out).mono ?_); rintro en w3 ⟨A3, c3, rfl, ho3, hb3⟩; have HX3 := Lib.hid (HX2.out.below hb3); have HB3 := Lib.hid (HB2.out.trans (hb3.mono HB2.out.size)); have HO3 := Lib.hid ho3; clear hb3 ho3)
  clear HE2 HEN HX2
  refine wp_region_lit ?_
  refine wpl_load_im HX3.out rfl ?_
  refine wpList_plain rfl fun K hK => ?_
  go_simp
  refine hK _ _ ?_
  clear hK K
  have hbz : Below w3.heap.size w3 (w3.alloc (.cells zIm 40)) := (Below.refl _ _).alloc (Nat.le_refl _) _
  have hxz : Bx (w3.alloc (.cells zIm 40)) w3.heap.size zIm 40 := Bx.new _ _ _
  refine wpl_store_im hxz rfl (cs := imA p x) rfl (by simp [Value.oneCell']) rfl rfl ?_
  have hx3l := HX3.out.lt
  have hw3 : w.heap.size ≤ w3.heap.size := HB3.out.size
  have HY := Lib.hid (show Ix ((w3.alloc (.cells zIm 40)).setRow w3.heap.size (imA p x)) w3.heap.size p x from ⟨setRow_heap _ w3.heap.size zIm (imA p x) 40 (0, 0) hxz⟩)
  have HX4 := Lib.hid (show Ix ((w3.alloc (.cells zIm 40)).setRow w3.heap.size (imA p x)) w.heap.size p x from ⟨(setRow_other _ w3.heap.size w.heap.size (imA p x) (by omega)).trans (HX3.out.below hbz).bx⟩)
  have HBR := Lib.hid (below_row hbz (Nat.le_refl _) (imA p x))
  have HB4 := Lib.hid (HB3.out.trans (HBR.out.mono HB3.out.size))
  have HO4 := Lib.hid (Siv.own_below HO3.out HBR.out)
  have hs4 : ((w3.alloc (.cells zIm 40)).setRow w3.heap.size (imA p x)).heap.size = w3.heap.size + 1 := by rw [setRow_size]; simp
  have HI4 := Lib.hid (HI.out.keep fun k hk _ => HB4.out.block k hk)
  have HOL := Lib.hid (fun k (hk : (Value.slice A3 l.length c3).ownBlock = some k) => show k < w3.heap.size from (HO3.out.lt k hk).2)
  clear hbz hxz HX3 HB3 HO3 HBR
  generalize (w3.alloc (.cells zIm 40)).setRow w3.heap.size (imA p x) = w4 at *
  obtain ⟨c0, c1, c2, c3', c4, c5, c6, c7, c8, c9, c10, c11, c12, c13, c14⟩ := HX4.out.cells
  obtain ⟨d0, d1, d2, d3, d4, d5, d6, d7, d8, d9, d10, d11, d12, d13, d14⟩ := HY.out.cells
  have fz := fun j => HY.out.bx.f j
  have f0 := fz 0
  have f1 := fz 1
  have f7 := fz 7
  have f8 := fz 8
  have f14 := fz 14
  clear fz
  have hrw := HRG.out.words
  have had : Calls Tryz.prog 13 #[.agg #[.slice p.fw.1 x.words.length p.fw.2, .int .i64 x.shift], .slice none 0 0] w4 (fun e w' => ∃ A5 c5, e = .returned (.agg #[.slice A5 x.words.length c5, .int .i64 x.shift]) ∧ w'.ownsRow w4.heap.size 52 1 (.slice A5 x.words.length c5) x.words.length (Siv.wds x.words) ∧ Below w4.heap.size w4 w') :=
    (Siv.radd_any _ p.fw.1 x.words.length p.fw.2 x.shift x.words none 0 [] w4 (HI4.out.tab.words.weak (Q := fun k => k < w4.heap.size) (fun k hk => Nat.lt_of_lt_of_le hk HB4.out.size)) ⟨rfl, fun _ => ⟨rfl, rfl⟩, Nat.le_refl _, (by intro ad h; cases h), (by intro ad h; cases h)⟩ (by decide) (by omega) (.inl rfl)).mono fun e w' hh => by
      obtain ⟨A', c', h1, h2, h3⟩ := hh
      rw [Siv.setAll_nil] at h2
      exact ⟨A', c', h1, h2, h3⟩
  have HAD := Lib.hid had
  clear had
  clear c0 c1 c2 c3' c4 c5 c6 c9 c10 c11 c12 c13 c14 d0 d1 d2 d3 d4 d5 d6 d9 d10 d11 d12 d13 d14 f0 f1 f14
  go_upto_region 8 with (go_at_call 13; (with_reducible refine (HAD.out).mono ?_); rintro en w5 ⟨A5, c5', rfl, ho5, hb5⟩; have HY5 := Lib.hid (HY.out.below hb5); have k7 : w5.cell? ⟨w3.heap.size, 7, none⟩ = some (.slice p.fw.1 x.words.length p.fw.2) := HY5.out.bx.c 7; have k8 : w5.cell? ⟨w3.heap.size, 8, none⟩ = some (.int .i64 x.shift) := HY5.out.bx.c 8; have kf7 := HY5.out.bx.f 7; have kf8 := HY5.out.bx.f 8; have HO5 := Lib.hid ho5; have HB5 := Lib.hid hb5; clear ho5 hb5)
  have hlw : w.heap.size ≤ w4.heap.size := HB4.out.size
  have hlv := HB5.out.size
  have HI5 := Lib.hid (HI4.out.keep fun k hk _ => HB5.out.block k (by omega))
  have HA5 := Lib.hid (Siv.own_below HO4.out HB5.out)
  have HW5 := Lib.hid (HB4.out.trans (HB5.out.mono hlw))
  have hpk := poke_all 7 (.slice A5 x.words.length c5') hw3 HI5.out HA5.out (fun k hk => Nat.ne_of_lt (HOL.out k hk)) HW5.out
  have hpk2 := poke_all 8 (.int .i64 x.shift) hw3 hpk.1 hpk.2.1 (fun k hk => Nat.ne_of_lt (HOL.out k hk)) hpk.2.2
  have hb6 : Bx ((w5.setCell ⟨w3.heap.size, 7, none⟩ (.slice A5 x.words.length c5')).setCell ⟨w3.heap.size, 8, none⟩ (.int .i64 x.shift)) w3.heap.size (imA { p with fw := (A5, c5') } x) 40 := heap_setCell_same _ w3.heap.size 8 _ _ _ (heap_setCell_same w5 w3.heap.size 7 _ _ _ HY5.out.bx)
  have ho6 := own_cell (own_cell HO5.out (b := w3.heap.size) (by omega) 7 (.slice A5 x.words.length c5')) (b := w3.heap.size) (by omega) 8 (.int .i64 x.shift)
  clear c7 c8 d7 d8 f7 f8 k7 k8 kf7 kf8 HX4 HY HY5 HAD HI5 HA5 hpk HO5 HB5 HO4 HI4
  generalize (w5.setCell ⟨w3.heap.size, 7, none⟩ (.slice A5 x.words.length c5')).setCell ⟨w3.heap.size, 8, none⟩ (.int .i64 x.shift) = w6 at *
  have HB6 := Lib.hid hb6
  have HO6 := Lib.hid ho6
  have HP6 := Lib.hid hpk2
  have e7 : w6.cell? ⟨w3.heap.size, 7, none⟩ = some (.slice A5 x.words.length c5') := hb6.c 7
  have hwp := words_pos HM.out
  have hnw : IntKind.u64.wrap (x.words.length : Int) = (x.words.length : Int) := by rw [IntKind.wrap_u64]; omega
  have hrem : (u : Int).tmod (x.words.length : Int) = ((u % x.words.length : Nat) : Int) := by rw [Int.tmod_eq_emod_of_nonneg (by omega)]; rfl
  have hkl : u % x.words.length < x.words.length := Nat.mod_lt _ hwp
  have hne0 : ¬ ((x.words.length : Int) = 0) := by omega
  have hne1 : ((x.words.length : Int) == 0) = false := by rw [beq_eq_false_iff_ne]; omega
  clear hb6 ho6 hpk2
  generalize hkk : u % x.words.length = k at *
  clear hkk
  obtain ⟨b5, rfl, hg1, hg2⟩ := Siv.own_some HO6.out hwp
  have hcap := (Src.of_own HO6.out).cap
  have hwk : (Siv.wds x.words)[k]? = some (.int .u64 ((x.words.getD k 0).toNat : Int)) := by
    show (x.words.map Siv.u64v)[k]? = _
    simp [hkl]
  have g0 : w6.cell? ⟨b5, k, none⟩ = some (.int .u64 ((x.words.getD k 0).toNat : Int)) := by rw [HO6.out.cellAt k (by omega)]; exact hwk
  have g1 := HO6.out.frozenAt k
  have g2 : w6.drew.cell? ⟨b5, k, none⟩ = some (.int .u64 ((x.words.getD k 0).toNat : Int)) := g0
  have g3 : w6.drew.frozen? ⟨b5, k, none⟩ = false := g1
  have e8 : w6.drew.cell? ⟨w3.heap.size, 7, none⟩ = some (.slice (some ⟨b5, 0, none⟩) x.words.length c5') := e7
  have hge : x.words.getD k 0 = x.words[k] := by simp [hkl]
  have HUN := Lib.hid (show bits .xor .u64 (if IntKind.u64.signed = true then -1 else IntKind.u64.max) ((x.words[k]).toNat : Int) = ((~~~(x.words.getD k 0)).toNat : Int) by rw [← hge]; exact u64_not _)
  clear hge
  have HWN := Lib.hid (wds_not x.words k)
  have HNE := Lib.hid (wordX_ne (x := x) hkl)
  have HFY := Lib.hid (wordX_fit HFX.out k)
  clear hwk
  go_upto_region 9 with (fail)
  go_still_tail 14, (by kernel_rfl)
  change wpList _ _ _ _ _ w6.drew
  go_upto_region 16 with (fail)
  rw [HUN.out]
  have hst := HO6.out.stored k (.int .u64 ((~~~(x.words.getD k 0)).toNat : Int))
  rw [HWN.out] at hst
  have hb5 : w4.heap.size ≤ b5 := hg1
  have hpk := poke_all (g := b5) k (.int .u64 ((~~~(x.words.getD k 0)).toNat : Int)) (by omega) HP6.out.1 HP6.out.2.1 (fun j hj => by have := HOL.out j hj; omega) HP6.out.2.2
  have hbx : Bx (w6.setCell ⟨b5, k, none⟩ (.int .u64 ((~~~(x.words.getD k 0)).toNat : Int))) w3.heap.size (imA { p with fw := (some ⟨b5, 0, none⟩, c5') } (wordX x k)) 40 := by
    rw [wordX_cells]
    exact (Below.heap_setCell w6 ⟨b5, k, none⟩ _ w3.heap.size (by show w3.heap.size ≠ b5; omega)).trans HB6.out
  have hsz : w3.heap.size < w6.heap.size := HB6.out.lt
  clear g0 g1 g2 g3 e7 e8 HB6 HO6 HP6
  generalize w6.setCell ⟨b5, k, none⟩ (.int .u64 ((~~~(x.words.getD k 0)).toNat : Int)) = w7 at *
  have hwl : (x.words.set k (~~~(x.words.getD k 0))).length = x.words.length := by simp
  have hsr := (Src.of_own hst.1)
  have hb7 : b5 < w7.heap.size := (hst.1.lt b5 rfl).2
  have HXY := Lib.hid (show Ix w7.drew w3.heap.size { p with fw := (some ⟨b5, 0, none⟩, c5') } (wordX x k) from ⟨hbx⟩)
  have HBY := Lib.hid (show Below w.heap.size w w7.drew from hpk.2.2.trans ((drew_below w7).mono hpk.2.2.size))
  have HOY := Lib.hid (Siv.own_below hpk.2.1 (drew_below w7))
  have hi7 := (hpk.1.weak (Q := fun k => k < w7.drew.heap.size) (fun k hk => Nat.lt_of_lt_of_le hk hpk.2.2.size)).keep (w' := w7.drew) (fun _ _ _ => rfl)
  have hw7 : Src w7.drew (fun k => k < w7.drew.heap.size) (some ⟨b5, 0, none⟩) (wordX x k).words.length c5' (Siv.wds (wordX x k).words) := by
    show Src w7.drew _ _ (x.words.set k (~~~(x.words.getD k 0))).length c5' (Siv.wds (x.words.set k (~~~(x.words.getD k 0))))
    rw [hwl]
    exact (hsr.keep (w' := w7.drew) (fun _ _ _ => rfl)).weak fun j hj => hj.2.2
  have HIY := Lib.hid (show ImIn w7.drew (fun k => k < w7.drew.heap.size) { p with fw := (some ⟨b5, 0, none⟩, c5') } (wordX x k) from
    ⟨hi7.segs, hi7.needed, hi7.run, hi7.syms, ⟨hi7.tab.rows, hw7⟩, hi7.relocs, hi7.slots, hi7.init, hi7.fini, hi7.tls⟩)
  clear hst hpk hbx hsr hi7 hw7 hwl HUN HWN
  generalize w7.drew = W at *
  go_upto_region 16 with (fail)
  by_cases hy : mayE (wordX x k) = 0
  · have HE := Lib.hid (encode_yes ({ p with fw := (some ⟨b5, 0, none⟩, c5') }) (wordX x k) W HIY.out HFY.out hy)
    have HNL := Lib.hid (form_unlike HM.out HFX.out hy HFY.out HNE.out)
    have HLY := Lib.hid (form_ok hy HFY.out).2.2
    rw [HFL.out] at HNL
    generalize formL (wordX x k) = ly at *
    clear hy
    refine wp_region_lit ?_
    refine wpl_load_im HXY.out rfl ?_
    go_upto_region 17 with (go_at_call 12; (with_reducible refine (HE.out).mono ?_); rintro en w8 ⟨A8, c8, rfl, ho8, hb8⟩; have HO8 := Lib.hid ho8; have HB8 := Lib.hid (HBY.out.trans (hb8.mono HBY.out.size)); have HOX := Lib.hid (Siv.own_below HOY.out hb8); clear hb8 ho8)
    have hcv1 := conv_string (Src.of_own HOX.out)
    have hcv2 := conv_string (Src.of_own HO8.out)
    have hll : (l == ly) = false := by simpa using HNL.out
    go_upto_region 99 with (fail)
    first | go_ret | skip
    exact ⟨by simp [hll], HB8.out⟩
  · have HE := Lib.hid (encode_no ({ p with fw := (some ⟨b5, 0, none⟩, c5') }) (wordX x k) W HIY.out HFY.out hy)
    have hm1 : (mayE (wordX x k) != 0) = true := by simpa using hy
    have hm2 : (mayE (wordX x k) == 0) = false := by simpa using hy
    generalize mayE (wordX x k) = m at *
    refine wp_region_lit ?_
    refine wpl_load_im HXY.out rfl ?_
    go_upto_region 17 with (go_at_call 12; (with_reducible refine (HE.out).mono ?_); rintro en w8 ⟨rfl, hb8⟩; have HB8 := Lib.hid (HBY.out.trans (hb8.mono HBY.out.size)); clear hb8)
    go_upto_region 99 with (fail)
    first | go_ret | skip
    exact ⟨rfl, HB8.out⟩
set_option maxHeartbeats 8000000 in
theorem unlike_zero (p : Pl) (x : Im) (a1 : UInt8) (w : World) (h : ImIn w (fun k => k < w.heap.size) p x) (hf : Fit x) (hm : mayE x = 0) :
    Calls Tryz.prog 4 #[imV p x, .int .u8 (a1.toNat : Int), .int .i64 0] w fun e w' => e = .returned (.bool true) ∧ Below w.heap.size w w' := by
  have HS0 := Lib.hid (show Below w.heap.size w (w.alloc (.cells (imA p x) 40)) ∧ Ix (w.alloc (.cells (imA p x) 40)) w.heap.size p x from ⟨ibox_below _ _ _, Ix.new _ _ _⟩)
  have HEN := Lib.hid (fun (X : World) (hX : Below w.heap.size w X) => encode_yes p x X (h.lt hX) hf hm)
  have HI := Lib.hid h
  have HFX := Lib.hid hf
  have HM := Lib.hid hm
  have HL := Lib.hid (form_ok hm hf).2.2
  have HRG := Lib.hid (ok_rg (may_ok hm))
  clear h hf hm
  generalize hfl : formL x = l at *
  have HFL := Lib.hid hfl
  clear hfl
  go_enter Tryz.func4, Tryz.ntmps4
  go_upto_region 1 with (fail)
  change Code.wp _ _ _ _ (w.alloc (.cells (imA p x) 40))
  generalize w.alloc (.cells (imA p x) 40) = w1 at *
  go_upto_region 2 with (go_at_call 5; (with_reducible refine (iawake_any _).mono ?_); rintro en w2 ⟨rfl, hb2⟩; have HX2 := Lib.hid (HS0.out.2.below hb2); have HB2 := Lib.hid (HS0.out.1.trans (hb2.mono HS0.out.1.size)); clear hb2)
  have HE2 := Lib.hid (HEN.out w2 HB2.out)
  refine wp_region_lit ?_
  refine wpl_load_im HX2.out rfl ?_
  go_wp2_with (go_at_call 12; (with_reducible refine (HE2.out).mono ?_); rintro en w3 ⟨A3, c3, rfl, ho3, hb3⟩; have HB3 := Lib.hid (HB2.out.trans (hb3.mono HB2.out.size)); clear hb3 ho3)
  go_ret
  exact ⟨rfl, HB3.out⟩
theorem unlike_any (p : Pl) (x : Im) (a1 : UInt8) (a2 : Int) (w : World) (h : ImIn w (fun k => k < w.heap.size) p x) (hf : Fit x) (hI : I64 a2) :
    Calls Tryz.prog 4 #[imV p x, .int .u8 (a1.toNat : Int), .int .i64 a2] w fun e w' => e = .returned (.bool true) ∧ Below w.heap.size w w' := by
  by_cases hm : mayE x = 0
  · by_cases h0 : a2 = 0
    · subst h0
      exact unlike_zero p x a1 w h hf hm
    · have h0' : (a2 == 0) = false := by simpa using h0
      have hk : (a1.toNat : Int).tmod 4 = ((a1.toNat % 4 : Nat) : Int) := by rw [Int.tmod_eq_emod_of_nonneg (by omega)]; rfl
      have hl : a1.toNat % 4 < 4 := Nat.mod_lt _ (by decide)
      generalize hq : a1.toNat % 4 = k at hk hl
      match k, hl with
      | 0, _ => exact unlike_0 p x a1 a2 w h hf hm h0' hI hk
      | 1, _ => exact unlike_1 p x a1 a2 w h hf hm h0' hI hk
      | 2, _ => exact unlike_2 p x a1 a2 w h hf hm h0' hI hk
      | 3, _ => exact unlike_3 p x a1 a2 w h hf hm h0' hI hk
  · exact unlike_no p x a1 a2 w h hf hm
end Go.Proofs.YtfljignkjmabpaaGreat

namespace Go.Proofs.YtfljignkjmabpaaGreat
set_option maxRecDepth 100000
set_option linter.unusedSimpArgs false
set_option linter.unusedVariables false
open Go.ChangeShapes Go.WideShapes Go.ChangeAt Go.RowKit Go.Deep

section
variable {H : Type} {enc : TypeId × Value → H} {W : World}
/-- A text of a length that may come in. -/
def Small (s : Sym) : Prop := s.name.length ≤ 140737488351232 ∧ s.ver.length ≤ 140737488351232
end
end Go.Proofs.YtfljignkjmabpaaGreat

namespace Go.Proofs.YtfljignkjmabpaaGreat
set_option maxRecDepth 100000
set_option linter.unusedSimpArgs false
set_option linter.unusedVariables false
open Go.ChangeShapes Go.WideShapes Go.ChangeAt Go.RowKit Go.Deep

section
variable {H : Type} {enc : TypeId × Value → H} {W : World}
theorem open_ws {a : Option Addr} {n c : Nat} {d : DataW H} {p : List MemPlace} (h : DataW.Trod enc Tryz.prog W 0 (fun _ => true) true 31 (.slice a n c) d p) (hs : Sized 31 d) :
    ∃ ws : List UInt64, ws.length = n ∧ Src W (fun k => k < W.heap.size) a n c (Siv.wds ws) ∧ n * 8 ≤ 140737488351232 := by
  obtain ⟨zs, h1, h2, h3, _⟩ := open_nums Tryz.underlying31 Tryz.underlying52 (by kernel_rfl) h
  have e : zs.map (Value.int .u64) = Siv.wds (zs.map fun z => UInt64.ofNat z.toNat) := by
    simp only [Siv.wds, List.map_map]
    apply List.map_congr_left
    intro z hz
    have := u64_of_wf (h2 z hz)
    simp only [Function.comp, Siv.u64v]
    rw [← this]
  refine ⟨zs.map fun z => UInt64.ofNat z.toNat, by simpa using h1.len, e ▸ h1, sized_len hs Tryz.underlying31 (by kernel_rfl) h3⟩
end
end Go.Proofs.YtfljignkjmabpaaGreat
