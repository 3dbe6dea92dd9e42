/-
  Images come back from their bytes, and bytes from their images: the walk of the law (written by mkb.py).
-/
import Derived.Test.YtacknedekhpklaaGreatZTOt
import Derived.Laws.StructEq
namespace Go.Proofs.YtacknedekhpklaaGreat
set_option maxRecDepth 100000
set_option linter.unusedSimpArgs false
set_option linter.unusedVariables false
open Go.RowKit
theorem dec_ok {l : Str} (h : decE l = 0) : rdIm (0, l) = (decI l, false, (0, [])) ∧ mayE (decI l) = 0 := by
  by_cases hb : (rdIm (0, l)).2.1 = true ∨ (rdIm (0, l)).2.2.1 ≠ 0 ∨ (rdIm (0, l)).2.2.2 ≠ []
  · rw [dec_bad hb] at h
    cases h
  · rw [dec_good hb] at h
    refine ⟨?_, h⟩
    have h1 : (rdIm (0, l)).2.1 = false := Bool.eq_false_iff.2 fun e => hb (.inl e)
    have h2 : (rdIm (0, l)).2.2.1 = 0 := Decidable.byContradiction fun e => hb (.inr (.inl e))
    have h3 : (rdIm (0, l)).2.2.2 = [] := Decidable.byContradiction fun e => hb (.inr (.inr e))
    unfold decI
    generalize rdIm (0, l) = r at *
    obtain ⟨a, b, c, d⟩ := r
    simp only at h1 h2 h3
    rw [h1, h2, h3]
theorem form_of {α : Type} {O : α → Prop} {f : α → St → St} {r : St → α × Bool × St} (hc : Cd O f r) {l : Str} {x : α} (h : r (0, l) = (x, false, (0, []))) : (f x (0, [])).2 = l := by
  obtain ⟨d, a, b⟩ := hc.form (0, l) (by rw [h]) (by rw [h])
  rw [h] at a b
  simp only [List.append_nil] at a
  rw [b [], a]
  simp
theorem form_x {l : Str} {x : Im} (h1 : rdIm (0, l) = (x, false, (0, []))) : formL x = l := by
  unfold formL
  exact form_of (f := im13) cdIm h1
theorem form_dec {l : Str} (h : decE l = 0) : formL (decI l) = l := form_x (dec_ok h).1

set_option maxRecDepth 100000 in
theorem sym_neq_self (s : Sym) (w : World) : (binOp .neq 58 (.agg (symA s)) (.agg (symA s))).run Tryz.prog w = .ok (.bool false) w := by
  have ht : Tryz.prog.underlying 58 = some (.struct (Tryz.prog.fieldsOf 58)) := by kernel_rfl
  have hp : Tryz.prog.stoodInHeld 58 = false := by kernel_rfl
  have e : (Op.equalIn 10000 58 (.agg (symA s)) (.agg (symA s))).run Tryz.prog w = .ok true w := by
    rw [run_equalIn_agg w 9999 58 _ _ ht hp]
    simp [go_sem]
  rw [run_neq_struct, e]
  simp [Result.andThen]
set_option maxRecDepth 100000 in
theorem rl_neq_self (s : Rl) (w : World) : (binOp .neq 61 (.agg (rlA s)) (.agg (rlA s))).run Tryz.prog w = .ok (.bool false) w := by
  have ht : Tryz.prog.underlying 61 = some (.struct (Tryz.prog.fieldsOf 61)) := by kernel_rfl
  have hp : Tryz.prog.stoodInHeld 61 = false := by kernel_rfl
  have e : (Op.equalIn 10000 61 (.agg (rlA s)) (.agg (rlA s))).run Tryz.prog w = .ok true w := by
    rw [run_equalIn_agg w 9999 61 _ _ ht hp]
    simp [go_sem]
  rw [run_neq_struct, e]
  simp [Result.andThen]
set_option maxHeartbeats 16000000 in
theorem backs_no (p : Pl) (x : Im) (A1 : Option Addr) (c1 : Nat) (b1 : Str) (w : World) (h : ImIn w (fun k => k < w.heap.size) p x) (hf : Fit x) (hs : Src w (fun k => k < w.heap.size) A1 b1.length c1 (cells b1)) (hl : Long b1.length) (hm : mayE x ≠ 0) :
    Calls Tryz.prog 6 #[imV p x, .slice A1 b1.length c1] w fun e w' => e = .returned (.bool true) ∧ Below w.heap.size w w' := by
  have HS0 := Lib.hid (show Below w.heap.size w (w.alloc (.cells (imA p x) 38)) ∧ Ix (w.alloc (.cells (imA p x) 38)) w.heap.size p x from ⟨ibox_below _ _ _, Ix.new _ _ _⟩)
  have HEN := Lib.hid (fun (X : World) (hX : Below w.heap.size w X) => encode_no p x X (h.lt hX) hf hm)
  have hm0 : (mayE x == 0) = false := by simpa using hm
  have HSR := Lib.hid hs
  have HLB := Lib.hid hl
  clear h hf hm hs hl
  generalize mayE x = m at *
  go_enter Tryz.func6, Tryz.ntmps6
  go_upto_region 1 with (fail)
  change Code.wp _ _ _ _ (w.alloc (.cells (imA p x) 38))
  generalize w.alloc (.cells (imA p x) 38) = w1 at *
  go_upto_region 2 with (go_at_call 10; (with_reducible refine (iawake_any _).mono ?_); rintro en w2 ⟨rfl, hb2⟩; have HX2 := Lib.hid (HS0.out.2.below hb2); have HB2 := Lib.hid (HS0.out.1.trans (hb2.mono HS0.out.1.size)); clear hb2)
  have HE2 := Lib.hid (HEN.out w2 HB2.out)
  refine wp_region_lit ?_
  refine wpl_load_im HX2.out rfl ?_
  go_upto_region 18 with (go_at_call 13; (with_reducible refine (HE2.out).mono ?_); rintro en w3 ⟨rfl, hb3⟩; have HB3 := Lib.hid (HB2.out.trans (hb3.mono HB2.out.size)); clear hb3)
  clear HE2 HEN HS0 HX2 HB2
  have HDT := decode_any _ A1 b1.length c1 b1 w3 (HSR.out.below HB3.out (fun _ h => h)) (by have := HLB.out; unfold Long at this; omega)
  by_cases hdz : decE b1 = 0
  · obtain ⟨hdr, hdm⟩ := dec_ok hdz
    have hdf := form_dec hdz
    have hfit := dec_fit b1
    unfold Dec at HDT
    rw [hdz] at HDT
    clear hdr
    generalize decI b1 = y at *
    have HDT := Lib.hid HDT
    go_upto_region 21 with (go_at_call 17; (with_reducible refine (HDT.out).mono ?_); rintro en w8 (⟨hd, -⟩ | ⟨-, p8, rfl, h8, hb8⟩); (exact absurd rfl hd); have HI8 := Lib.hid h8; have HB8 := Lib.hid hb8; clear h8 hb8)
    have hbx := ibox_below w8 p8 y
    have HX9 := Lib.hid (Ix.new w8 p8 y)
    have HT8 := Lib.hid (HB3.out.trans (HB8.out.mono HB3.out.size))
    have HT9 := Lib.hid (HT8.out.trans (hbx.mono HT8.out.size))
    have HI9 := Lib.hid ((HI8.out.keep fun k hk hl => hbx.block k hl).weak (Q := fun k => k < (w8.alloc (.cells (imA p8 y) 38)).heap.size) fun k hk => by have := hbx.size; omega)
    clear hbx HI8 HB8 HDT HT8
    change Code.wp _ _ _ _ (w8.alloc (.cells (imA p8 y) 38))
    generalize w8.heap.size = g9 at *
    generalize w8.alloc (.cells (imA p8 y) 38) = w9 at *
    have HEN9 := encode_yes p8 y w9 HI9.out hfit hdm
    rw [hdf] at HEN9
    have HEN9 := Lib.hid HEN9
    refine wp_region_lit ?_
    refine wpl_load_im HX9.out rfl ?_
    go_upto_region 22 with (go_at_call 13; (with_reducible refine (HEN9.out).mono ?_); rintro en w10 ⟨A10, c10', rfl, ho10, hb10⟩; have HO10 := Lib.hid ho10; have HX10 := Lib.hid (HX9.out.below hb10); have HI10 := Lib.hid (HI9.out.lt hb10); have HT10 := Lib.hid (HT9.out.trans (hb10.mono HT9.out.size)); clear ho10 hb10)
    have hcv10 := conv_string (Src.of_own HO10.out)
    have hcvb := conv_string (HSR.out.below HT10.out (fun _ h => h))
    obtain ⟨r0, r1, r2, r3, r4, r5, r6, r7, r8, r9, r10, r11, r12, r13, r14⟩ := HX10.out.cells
    have HM10 := may_im_any p8 y w10 HI10.out hfit
    rw [hdm] at HM10
    have HM10 := Lib.hid HM10
    go_wp2_with (go_at_call 11; (with_reducible refine (HM10.out).mono ?_); rintro en w11 ⟨rfl, hb11⟩; have HT11 := Lib.hid (HT10.out.trans (hb11.mono HT10.out.size)); clear hb11)
    go_ret
    exact ⟨rfl, HT11.out⟩
  · have hdn : (decE b1 != 0) = true := by simpa using hdz
    unfold Dec at HDT
    generalize decE b1 = dz at *
    have HDT := Lib.hid HDT
    go_wp2_with (go_at_call 17; (with_reducible refine (HDT.out).mono ?_); rintro en w8 (⟨-, rfl, hb8⟩ | ⟨h0, -⟩); rotate_left; (exact absurd h0 hdz); have HT8 := Lib.hid (HB3.out.trans (hb8.mono HB3.out.size)); clear hb8)
    go_ret
    exact ⟨rfl, HT8.out.alloc HT8.out.size _⟩
set_option maxHeartbeats 32000000 in
theorem backs_yes (p : Pl) (x : Im) (A1 : Option Addr) (c1 : Nat) (b1 : Str) (w : World) (h : ImIn w (fun k => k < w.heap.size) p x) (hf : Fit x) (hs : Src w (fun k => k < w.heap.size) A1 b1.length c1 (cells b1)) (hl : Long b1.length) (hm : mayE x = 0) :
    Calls Tryz.prog 6 #[imV p x, .slice A1 b1.length c1] w fun e w' => e = .returned (.bool true) ∧ Below w.heap.size w w' := by
  obtain ⟨sg, nd, rp, ⟨sya, syc⟩, bk, fw, ⟨rla, rlc⟩, sl, ini, fin, ⟨tla, tlc⟩⟩ := p
  have HS0 := Lib.hid (show Below w.heap.size w (w.alloc (.cells (imA ⟨sg, nd, rp, ⟨sya, syc⟩, bk, fw, ⟨rla, rlc⟩, sl, ini, fin, ⟨tla, tlc⟩⟩ x) 38)) ∧ Ix (w.alloc (.cells (imA ⟨sg, nd, rp, ⟨sya, syc⟩, bk, fw, ⟨rla, rlc⟩, sl, ini, fin, ⟨tla, tlc⟩⟩ x) 38)) w.heap.size ⟨sg, nd, rp, ⟨sya, syc⟩, bk, fw, ⟨rla, rlc⟩, sl, ini, fin, ⟨tla, tlc⟩⟩ x from ⟨ibox_below _ _ _, Ix.new _ _ _⟩)
  have HEN := Lib.hid (fun (q : Pl) (X : World) (hX : ImIn X (fun k => k < X.heap.size) q x) => encode_yes q x X hX hf hm)
  have HIM := Lib.hid (fun (X : World) (hX : Below w.heap.size w X) => h.lt hX)
  have HL := Lib.hid (form_ok hm hf).2.2
  have HDF := Lib.hid (dec_form hm hf)
  have HSR := Lib.hid hs
  have HLB := Lib.hid hl
  have l3 := hf.syms
  have l4 := hf.relocs
  unfold Long at l3 l4
  clear h hf hm hs hl
  generalize formL x = l at *
  go_enter Tryz.func6, Tryz.ntmps6
  go_upto_region 1 with (fail)
  change Code.wp _ _ _ _ (w.alloc (.cells (imA ⟨sg, nd, rp, ⟨sya, syc⟩, bk, fw, ⟨rla, rlc⟩, sl, ini, fin, ⟨tla, tlc⟩⟩ x) 38))
  generalize w.alloc (.cells (imA ⟨sg, nd, rp, ⟨sya, syc⟩, bk, fw, ⟨rla, rlc⟩, sl, ini, fin, ⟨tla, tlc⟩⟩ x) 38) = w1 at *
  go_upto_region 2 with (go_at_call 10; (with_reducible refine (iawake_any _).mono ?_); rintro en w2 ⟨rfl, hb2⟩; have HX2 := Lib.hid (HS0.out.2.below hb2); have HB2 := Lib.hid (HS0.out.1.trans (hb2.mono HS0.out.1.size)); clear hb2)
  have HE2 := Lib.hid (HEN.out _ w2 (HIM.out w2 HB2.out))
  refine wp_region_lit ?_
  refine wpl_load_im HX2.out rfl ?_
  go_upto_region 4 with (go_at_call 13; (with_reducible refine (HE2.out).mono ?_); rintro en w3 ⟨A3, c3, rfl, ho3, hb3⟩; have HX3 := Lib.hid (HX2.out.below hb3); have HB3 := Lib.hid (HB2.out.trans (hb3.mono HB2.out.size)); have HO3 := Lib.hid ho3; clear ho3 hb3)
  have HDC := decode_any _ A3 l.length c3 l w3 (Src.of_own HO3.out) (by have := HL.out; omega)
  unfold Dec at HDC
  rw [HDF.out.1, HDF.out.2] at HDC
  have HDC := Lib.hid HDC
  go_upto_region 5 with (go_at_call 17; (with_reducible refine (HDC.out).mono ?_); rintro en w4 (⟨hd, -⟩ | ⟨-, p4, rfl, h4, hb4⟩); (exact absurd rfl hd); have HI4 := Lib.hid h4; have HB4 := Lib.hid hb4; clear h4 hb4)
  obtain ⟨sg4, nd4, rp4, ⟨sya4, syc4⟩, bk4, fw4, ⟨rla4, rlc4⟩, sl4, ini4, fin4, ⟨tla4, tlc4⟩⟩ := p4
  have hbx := ibox_below w4 ⟨sg4, nd4, rp4, ⟨sya4, syc4⟩, bk4, fw4, ⟨rla4, rlc4⟩, sl4, ini4, fin4, ⟨tla4, tlc4⟩⟩ x
  have HX5 := Lib.hid (Ix.new w4 ⟨sg4, nd4, rp4, ⟨sya4, syc4⟩, bk4, fw4, ⟨rla4, rlc4⟩, sl4, ini4, fin4, ⟨tla4, tlc4⟩⟩ x)
  have HXX5 := Lib.hid ((HX3.out.below HB4.out).below hbx)
  have HO5 := Lib.hid (Siv.own_below (Siv.own_below HO3.out HB4.out) hbx)
  have HB5 := Lib.hid ((HB3.out.trans (HB4.out.mono HB3.out.size)).trans (hbx.mono (HB3.out.trans (HB4.out.mono HB3.out.size)).size))
  have HI5 := Lib.hid ((HI4.out.keep fun k hk hl => hbx.block k hl).weak (Q := fun k => k < (w4.alloc (.cells (imA ⟨sg4, nd4, rp4, ⟨sya4, syc4⟩, bk4, fw4, ⟨rla4, rlc4⟩, sl4, ini4, fin4, ⟨tla4, tlc4⟩⟩ x) 38)).heap.size) fun k hk => by have := hbx.size; omega)
  clear hbx HI4 HB4 HX3 HX2 HE2 HO3 HB3 HB2 HDC HDF HS0
  change Code.wp _ _ _ _ (w4.alloc (.cells (imA ⟨sg4, nd4, rp4, ⟨sya4, syc4⟩, bk4, fw4, ⟨rla4, rlc4⟩, sl4, ini4, fin4, ⟨tla4, tlc4⟩⟩ x) 38))
  generalize w4.heap.size = g4 at *
  generalize w4.alloc (.cells (imA ⟨sg4, nd4, rp4, ⟨sya4, syc4⟩, bk4, fw4, ⟨rla4, rlc4⟩, sl4, ini4, fin4, ⟨tla4, tlc4⟩⟩ x) 38) = w5 at *
  have HE5 := Lib.hid (HEN.out _ w5 HI5.out)
  refine wp_region_lit ?_
  refine wpl_load_im HX5.out rfl ?_
  go_upto_region 6 with (go_at_call 13; (with_reducible refine (HE5.out).mono ?_); rintro en w6 ⟨A6, c6, rfl, ho6, hb6⟩; have HX6 := Lib.hid (HX5.out.below hb6); have HXX6 := Lib.hid (HXX5.out.below hb6); have HO6 := Lib.hid ho6; have HOA6 := Lib.hid (Siv.own_below HO5.out hb6); have HI6 := Lib.hid (HI5.out.lt hb6); have HB6 := Lib.hid (HB5.out.trans (hb6.mono HB5.out.size)); clear ho6 hb6)
  clear HE5 HEN HX5 HXX5 HO5 HI5 HB5
  have HIW := Lib.hid (HIM.out w6 HB6.out)
  obtain ⟨c0, c1', c2, c3', c4, c5, c6', c7, c8, c9, c10, c11, c12, c13, c14⟩ := HXX6.out.cells
  obtain ⟨d0, d1, d2, d3, d4, d5, d6, d7, d8, d9, d10, d11, d12, d13, d14⟩ := HX6.out.cells
  simp only at c5 c9 c10 c13 d5 d9 d10 d13
  have hcv3 := conv_string (Src.of_own HOA6.out)
  have hcv6 := conv_string (Src.of_own HO6.out)
  have hcvt := conv_string HIW.out.tls
  have hcvu := conv_string HI6.out.tls
  simp only at hcvt hcvu
  go_wp2_with fail
  clear c0 c1' c2 c3' c4 c5 c6' c7 c8 c9 c10 c11 c12 c13 c14 d0 d1 d2 d3 d4 d5 d6 d7 d8 d9 d10 d11 d12 d13 d14 hcv3 hcv6 hcvt hcvu
  go_loopw [12] (fun t wr => ∃ k : Nat, k ≤ x.syms.length ∧ t = .int .i64 k ∧ Below w6.heap.size w6 wr) (fun t _ => x.syms.length - (intOf t).toNat)
  case atStart => exact ⟨0, Nat.zero_le _, rfl, Below.refl _ _⟩
  case round =>
    obtain ⟨k, hk, rfl, hb⟩ := hrel
    have HBR := Lib.hid hb
    clear hb
    have HXa := Lib.hid (HXX6.out.below HBR.out)
    have HXb := Lib.hid (HX6.out.below HBR.out)
    obtain ⟨-, -, -, -, -, c5, -⟩ := HXa.out.cells
    obtain ⟨-, -, -, -, -, d5, -⟩ := HXb.out.cells
    simp only at c5 d5
    by_cases hlt : k < x.syms.length
    · have hk0 : (0 : Int) ≤ (k : Int) := by omega
      have hk1 : (k : Int) < (x.syms.length : Int) := by omega
      go_upto_region 11 with (fail)
      have HBX := Lib.hid (HBR.out.trans ((drew_below wr).mono HBR.out.size))
      clear c5 d5 HXa HXb
      generalize hw9 : wr.drew = w9 at *
      have hS : (fun X => X = w9) wr.drew := hw9
      obtain ⟨-, -, -, -, -, c5, -⟩ := (HXX6.out.below HBX.out).cells
      obtain ⟨-, -, -, -, -, d5, -⟩ := (HX6.out.below HBX.out).cells
      simp only at c5 d5
      have hA := (HIW.out.lt HBX.out).syms
      have hB := (HI6.out.lt HBX.out).syms
      simp only at hA hB
      obtain ⟨ad, rfl⟩ : ∃ ad, sya = some ad := by
        cases sya with
        | none => have := (hA.nil rfl).1; omega
        | some ad => exact ⟨ad, rfl⟩
      obtain ⟨ae, rfl⟩ : ∃ ae, sya4 = some ae := by
        cases sya4 with
        | none => have := (hB.nil rfl).1; omega
        | some ad => exact ⟨ad, rfl⟩
      have hca := hA.cap
      have hcb := hB.cap
      obtain ⟨ba, oa, rfl⟩ := hA.els.plain (by omega) rfl
      obtain ⟨bb, ob, rfl⟩ := hB.els.plain (by omega) rfl
      have e0 := hA.els.get k hlt 0 _ rfl
      have e1 := hA.els.get k hlt 1 _ rfl
      have e2 := hA.els.get k hlt 2 _ rfl
      have e3 := hA.els.get k hlt 3 _ rfl
      have e4 := hA.els.get k hlt 4 _ rfl
      have e5 := hA.els.get k hlt 5 _ rfl
      have e6 := hA.els.get k hlt 6 _ rfl
      have e7 := hA.els.get k hlt 7 _ rfl
      have e8 := hA.els.get k hlt 8 _ rfl
      have f0 := hB.els.get k hlt 0 _ rfl
      have f1 := hB.els.get k hlt 1 _ rfl
      have f2 := hB.els.get k hlt 2 _ rfl
      have f3 := hB.els.get k hlt 3 _ rfl
      have f4 := hB.els.get k hlt 4 _ rfl
      have f5 := hB.els.get k hlt 5 _ rfl
      have f6 := hB.els.get k hlt 6 _ rfl
      have f7 := hB.els.get k hlt 7 _ rfl
      have f8 := hB.els.get k hlt 8 _ rfl
      simp only [Nat.add_zero] at e0 f0
      clear hA hB
      generalize x.syms.getD k noSy = s at *
      have hq := sym_neq_self s
      refine wp_region_held_drew (S := (fun X => X = w9)) (by kernel_rfl) hS (fun hHeld0 => ?_)
      refine take_at (i := 0) (d := 113) (v := .pointer (some ⟨g4, 5, none⟩)) rfl rfl (by kernel_rfl) (by kernel_rfl) (by kernel_rfl) (fun _ _ _ h => h) (Or.inl ⟨by rfl, ?_⟩) (by assumption) ?_
      · intro X hX; subst hX; go_simp
      (try simp only [Act.put, List.setIfInBounds_toArray, List.set_cons_zero, List.set_cons_succ])
      refine take_at (i := 1) (d := 114) (v := .slice (some ⟨bb, ob, none⟩) x.syms.length syc4) rfl rfl (by kernel_rfl) (by kernel_rfl) (by kernel_rfl) (fun _ _ _ h => h) (Or.inl ⟨by rfl, ?_⟩) (by assumption) ?_
      · intro X hX; subst hX; go_simp
      (try simp only [Act.put, List.setIfInBounds_toArray, List.set_cons_zero, List.set_cons_succ])
      refine take_at (i := 2) (d := 115) (v := .int .i64 (k : Int)) rfl rfl (by kernel_rfl) (by kernel_rfl) (by kernel_rfl) (fun _ _ _ h => h) (Or.inl ⟨by rfl, ?_⟩) (by assumption) ?_
      · intro X hX; subst hX; go_simp
      (try simp only [Act.put, List.setIfInBounds_toArray, List.set_cons_zero, List.set_cons_succ])
      refine take_at (i := 3) (d := 116) (v := .pointer (some ⟨bb, ob + k * 9, none⟩)) rfl rfl (by kernel_rfl) (by kernel_rfl) (by kernel_rfl) (fun _ _ _ h => h) (Or.inl ⟨by rfl, ?_⟩) (by assumption) ?_
      · intro X hX; subst hX; go_simp
      (try simp only [Act.put, List.setIfInBounds_toArray, List.set_cons_zero, List.set_cons_succ])
      refine take_at (i := 4) (d := 117) (v := .agg (symA s)) rfl rfl (by kernel_rfl) (by kernel_rfl) (by kernel_rfl) (fun _ _ _ h => h) (Or.inl ⟨by rfl, ?_⟩) (by assumption) ?_
      · intro X hX; subst hX; go_simp
      (try simp only [Act.put, List.setIfInBounds_toArray, List.set_cons_zero, List.set_cons_succ])
      refine take_at (i := 5) (d := 118) (v := .pointer (some ⟨w.heap.size, 5, none⟩)) rfl rfl (by kernel_rfl) (by kernel_rfl) (by kernel_rfl) (fun _ _ _ h => h) (Or.inl ⟨by rfl, ?_⟩) (by assumption) ?_
      · intro X hX; subst hX; go_simp
      (try simp only [Act.put, List.setIfInBounds_toArray, List.set_cons_zero, List.set_cons_succ])
      refine take_at (i := 6) (d := 119) (v := .slice (some ⟨ba, oa, none⟩) x.syms.length syc) rfl rfl (by kernel_rfl) (by kernel_rfl) (by kernel_rfl) (fun _ _ _ h => h) (Or.inl ⟨by rfl, ?_⟩) (by assumption) ?_
      · intro X hX; subst hX; go_simp
      (try simp only [Act.put, List.setIfInBounds_toArray, List.set_cons_zero, List.set_cons_succ])
      refine take_at (i := 7) (d := 120) (v := .int .i64 (k : Int)) rfl rfl (by kernel_rfl) (by kernel_rfl) (by kernel_rfl) (fun _ _ _ h => h) (Or.inl ⟨by rfl, ?_⟩) (by assumption) ?_
      · intro X hX; subst hX; go_simp
      (try simp only [Act.put, List.setIfInBounds_toArray, List.set_cons_zero, List.set_cons_succ])
      refine take_at (i := 8) (d := 121) (v := .pointer (some ⟨ba, oa + k * 9, none⟩)) rfl rfl (by kernel_rfl) (by kernel_rfl) (by kernel_rfl) (fun _ _ _ h => h) (Or.inl ⟨by rfl, ?_⟩) (by assumption) ?_
      · intro X hX; subst hX; go_simp
      (try simp only [Act.put, List.setIfInBounds_toArray, List.set_cons_zero, List.set_cons_succ])
      refine take_at (i := 9) (d := 122) (v := .agg (symA s)) rfl rfl (by kernel_rfl) (by kernel_rfl) (by kernel_rfl) (fun _ _ _ h => h) (Or.inl ⟨by rfl, ?_⟩) (by assumption) ?_
      · intro X hX; subst hX; go_simp
      (try simp only [Act.put, List.setIfInBounds_toArray, List.set_cons_zero, List.set_cons_succ])
      refine take_at (i := 10) (d := 123) (v := .bool false) rfl rfl (by kernel_rfl) (by kernel_rfl) (by kernel_rfl) (fun _ _ _ h => h) (Or.inl ⟨by rfl, ?_⟩) (by assumption) ?_
      · intro X hX; subst hX; go_simp
      (try simp only [Act.put, List.setIfInBounds_toArray, List.set_cons_zero, List.set_cons_succ])
      refine wpAnyH_done (by kernel_rfl) ?_ _
      go_wp2_with fail
      go_roundw
      case rel => exact ⟨k + 1, by omega, by go_num, HBX.out⟩
      case measure => simp [intOf]; omega
    · obtain rfl : k = x.syms.length := by omega
      go_wp2_with fail
      clear c5 d5 HXa HXb
      go_loopw [13] (fun t wr => ∃ k : Nat, k ≤ x.relocs.length ∧ t = .int .i64 k ∧ Below w6.heap.size w6 wr) (fun t _ => x.relocs.length - (intOf t).toNat)
      case atStart => exact ⟨0, Nat.zero_le _, rfl, HBR.out⟩
      case round =>
        obtain ⟨k, hk, rfl, hb⟩ := hrel
        have HBR := Lib.hid hb
        clear hb
        have HXa := Lib.hid (HXX6.out.below HBR.out)
        have HXb := Lib.hid (HX6.out.below HBR.out)
        obtain ⟨-, -, -, -, -, -, -, -, -, c9, -⟩ := HXa.out.cells
        obtain ⟨-, -, -, -, -, -, -, -, -, d9, -⟩ := HXb.out.cells
        simp only at c9 d9
        by_cases hlt : k < x.relocs.length
        · have hk0 : (0 : Int) ≤ (k : Int) := by omega
          have hk1 : (k : Int) < (x.relocs.length : Int) := by omega
          go_upto_region 16 with (fail)
          have HBX := Lib.hid (HBR.out.trans ((drew_below wr).mono HBR.out.size))
          clear c9 d9 HXa HXb
          generalize hw9 : wr.drew = w9 at *
          have hS : (fun X => X = w9) wr.drew := hw9
          obtain ⟨-, -, -, -, -, -, -, -, -, c9, -⟩ := (HXX6.out.below HBX.out).cells
          obtain ⟨-, -, -, -, -, -, -, -, -, d9, -⟩ := (HX6.out.below HBX.out).cells
          simp only at c9 d9
          have hA := (HIW.out.lt HBX.out).relocs
          have hB := (HI6.out.lt HBX.out).relocs
          simp only at hA hB
          obtain ⟨ad, rfl⟩ : ∃ ad, rla = some ad := by
            cases rla with
            | none => have := (hA.els.nil rfl).1; omega
            | some ad => exact ⟨ad, rfl⟩
          obtain ⟨ae, rfl⟩ : ∃ ae, rla4 = some ae := by
            cases rla4 with
            | none => have := (hB.els.nil rfl).1; omega
            | some ad => exact ⟨ad, rfl⟩
          have hca := hA.els.cap
          have hcb := hB.els.cap
          obtain ⟨ba, oa, rfl⟩ := hA.els.plain (by omega) rfl
          obtain ⟨bb, ob, rfl⟩ := hB.els.plain (by omega) rfl
          have e0 := hA.els.get k hlt 0 _ rfl
          have e1 := hA.els.get k hlt 1 _ rfl
          have e2 := hA.els.get k hlt 2 _ rfl
          have e3 := hA.els.get k hlt 3 _ rfl
          have f0 := hB.els.get k hlt 0 _ rfl
          have f1 := hB.els.get k hlt 1 _ rfl
          have f2 := hB.els.get k hlt 2 _ rfl
          have f3 := hB.els.get k hlt 3 _ rfl
          simp only [Nat.add_zero] at e0 f0
          clear hA hB
          generalize x.relocs.getD k noRl = s at *
          have hq := rl_neq_self s
          refine wp_region_held_drew (S := (fun X => X = w9)) (by kernel_rfl) hS (fun hHeld0 => ?_)
          refine take_at (i := 0) (d := 131) (v := .pointer (some ⟨g4, 9, none⟩)) rfl rfl (by kernel_rfl) (by kernel_rfl) (by kernel_rfl) (fun _ _ _ h => h) (Or.inl ⟨by rfl, ?_⟩) (by assumption) ?_
          · intro X hX; subst hX; go_simp
          (try simp only [Act.put, List.setIfInBounds_toArray, List.set_cons_zero, List.set_cons_succ])
          refine take_at (i := 1) (d := 132) (v := .slice (some ⟨bb, ob, none⟩) x.relocs.length rlc4) rfl rfl (by kernel_rfl) (by kernel_rfl) (by kernel_rfl) (fun _ _ _ h => h) (Or.inl ⟨by rfl, ?_⟩) (by assumption) ?_
          · intro X hX; subst hX; go_simp
          (try simp only [Act.put, List.setIfInBounds_toArray, List.set_cons_zero, List.set_cons_succ])
          refine take_at (i := 2) (d := 133) (v := .int .i64 (k : Int)) rfl rfl (by kernel_rfl) (by kernel_rfl) (by kernel_rfl) (fun _ _ _ h => h) (Or.inl ⟨by rfl, ?_⟩) (by assumption) ?_
          · intro X hX; subst hX; go_simp
          (try simp only [Act.put, List.setIfInBounds_toArray, List.set_cons_zero, List.set_cons_succ])
          refine take_at (i := 3) (d := 134) (v := .pointer (some ⟨bb, ob + k * 4, none⟩)) rfl rfl (by kernel_rfl) (by kernel_rfl) (by kernel_rfl) (fun _ _ _ h => h) (Or.inl ⟨by rfl, ?_⟩) (by assumption) ?_
          · intro X hX; subst hX; go_simp
          (try simp only [Act.put, List.setIfInBounds_toArray, List.set_cons_zero, List.set_cons_succ])
          refine take_at (i := 4) (d := 135) (v := .agg (rlA s)) rfl rfl (by kernel_rfl) (by kernel_rfl) (by kernel_rfl) (fun _ _ _ h => h) (Or.inl ⟨by rfl, ?_⟩) (by assumption) ?_
          · intro X hX; subst hX; go_simp
          (try simp only [Act.put, List.setIfInBounds_toArray, List.set_cons_zero, List.set_cons_succ])
          refine take_at (i := 5) (d := 136) (v := .pointer (some ⟨w.heap.size, 9, none⟩)) rfl rfl (by kernel_rfl) (by kernel_rfl) (by kernel_rfl) (fun _ _ _ h => h) (Or.inl ⟨by rfl, ?_⟩) (by assumption) ?_
          · intro X hX; subst hX; go_simp
          (try simp only [Act.put, List.setIfInBounds_toArray, List.set_cons_zero, List.set_cons_succ])
          refine take_at (i := 6) (d := 137) (v := .slice (some ⟨ba, oa, none⟩) x.relocs.length rlc) rfl rfl (by kernel_rfl) (by kernel_rfl) (by kernel_rfl) (fun _ _ _ h => h) (Or.inl ⟨by rfl, ?_⟩) (by assumption) ?_
          · intro X hX; subst hX; go_simp
          (try simp only [Act.put, List.setIfInBounds_toArray, List.set_cons_zero, List.set_cons_succ])
          refine take_at (i := 7) (d := 138) (v := .int .i64 (k : Int)) rfl rfl (by kernel_rfl) (by kernel_rfl) (by kernel_rfl) (fun _ _ _ h => h) (Or.inl ⟨by rfl, ?_⟩) (by assumption) ?_
          · intro X hX; subst hX; go_simp
          (try simp only [Act.put, List.setIfInBounds_toArray, List.set_cons_zero, List.set_cons_succ])
          refine take_at (i := 8) (d := 139) (v := .pointer (some ⟨ba, oa + k * 4, none⟩)) rfl rfl (by kernel_rfl) (by kernel_rfl) (by kernel_rfl) (fun _ _ _ h => h) (Or.inl ⟨by rfl, ?_⟩) (by assumption) ?_
          · intro X hX; subst hX; go_simp
          (try simp only [Act.put, List.setIfInBounds_toArray, List.set_cons_zero, List.set_cons_succ])
          refine take_at (i := 9) (d := 140) (v := .agg (rlA s)) rfl rfl (by kernel_rfl) (by kernel_rfl) (by kernel_rfl) (fun _ _ _ h => h) (Or.inl ⟨by rfl, ?_⟩) (by assumption) ?_
          · intro X hX; subst hX; go_simp
          (try simp only [Act.put, List.setIfInBounds_toArray, List.set_cons_zero, List.set_cons_succ])
          refine take_at (i := 10) (d := 141) (v := .bool false) rfl rfl (by kernel_rfl) (by kernel_rfl) (by kernel_rfl) (fun _ _ _ h => h) (Or.inl ⟨by rfl, ?_⟩) (by assumption) ?_
          · intro X hX; subst hX; go_simp
          (try simp only [Act.put, List.setIfInBounds_toArray, List.set_cons_zero, List.set_cons_succ])
          refine wpAnyH_done (by kernel_rfl) ?_ _
          go_wp2_with fail
          go_roundw
          case rel => exact ⟨k + 1, by omega, by go_num, HBX.out⟩
          case measure => simp [intOf]; omega
        · obtain rfl : k = x.relocs.length := by omega
          go_wp2_with fail
          clear c9 d9 HXa HXb
          have HT := Lib.hid (HB6.out.trans (HBR.out.mono HB6.out.size))
          clear HBR HX6 HXX6 HO6 HOA6 HI6 HB6 HIW HIM HL
          have HDT := decode_any _ A1 b1.length c1 b1 wr (HSR.out.below HT.out (fun _ h => h)) (by have := HLB.out; unfold Long at this; omega)
          by_cases hdz : decE b1 = 0
          · obtain ⟨hdr, hdm⟩ := dec_ok hdz
            have hdf := form_dec hdz
            have hfit := dec_fit b1
            unfold Dec at HDT
            rw [hdz] at HDT
            clear hdr
            generalize decI b1 = y at *
            have HDT := Lib.hid HDT
            go_upto_region 21 with (go_at_call 17; (with_reducible refine (HDT.out).mono ?_); rintro en w8 (⟨hd, -⟩ | ⟨-, p8, rfl, h8, hb8⟩); (exact absurd rfl hd); have HI8 := Lib.hid h8; have HB8 := Lib.hid hb8; clear h8 hb8)
            have hbx := ibox_below w8 p8 y
            have HX9 := Lib.hid (Ix.new w8 p8 y)
            have HT8 := Lib.hid (HT.out.trans (HB8.out.mono HT.out.size))
            have HT9 := Lib.hid (HT8.out.trans (hbx.mono HT8.out.size))
            have HI9 := Lib.hid ((HI8.out.keep fun k hk hl => hbx.block k hl).weak (Q := fun k => k < (w8.alloc (.cells (imA p8 y) 38)).heap.size) fun k hk => by have := hbx.size; omega)
            clear hbx HI8 HB8 HDT HT8
            change Code.wp _ _ _ _ (w8.alloc (.cells (imA p8 y) 38))
            generalize w8.heap.size = g9 at *
            generalize w8.alloc (.cells (imA p8 y) 38) = w9 at *
            have HEN9 := encode_yes p8 y w9 HI9.out hfit hdm
            rw [hdf] at HEN9
            have HEN9 := Lib.hid HEN9
            refine wp_region_lit ?_
            refine wpl_load_im HX9.out rfl ?_
            go_upto_region 22 with (go_at_call 13; (with_reducible refine (HEN9.out).mono ?_); rintro en w10 ⟨A10, c10', rfl, ho10, hb10⟩; have HO10 := Lib.hid ho10; have HX10 := Lib.hid (HX9.out.below hb10); have HI10 := Lib.hid (HI9.out.lt hb10); have HT10 := Lib.hid (HT9.out.trans (hb10.mono HT9.out.size)); clear ho10 hb10)
            have hcv10 := conv_string (Src.of_own HO10.out)
            have hcvb := conv_string (HSR.out.below HT10.out (fun _ h => h))
            obtain ⟨r0, r1, r2, r3, r4, r5, r6, r7, r8, r9, r10, r11, r12, r13, r14⟩ := HX10.out.cells
            have HM10 := may_im_any p8 y w10 HI10.out hfit
            rw [hdm] at HM10
            have HM10 := Lib.hid HM10
            go_wp2_with (go_at_call 11; (with_reducible refine (HM10.out).mono ?_); rintro en w11 ⟨rfl, hb11⟩; have HT11 := Lib.hid (HT10.out.trans (hb11.mono HT10.out.size)); clear hb11)
            go_ret
            exact ⟨rfl, HT11.out⟩
          · have hdn : (decE b1 != 0) = true := by simpa using hdz
            unfold Dec at HDT
            generalize decE b1 = dz at *
            have HDT := Lib.hid HDT
            go_wp2_with (go_at_call 17; (with_reducible refine (HDT.out).mono ?_); rintro en w8 (⟨-, rfl, hb8⟩ | ⟨h0, -⟩); rotate_left; (exact absurd h0 hdz); have HT8 := Lib.hid (HT.out.trans (hb8.mono HT.out.size)); clear hb8)
            go_ret
            exact ⟨rfl, HT8.out.alloc HT8.out.size _⟩
theorem backs_any (p : Pl) (x : Im) (A1 : Option Addr) (c1 : Nat) (b1 : Str) (w : World) (h : ImIn w (fun k => k < w.heap.size) p x) (hf : Fit x) (hs : Src w (fun k => k < w.heap.size) A1 b1.length c1 (cells b1)) (hl : Long b1.length) :
    Calls Tryz.prog 6 #[imV p x, .slice A1 b1.length c1] w fun e w' => e = .returned (.bool true) ∧ Below w.heap.size w w' := by
  by_cases hm : mayE x = 0
  · exact backs_yes p x A1 c1 b1 w h hf hs hl hm
  · exact backs_no p x A1 c1 b1 w h hf hs hl hm
end Go.Proofs.YtacknedekhpklaaGreat
