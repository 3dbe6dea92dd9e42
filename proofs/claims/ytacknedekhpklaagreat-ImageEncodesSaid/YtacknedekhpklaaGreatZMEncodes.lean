/-
  The bytes of any image: the walk of the law.
-/
import Derived.Test.YtacknedekhpklaaGreatZTOt
import Derived.Test.YtacknedekhpklaaGreatZVA
import Derived.Test.YtacknedekhpklaaGreatZGB
import Derived.Test.YtacknedekhpklaaGreatZCNb
namespace Go.Proofs.YtacknedekhpklaaGreat
set_option maxRecDepth 100000
set_option linter.unusedSimpArgs false
set_option linter.unusedVariables false
open Go.RowKit

set_option maxHeartbeats 8000000 in
theorem encodes_no (p : Pl) (x : Im) (w : World) (h : ImIn w (fun k => k < w.heap.size) p x) (hf : Fit x) (hm : mayE x ≠ 0) :
    Calls Tryz.prog 4 #[imV p x] w fun e w' => e = .returned (.bool true) ∧ Below w.heap.size w w' := by
  have HS0 := Lib.hid (show MSX w p x (w.alloc (.cells (imA p x) 38)) from ⟨ibox_below _ _ _, Ix.new _ _ _⟩)
  have HEN := Lib.hid (fun (X : World) (hX : Below w.heap.size w X) => encode_no p x X (h.lt hX) hf hm)
  have HMY := Lib.hid (fun (X : World) (hX : Below w.heap.size w X) => dmay_any p x X (h.lt hX) hf)
  have hm0 : (mayE x == 0) = false := by simpa using hm
  have hm1 : (mayE x != 0) = true := by simpa using hm
  clear h hf hm
  generalize mayE x = m at *
  go_enter Tryz.func4, Tryz.ntmps4
  go_upto_region 1 with (fail)
  change Code.wp _ _ _ _ (w.alloc (.cells (imA p x) 38))
  generalize w.alloc (.cells (imA p x) 38) = w1 at *
  go_upto_region 2 with (go_at_call 10; (with_reducible refine (iawake_any _).mono ?_); rintro en w2 ⟨rfl, hb2⟩; have HS2 := Lib.hid (HS0.out.on hb2); clear hb2)
  have HE2 := Lib.hid (HEN.out w2 HS2.out.1)
  refine wp_region_lit ?_
  refine wpl_load_im HS2.out.2 rfl ?_
  go_upto_region 3 with (go_at_call 13; (with_reducible refine (HE2.out).mono ?_); rintro en w3 ⟨rfl, hb3⟩; have HS3 := Lib.hid (HS2.out.on hb3); clear hb3)
  have HE3 := Lib.hid (HEN.out w3 HS3.out.1)
  refine wp_region_lit ?_
  refine wpl_load_im HS3.out.2 rfl ?_
  go_upto_region 4 with (go_at_call 13; (with_reducible refine (HE3.out).mono ?_); rintro en w4 ⟨rfl, hb4⟩; have HS4 := Lib.hid (HS3.out.on hb4); clear hb4)
  have HE4 := Lib.hid (HMY.out w4 HS4.out.1)
  refine wp_region_lit ?_
  refine wpl_load_im HS4.out.2 rfl ?_
  go_wp2_with (go_at_call 12; (with_reducible refine (HE4.out).mono ?_); rintro en w5 ⟨rfl, hb5⟩; have HS5 := Lib.hid (HS4.out.on hb5); clear hb5)
  go_ret
  exact ⟨rfl, HS5.out.1⟩
set_option maxHeartbeats 8000000 in
theorem encodes_yes (p : Pl) (x : Im) (w : World) (h : ImIn w (fun k => k < w.heap.size) p x) (hf : Fit x) (hm : mayE x = 0) :
    Calls Tryz.prog 4 #[imV p x] w fun e w' => e = .returned (.bool true) ∧ Below w.heap.size w w' := by
  have HS0 := Lib.hid (show MSX w p x (w.alloc (.cells (imA p x) 38)) from ⟨ibox_below _ _ _, Ix.new _ _ _⟩)
  have HEN := Lib.hid (fun (X : World) (hX : Below w.heap.size w X) => encode_yes p x X (h.lt hX) hf hm)
  have HMY := (fun (X : World) (hX : Below w.heap.size w X) => dmay_any p x X (h.lt hX) hf)
  rw [hm] at HMY
  have HMY := Lib.hid HMY
  have HDF := Lib.hid (fun (X : World) (hX : Below w.heap.size w X) => dform_any p x X (h.lt hX) hf hm)
  have HL := Lib.hid (form_ok hm hf).2.2
  clear h hf hm
  generalize formL x = l at *
  go_enter Tryz.func4, Tryz.ntmps4
  go_upto_region 1 with (fail)
  change Code.wp _ _ _ _ (w.alloc (.cells (imA p x) 38))
  generalize w.alloc (.cells (imA p x) 38) = w1 at *
  go_upto_region 2 with (go_at_call 10; (with_reducible refine (iawake_any _).mono ?_); rintro en w2 ⟨rfl, hb2⟩; have HS2 := Lib.hid (HS0.out.on hb2); clear hb2)
  have HE2 := Lib.hid (HEN.out w2 HS2.out.1)
  refine wp_region_lit ?_
  refine wpl_load_im HS2.out.2 rfl ?_
  go_upto_region 3 with (go_at_call 13; (with_reducible refine (HE2.out).mono ?_); rintro en w3 ⟨A3, c3, rfl, ho3, hb3⟩; have HS3 := Lib.hid (HS2.out.on hb3); have HO3 := Lib.hid ho3; clear hb3 ho3)
  have HE3 := Lib.hid (HEN.out w3 HS3.out.1)
  refine wp_region_lit ?_
  refine wpl_load_im HS3.out.2 rfl ?_
  go_upto_region 4 with (go_at_call 13; (with_reducible refine (HE3.out).mono ?_); rintro en w4 ⟨A4, c4, rfl, ho4, hb4⟩; have HS4 := Lib.hid (HS3.out.on hb4); have HO4 := Lib.hid ho4; have HO34 := Lib.hid (Siv.own_below HO3.out hb4); clear hb4 ho4)
  have HDI := Lib.hid (show ∀ k, row A3 = some k → row A4 ≠ some k from fun k h1 h2 => by
    have q1 := (HO3.out.lt k (by rw [row_own]; exact h1)).2
    have q2 := (HO4.out.lt k (by rw [row_own]; exact h2)).1
    omega)
  have HE4 := Lib.hid (HMY.out w4 HS4.out.1)
  refine wp_region_lit ?_
  refine wpl_load_im HS4.out.2 rfl ?_
  go_upto_region 9 with (go_at_call 12; (with_reducible refine (HE4.out).mono ?_); rintro en w5 ⟨rfl, hb5⟩; have HS5 := Lib.hid (HS4.out.on hb5); have HB5 := Lib.hid hb5; clear hb5)
  have HE5 := Lib.hid (HDF.out w5 HS5.out.1)
  refine wp_region_lit ?_
  refine wpl_load_im HS5.out.2 rfl ?_
  go_upto_region 10 with (go_at_call 14; (with_reducible refine (HE5.out).mono ?_); rintro en w6 ⟨A6, c6, rfl, hs6, hb6⟩; have HS6 := Lib.hid (HS5.out.on hb6); have HSR6 := Lib.hid hs6; have HB6 := Lib.hid (HB5.out.trans (hb6.mono HB5.out.size)); clear hb6 hs6)
  have ho3 := own_more (Siv.own_below HO34.out HB6.out) HS2.out.1.size
  have ho4 := own_more (Siv.own_below HO4.out HB6.out) HS3.out.1.size
  have hcv3 := conv_string (Src.of_own ho3)
  have hcv4 := conv_string (Src.of_own ho4)
  have hcv6 := conv_string HSR6.out
  have hro : (w6.alloc (.cells #[.slice A3 l.length c3, .slice A4 l.length c4] 36)).heap[w6.heap.size]? = some (.cells #[.slice A3 l.length c3, .slice A4 l.length c4] 36 (0, 0)) := heap_alloc_new _ _
  have C := owned_many w.heap.size w6.heap.size 2 (fun i => if i = 0 then A3 else A4) (fun i => l.length) (fun i => if i = 0 then c3 else c4) (fun i => cells l) #[.slice A3 l.length c3, .slice A4 l.length c4] (w6.alloc (.cells #[.slice A3 l.length c3, .slice A4 l.length c4] 36)) (by omega) hro
    (fun i hi => by
      have : i = 0 ∨ i = 1 := by omega
      rcases this with rfl | rfl <;> rfl)
    (fun i hi => by
      have : i = 0 ∨ i = 1 := by omega
      rcases this with rfl | rfl
      · exact ho3.alloc _
      · exact ho4.alloc _)
    (fun i j hi hj hij => by
      have : (i = 0 ∧ j = 1) ∨ (i = 1 ∧ j = 0) := by omega
      rcases this with ⟨rfl, rfl⟩ | ⟨rfl, rfl⟩
      · exact HDI.out
      · exact fun q h1 h2 => HDI.out q h2 h1)
    (by have := HS6.out.1.size; rw [World.size_alloc]; omega)
    (fun i hi => by have := HL.out; omega)
  have HO := Lib.hid C
  have HB7 := Lib.hid (HS6.out.1.alloc HS6.out.1.size (.cells #[.slice A3 l.length c3, .slice A4 l.length c4] 36))
  clear ho3 ho4 hro C HO3 HO4 HO34 HDI HS0 HS2 HS3 HS4 HS5 HE2 HE3 HE4 HE5 HEN HMY HDF HSR6 HB5 HB6
  go_wp2_with (go_at_call 15; (with_reducible refine (HO.out).mono ?_); rintro en w8 ⟨rfl, hb8⟩; have HB8 := Lib.hid hb8; clear hb8)
  go_ret
  exact ⟨rfl, HB7.out.trans HB8.out⟩
theorem encodes_any (p : Pl) (x : Im) (w : World) (h : ImIn w (fun k => k < w.heap.size) p x) (hf : Fit x) :
    Calls Tryz.prog 4 #[imV p x] w fun e w' => e = .returned (.bool true) ∧ Below w.heap.size w w' := by
  by_cases hm : mayE x = 0
  · exact encodes_yes p x w h hf hm
  · exact encodes_no p x w h hf hm
end Go.Proofs.YtacknedekhpklaaGreat
