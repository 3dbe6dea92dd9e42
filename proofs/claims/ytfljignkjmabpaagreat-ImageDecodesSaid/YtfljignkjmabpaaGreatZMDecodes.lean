/- A part of the proof. -/
import Derived.Test.YtfljignkjmabpaaGreatZDG
import Derived.Test.YtfljignkjmabpaaGreatZSF
import Derived.Test.YtfljignkjmabpaaGreatZGB
set_option linter.unusedSimpArgs false
set_option linter.unusedVariables false
namespace Go.Proofs.YtfljignkjmabpaaGreat
set_option maxRecDepth 100000
open Go.RowKit
theorem cap_of_trod {H : Type} {enc : TypeId × Value → H} {W : World} {t e : TypeId} {a : Option Addr} {n c : Nat} {d : DataW H} {p : List MemPlace} (ht : Tryz.prog.underlying t = some (.slice e)) (h : DataW.Trod enc Tryz.prog W 0 (fun _ => true) true t (.slice a n c) d p) : c ≤ 9223372036854775807 := by
 obtain ⟨fuel, hf⟩ := h
 rcases Go.Deep.open_slice ht hf with ⟨hcs, _⟩ | ⟨a0, len, cap, m, n', D, Pl, hcs, _, hl, hm, _, hx, _⟩
 ·
  simp [Value.cells] at hcs
  omega
 ·
  simp [Value.cells] at hcs
  simp only [maxLen] at hm
  omega
theorem src_lent {w : World} {g : Nat} {l : List UInt8} (h : w.heap[g]? = some (.cells (lentCells l).toArray 5 (0, 0))) : Src w (fun k => k = g) (some ⟨g, 0, none⟩) l.length (l.length + 3) (cells l) := by
 refine ⟨cells_len l, (by intro e; cases e), by omega, (by intro ad e _; cases e; rfl), ?_⟩
 intro ad e j v hv
 cases e
 have hj : j < l.length := by
  rcases Nat.lt_or_ge j l.length with h1 | h1
  ·
   exact h1
  ·
   rw [List.getElem?_eq_none (by rw [cells_len]; exact h1)] at hv; cases hv
 rw [plainAdd, Nat.zero_add, cell_of_row w g j _ _ _ h]
 unfold lentCells
 rw [List.getElem?_toArray, List.getElem?_append_left (by rw [cells_len]; exact hj)]
 exact hv
set_option maxHeartbeats 4000000 in
theorem dsame_yes (p p' : Pl) (x : Im) (w : World) (h : ImIn w (fun k => k < w.heap.size) p x) (h' : ImIn w (fun k => k < w.heap.size) p' x) (hf : Fit x) (hm : mayE x = 0) :
  Calls Tryz.prog 11 #[imV p x, imV p' x] w fun e w' => e = .returned (.bool true) ∧ Below w.heap.size w w' := by
 have hb1 := ibox_below w p x
 have hz1 : (w.alloc (.cells (imA p x) 40)).heap.size = w.heap.size + 1 := by simp
 have hb2 := ibox_below (w.alloc (.cells (imA p x) 40)) p' x
 have hn2 := Ix.new (w.alloc (.cells (imA p x) 40)) p' x
 rw [hz1] at hn2
 have HS1 := hD ((Ix.new w p x).below hb2)
 have HS2 := hD hn2
 have hb := hb1.trans (hb2.mono (by omega))
 have HB1 := hD hb
 have HD1 := hD (dform_any p x _ (h.lt hb) hf hm)
 have HD2 := hD (fun (X : World) (hX : Below w.heap.size w X) => dform_any p' x X (h'.lt hX) hf hm)
 clear h h' hb1 hz1 hb2 hn2 hb hf hm
 go_enter Tryz.func11, Tryz.ntmps11
 go_upto_region 1 with (fail)
 change Code.wp _ _ _ _ ((w.alloc (.cells (imA p x) 40)).alloc (.cells (imA p' x) 40))
 generalize (w.alloc (.cells (imA p x) 40)).alloc (.cells (imA p' x) 40) = w1 at *
 generalize formL x = fl at *
 refine wp_region_lit ?_
 refine wpl_load_im HS1.out rfl ?_
 go_upto_region 2 with (go_at_call 21; (with_reducible refine (HD1.out).mono ?_); rintro en w2 ⟨A1, c1, rfl, hs1, hb2⟩; have HA := hD hs1; have HB2 := hD hb2; clear hs1 hb2)
 have HT2 := hD (HB1.out.trans (HB2.out.mono HB1.out.size))
 have HS3 := hD (HS2.out.below HB2.out)
 have HD3 := hD (HD2.out w2 HT2.out)
 refine wp_region_lit ?_
 refine wpl_load_im HS3.out rfl ?_
 go_upto_region 3 with (go_at_call 21; (with_reducible refine (HD3.out).mono ?_); rintro en w3 ⟨A2, c2, rfl, hs2, hb3⟩; have HA2 := hD hs2; have HB3 := hD hb3; clear hs2 hb3)
 have hcv1 := conv_string (HA.out.below HB3.out (fun _ h => h))
 have hcv2 := conv_string HA2.out
 have HT3 := hD (HT2.out.trans (HB3.out.mono HT2.out.size))
 clear HD1 HD2 HD3 HS1 HS2 HS3 HB1 HB2 HB3 HT2 HA HA2
 go_wp2_with (fail)
 go_ret
 exact ⟨by simp, HT3.out⟩
set_option maxHeartbeats 4000000 in
theorem iempty_yes (w : World) : Calls Tryz.prog 10 #[.agg zIm] w fun e w' => e = .returned (.bool true) ∧ Below w.heap.size w w' := by
 have HX := hD (Bx.new w zIm 40)
 have HB := hD (show Below w.heap.size w (w.alloc (.cells zIm 40)) from (Below.refl _ _).alloc (Nat.le_refl _) _)
 go_enter Tryz.func10, Tryz.ntmps10
 go_upto_region 1 with (fail)
 change Code.wp _ _ _ _ (w.alloc (.cells zIm 40))
 generalize w.alloc (.cells zIm 40) = w1 at *
 obtain ⟨k0, k1, k2, k3, k4, k5, k6, k7, k8, k9, k10, k11, k12, k13, k14⟩ := bx_cells HX.out
 go_wp2_with (fail)
 go_ret
 exact ⟨rfl, HB.out⟩
theorem dec_no {f : Nat} {args : Array Value} {w : World} {l : Str} (hd : decE l ≠ 0) (h : Calls Tryz.prog f args w (Dec w l)) : Calls Tryz.prog f args w fun e w' => e = .returned (.tuple #[.agg zIm, .int .i64 (decE l)]) ∧ Below w.heap.size w w' :=
 h.mono fun e w' hh => by
  rcases hh with ⟨_, h1, h2⟩ | ⟨h0, _⟩
  ·
   exact ⟨h1, h2⟩
  ·
   exact absurd h0 hd
theorem dec_yes {f : Nat} {args : Array Value} {w : World} {l : Str} (hd : decE l = 0) (h : Calls Tryz.prog f args w (Dec w l)) : Calls Tryz.prog f args w fun e w' => ∃ p, e = .returned (.tuple #[imV p (decI l), .int .i64 0]) ∧ ImIn w' (fun k => w.heap.size ≤ k ∧ k < w'.heap.size) p (decI l) ∧ Below w.heap.size w w' :=
 h.mono fun e w' hh => by
  rcases hh with ⟨h0, _⟩ | ⟨_, p, h1, h2, h3⟩
  ·
   exact absurd hd h0
  ·
   exact ⟨p, h1, h2, h3⟩
set_option maxHeartbeats 8000000 in
theorem decodes_no (A : Option Addr) (c : Nat) (l : Str) (w : World) (h : Src w (fun k => k < w.heap.size) A l.length c (cells l)) (hl : l.length ≤ 140737488351232) (hc : c ≤ 9223372036854775807) (hd : decE l ≠ 0) :
  Calls Tryz.prog 3 #[.slice A l.length c] w fun e w' => e = .returned (.bool true) ∧ Below w.heap.size w w' := by
 have HS := hD h
 have HL := hD (show l.length ≤ 140737488351232 from hl)
 have HC := hD hc
 have HD := hD hd
 clear h hl hc hd
 go_enter Tryz.func3, Tryz.ntmps3
 go_upto_region 2 with (go_at_call 5; (with_reducible refine (iawake_any _).mono ?_); rintro en w2 ⟨rfl, hb2⟩; have HB2 := hD hb2; clear hb2)
 have HS2 := hD (HS.out.keep fun k hk _ => HB2.out.block k hk : Src w2 (fun k => k < w.heap.size) A l.length c (cells l))
 have HLT := hD (show Calls Tryz.prog 6 #[.slice A l.length c] w2 (fun en w' => ∃ g, en = .returned (.slice (some ⟨g, 0, none⟩) l.length (l.length + 3)) ∧ w'.heap[g]? = some (.cells (lentCells l).toArray 5 (0, 0)) ∧ Below w2.heap.size w2 w' ∧ w2.heap.size ≤ g) from lent_any (fun k => k < w.heap.size) A l.length c l w2 HS2.out HL.out)
 go_upto_region 3 with (go_at_call 6; (with_reducible refine (HLT.out).mono ?_); rintro en w3 ⟨g, rfl, hg, hb3, hgg⟩; have HG3 := hD hg; have HB3 := hD (HB2.out.trans (hb3.mono HB2.out.size)); have HGW := hD (Nat.le_trans HB2.out.size hgg : w.heap.size ≤ g); clear hg hb3 hgg)
 clear HLT HS2 HB2
 have HGL := hD (show g < w3.heap.size from Bx.lt (show Bx w3 g _ _ from HG3.out))
 have HDT := hD (dec_no HD.out (decode_any (fun k => k = g) (some ⟨g, 0, none⟩) l.length (l.length + 3) l w3 (src_lent HG3.out) (by have := HL.out; omega)))
 go_upto_region 4 with (go_at_call 7; (with_reducible refine (HDT.out).mono ?_); rintro en w4 ⟨rfl, hb⟩; have HB4 := hD (HB3.out.trans (hb.mono HB3.out.size)); have HG4 := hD ((hb.block g HGL.out).trans HG3.out); have HGL4 := hD (Nat.lt_of_lt_of_le HGL.out hb.size); clear hb)
 clear HDT HG3 HB3
 have hbx : Below w4.heap.size w4 (w4.alloc (.cells (zIm) 40)) := (Below.refl _ _).alloc (Nat.le_refl _) _
 have HX5 := hD (Bx.new w4 (zIm) 40)
 have HB5 := hD (HB4.out.trans (hbx.mono HB4.out.size))
 have HG5 := hD ((hbx.block g HGL4.out).trans HG4.out)
 have HQ1 := hD (show g ≠ w4.heap.size from by have := HGL4.out; omega)
 clear hbx HG4 HB4
 change Code.wp _ _ _ _ (w4.alloc (.cells (zIm) 40))
 generalize w4.alloc (.cells (zIm) 40) = w5 at *
 generalize w4.heap.size = q1 at *
 have HS5 := hD (HS.out.keep fun k hk _ => HB5.out.block k hk : Src w5 (fun k => k < w.heap.size) A l.length c (cells l))
 have HBK := hD (back_any' (fun k => k < w.heap.size) g A l.length c l w5 HS5.out HG5.out (by have := HGW.out; omega) HL.out)
 go_upto_region 5 with (go_at_call 8; (with_reducible refine (HBK.out).mono ?_); rintro en w6 ⟨rfl, hgr⟩; have HB6 := hD (show Below w.heap.size w w6 from ⟨hgr.os.trans HB5.out.os, hgr.tape.trans HB5.out.tape, hgr.output.trans HB5.out.output, Nat.le_trans HB5.out.size hgr.size, fun k hk => (hgr.block k (Nat.lt_of_lt_of_le hk HB5.out.size) (fun e => by have := HGW.out; injection e with e; omega)).trans (HB5.out.block k hk)⟩); have HX6 := hD (show Bx w6 q1 (zIm) 40 from (hgr.block q1 HX5.out.lt (fun e => by injection e with e; exact HQ1.out e.symm)).trans HX5.out); clear hgr)
 clear HBK HS5 HG5 HX5 HB5
 have HS6 := hD (HS.out.keep fun k hk _ => HB6.out.block k hk : Src w6 (fun k => k < w.heap.size) A l.length c (cells l))
 have HDR := hD (dec_no HD.out (ddecode_any (fun k => k < w.heap.size) A l.length c l w6 HS6.out (fun k hk => Nat.lt_of_lt_of_le hk HB6.out.size) (by have := HL.out; omega) HC.out))
 go_upto_region 6 with (go_at_call 9; (with_reducible refine (HDR.out).mono ?_); rintro en w7 ⟨rfl, hb⟩; have HB7 := hD (HB6.out.trans (hb.mono HB6.out.size)); have HX7 := hD (HX6.out.below hb); clear hb)
 clear HDR HS6 HX6 HB6
 have hbx : Below w7.heap.size w7 (w7.alloc (.cells (zIm) 40)) := (Below.refl _ _).alloc (Nat.le_refl _) _
 have HY8 := hD (Bx.new w7 (zIm) 40)
 have HX8 := hD (HX7.out.below hbx)
 have HB8 := hD (HB7.out.trans (hbx.mono HB7.out.size))
 clear hbx HX7 HB7
 change Code.wp _ _ _ _ (w7.alloc (.cells (zIm) 40))
 generalize w7.alloc (.cells (zIm) 40) = w8 at *
 generalize w7.heap.size = q2 at *
 have HEM := hD (iempty_yes w8)
 obtain ⟨k0, k1, k2, k3, k4, k5, k6, k7, k8, k9, k10, k11, k12, k13, k14⟩ := bx_cells HX8.out
 have hdn : (decE l == 0) = false := by simpa using HD.out
 generalize decE l = d at *
 go_wp2_with (go_at_call 10; (with_reducible refine (HEM.out).mono ?_); rintro en w9 ⟨rfl, hb9⟩; have HB9 := hD (HB8.out.trans (hb9.mono HB8.out.size)); clear hb9)
 go_ret
 exact ⟨rfl, HB9.out⟩
set_option maxHeartbeats 8000000 in
theorem decodes_yes (A : Option Addr) (c : Nat) (l : Str) (w : World) (h : Src w (fun k => k < w.heap.size) A l.length c (cells l)) (hl : l.length ≤ 140737488351232) (hc : c ≤ 9223372036854775807) (hd : decE l = 0) :
  Calls Tryz.prog 3 #[.slice A l.length c] w fun e w' => e = .returned (.bool true) ∧ Below w.heap.size w w' := by
 have HS := hD h
 have HL := hD (show l.length ≤ 140737488351232 from hl)
 have HC := hD hc
 have HD := hD hd
 clear h hl hc hd
 go_enter Tryz.func3, Tryz.ntmps3
 go_upto_region 2 with (go_at_call 5; (with_reducible refine (iawake_any _).mono ?_); rintro en w2 ⟨rfl, hb2⟩; have HB2 := hD hb2; clear hb2)
 have HS2 := hD (HS.out.keep fun k hk _ => HB2.out.block k hk : Src w2 (fun k => k < w.heap.size) A l.length c (cells l))
 have HLT := hD (show Calls Tryz.prog 6 #[.slice A l.length c] w2 (fun en w' => ∃ g, en = .returned (.slice (some ⟨g, 0, none⟩) l.length (l.length + 3)) ∧ w'.heap[g]? = some (.cells (lentCells l).toArray 5 (0, 0)) ∧ Below w2.heap.size w2 w' ∧ w2.heap.size ≤ g) from lent_any (fun k => k < w.heap.size) A l.length c l w2 HS2.out HL.out)
 go_upto_region 3 with (go_at_call 6; (with_reducible refine (HLT.out).mono ?_); rintro en w3 ⟨g, rfl, hg, hb3, hgg⟩; have HG3 := hD hg; have HB3 := hD (HB2.out.trans (hb3.mono HB2.out.size)); have HGW := hD (Nat.le_trans HB2.out.size hgg : w.heap.size ≤ g); clear hg hb3 hgg)
 clear HLT HS2 HB2
 have HGL := hD (show g < w3.heap.size from Bx.lt (show Bx w3 g _ _ from HG3.out))
 have HDT := hD (dec_yes HD.out (decode_any (fun k => k = g) (some ⟨g, 0, none⟩) l.length (l.length + 3) l w3 (src_lent HG3.out) (by have := HL.out; omega)))
 go_upto_region 4 with (go_at_call 7; (with_reducible refine (HDT.out).mono ?_); rintro en w4 ⟨p1, rfl, hin, hb⟩; have HB4 := hD (HB3.out.trans (hb.mono HB3.out.size)); have HG4 := hD ((hb.block g HGL.out).trans HG3.out); have HGL4 := hD (Nat.lt_of_lt_of_le HGL.out hb.size); have HIN4 := hD hin; clear hb hin)
 clear HDT HG3 HB3
 have hbx : Below w4.heap.size w4 (w4.alloc (.cells (imA p1 (decI l)) 40)) := (Below.refl _ _).alloc (Nat.le_refl _) _
 have HX5 := hD (Bx.new w4 (imA p1 (decI l)) 40)
 have HB5 := hD (HB4.out.trans (hbx.mono HB4.out.size))
 have HG5 := hD ((hbx.block g HGL4.out).trans HG4.out)
 have HIN5 := hD (((HIN4.out.keep fun k hk hl => hbx.block k hl).weak fun k hk => ⟨by have := HGL.out; omega, Nat.lt_of_lt_of_le hk.2 hbx.size⟩ : ImIn (w4.alloc (.cells (imA p1 (decI l)) 40)) (fun k => g < k ∧ k < (w4.alloc (.cells (imA p1 (decI l)) 40)).heap.size) p1 (decI l)))
 have HQ1 := hD (show g ≠ w4.heap.size from by have := HGL4.out; omega)
 clear hbx HG4 HB4 HIN4
 change Code.wp _ _ _ _ (w4.alloc (.cells (imA p1 (decI l)) 40))
 generalize w4.alloc (.cells (imA p1 (decI l)) 40) = w5 at *
 generalize w4.heap.size = q1 at *
 have HS5 := hD (HS.out.keep fun k hk _ => HB5.out.block k hk : Src w5 (fun k => k < w.heap.size) A l.length c (cells l))
 have HBK := hD (back_any' (fun k => k < w.heap.size) g A l.length c l w5 HS5.out HG5.out (by have := HGW.out; omega) HL.out)
 go_upto_region 5 with (go_at_call 8; (with_reducible refine (HBK.out).mono ?_); rintro en w6 ⟨rfl, hgr⟩; have HB6 := hD (show Below w.heap.size w w6 from ⟨hgr.os.trans HB5.out.os, hgr.tape.trans HB5.out.tape, hgr.output.trans HB5.out.output, Nat.le_trans HB5.out.size hgr.size, fun k hk => (hgr.block k (Nat.lt_of_lt_of_le hk HB5.out.size) (fun e => by have := HGW.out; injection e with e; omega)).trans (HB5.out.block k hk)⟩); have HX6 := hD (show Bx w6 q1 (imA p1 (decI l)) 40 from (hgr.block q1 HX5.out.lt (fun e => by injection e with e; exact HQ1.out e.symm)).trans HX5.out); have HIN6 := hD ((HIN5.out.keep fun k hk hl => hgr.block k hl (fun e => by injection e with e; omega)).weak fun k hk => ⟨hk.1, Nat.lt_of_lt_of_le hk.2 hgr.size⟩ : ImIn w6 (fun k => g < k ∧ k < w6.heap.size) p1 (decI l)); clear hgr)
 clear HBK HS5 HG5 HX5 HB5
 have HS6 := hD (HS.out.keep fun k hk _ => HB6.out.block k hk : Src w6 (fun k => k < w.heap.size) A l.length c (cells l))
 have HDR := hD (dec_yes HD.out (ddecode_any (fun k => k < w.heap.size) A l.length c l w6 HS6.out (fun k hk => Nat.lt_of_lt_of_le hk HB6.out.size) (by have := HL.out; omega) HC.out))
 go_upto_region 6 with (go_at_call 9; (with_reducible refine (HDR.out).mono ?_); rintro en w7 ⟨p2, rfl, hin, hb⟩; have HB7 := hD (HB6.out.trans (hb.mono HB6.out.size)); have HX7 := hD (HX6.out.below hb); have HJ7 := hD hin; have HIN7 := hD ((HIN6.out.keep fun k hk hl => hb.block k hl).weak fun k hk => Nat.lt_of_lt_of_le hk.2 hb.size : ImIn w7 (fun k => k < w7.heap.size) p1 (decI l)); clear hb hin)
 clear HDR HS6 HX6 HB6
 have hbx : Below w7.heap.size w7 (w7.alloc (.cells (imA p2 (decI l)) 40)) := (Below.refl _ _).alloc (Nat.le_refl _) _
 have HY8 := hD (Bx.new w7 (imA p2 (decI l)) 40)
 have HX8 := hD (HX7.out.below hbx)
 have HB8 := hD (HB7.out.trans (hbx.mono HB7.out.size))
 have HIN8 := hD (HIN7.out.lt hbx)
 have HJ8 := hD ((HJ7.out.weak fun k hk => hk.2 : ImIn w7 (fun k => k < w7.heap.size) p2 (decI l)).lt hbx)
 clear hbx HX7 HB7
 change Code.wp _ _ _ _ (w7.alloc (.cells (imA p2 (decI l)) 40))
 generalize w7.alloc (.cells (imA p2 (decI l)) 40) = w8 at *
 generalize w7.heap.size = q2 at *
 have HSM := hD (dsame_yes p1 p2 (decI l) w8 HIN8.out HJ8.out (dec_fit l) (dec_ok HD.out).2)
 obtain ⟨k0, k1, k2, k3, k4, k5, k6, k7, k8, k9, k10, k11, k12, k13, k14⟩ := bx_cells HX8.out
 obtain ⟨j0, j1, j2, j3, j4, j5, j6, j7, j8, j9, j10, j11, j12, j13, j14⟩ := bx_cells HY8.out
 generalize decI l = x at *
 go_wp2_with (go_at_call 11; (with_reducible refine (HSM.out).mono ?_); rintro en w9 ⟨rfl, hb9⟩; have HB9 := hD (HB8.out.trans (hb9.mono HB8.out.size)); clear hb9)
 go_ret
 exact ⟨rfl, HB9.out⟩
theorem decodes_any (A : Option Addr) (c : Nat) (l : Str) (w : World) (h : Src w (fun k => k < w.heap.size) A l.length c (cells l)) (hl : l.length ≤ 140737488351232) (hc : c ≤ 9223372036854775807) :
  Calls Tryz.prog 3 #[.slice A l.length c] w fun e w' => e = .returned (.bool true) ∧ Below w.heap.size w w' := by
 by_cases hd : decE l = 0
 ·
  exact decodes_yes A c l w h hl hc hd
 ·
  exact decodes_no A c l w h hl hc hd
end Go.Proofs.YtfljignkjmabpaaGreat
