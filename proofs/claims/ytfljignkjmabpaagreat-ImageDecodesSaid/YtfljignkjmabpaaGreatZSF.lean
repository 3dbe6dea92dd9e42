/- A part of the proof. -/
import Derived.Test.YtfljignkjmabpaaGreatZSC
set_option linter.unusedSimpArgs false
set_option linter.unusedVariables false
namespace Go.Proofs.YtfljignkjmabpaaGreat
set_option maxRecDepth 100000
open Go.RowKit
theorem len_least : (formL leastI).length ≤ 4000000 := (form_ok least_may least_fit).2.2
theorem dec_least : decI (formL leastI) = leastI ∧ decE (formL leastI) = 0 := dec_form least_may least_fit
abbrev zeroP : Pl := ⟨(none, 0), (none, 0), (none, 0), (none, 0), (none, 0), (none, 0), (none, 0), (none, 0), (none, 0), (none, 0), (none, 0)⟩
theorem zero_in (w : World) (P : Nat → Prop) : ImIn w P zeroP zeroI :=
 im_made (y3 := []) (y4 := []) (y5 := []) (y6 := []) (y7 := []) (y9 := []) (y10 := []) (y11 := []) (y12 := []) (y13 := []) (tl := []) (B3 := fun _ => (none, 0)) (B4 := fun _ => (none, 0)) (B12 := (none, 0)) (B13 := (none, 0))
  (els_none _ _ _ _) (fun k hk => by cases hk) (els_none _ _ _ _) (fun k hk => by cases hk) (src_zero _ _) (syl_none _ _) ⟨⟨fun _ => ⟨rfl, rfl⟩, Nat.le_refl _, (by intro ad h; cases h), (by intro ad h; cases h)⟩, src_zero _ _⟩ (els_none _ _ _ _) (els_none _ _ _ _) (src_zero _ _) (src_zero _ _) (src_zero _ _)
theorem zero_val : Value.agg zIm = imV zeroP zeroI := rfl
abbrev wrongP (p : Pl) (rb : Nat) : Pl := { p with rl := (some ⟨rb, 0, none⟩, 1) }
theorem wrong_cells (p : Pl) (rb : Nat) : (imA p leastI).setIfInBounds 9 (.slice (some ⟨rb, 0, none⟩) 1 1) = imA (wrongP p rb) wrongI := by
 simp [leastI, wrongI]
theorem wrong_els {w : World} {P : Nat → Prop} {rb : Nat} (h : Bx w rb (rlA ⟨0, 1, -1, 0⟩) 57) (hP : P rb) : Els w P (some ⟨rb, 0, none⟩) 1 1 4 (fun k => rlA (([⟨0, 1, -1, 0⟩] : List Rl).getD k noRl)) := by
 refine ⟨(by intro e; cases e), Nat.le_refl _, (by intro ad e _; cases e; exact hP), ?_⟩
 intro ad e k hk j u hu
 cases e
 obtain rfl : k = 0 := by omega
 rw [plainAdd, Nat.zero_mul, Nat.zero_add, Nat.zero_add, h.c j]
 exact hu
theorem wrong_in {w : World} {P : Nat → Prop} {p : Pl} {rb : Nat} (h : ImIn w P p leastI) (hr : Bx w rb (rlA ⟨0, 1, -1, 0⟩) 57) (hP : P rb) : ImIn w P (wrongP p rb) wrongI :=
 ⟨h.segs, h.needed, h.run, h.syms, h.tab, ⟨rfl, wrong_els hr hP⟩, h.slots, h.init, h.fini, h.tls⟩
set_option maxHeartbeats 8000000 in
theorem iawake_any (w : World) : Calls Tryz.prog 5 #[] w fun e w' => e = .returned (.bool true) ∧ Below w.heap.size w w' := by
 go_enter Tryz.func5, Tryz.ntmps5
 go_upto_region 2 with (go_at_call 14; (with_reducible refine (least_any _).mono ?_); rintro en w1 ⟨p, rfl, h1, hb1⟩; have HI1 := hD h1; have HB1 := hD hb1; clear h1 hb1)
 have hbx := ibox_below w1 p leastI
 have HX2 := hD (Ix.new w1 p leastI)
 have HI2 := hD (HI1.out.lt hbx)
 have HB2 := hD (HB1.out.trans (hbx.mono HB1.out.size))
 have HP2 := hD (HI1.out.keep fun k hk hl => hbx.block k hl : ImIn (w1.alloc (.cells (imA p leastI) 40)) (fun k => k < w1.heap.size) p leastI)
 clear hbx
 change Code.wp _ _ _ _ (w1.alloc (.cells (imA p leastI) 40))
 generalize w1.alloc (.cells (imA p leastI) 40) = w2 at *
 generalize hbx1 : w1.heap.size = b1 at *
 have HEN := hD (encode_yes p leastI w2 HI2.out least_fit least_may)
 have HL := hD len_least
 have HD := hD dec_least
 generalize formL leastI = l at *
 refine wp_region_lit ?_
 refine wpl_load_im HX2.out rfl ?_
 go_upto_region 3 with (go_at_call 12; (with_reducible refine (HEN.out).mono ?_); rintro en w3 ⟨A3, c3, rfl, ho3, hb3⟩; have HO3 := hD ho3; have HB3 := hD hb3; clear ho3 hb3)
 have HX3 := hD (HX2.out.below HB3.out)
 have HI3 := hD (HI2.out.lt HB3.out)
 have HBA := hD (HB2.out.trans (HB3.out.mono HB2.out.size))
 have HDC := hD (decode_any _ A3 l.length c3 l w3 (Src.of_own HO3.out) (by have := HL.out; omega))
 go_upto_region 4 with (go_at_call 7; (with_reducible refine (HDC.out).mono ?_); rintro en w4 (⟨hd, -, -⟩ | ⟨-, p4, rfl, h4, hb4⟩); (exact absurd HD.out.2 hd); rw [HD.out.1] at h4; have HI4 := hD h4; have HB4 := hD hb4; clear h4 hb4)
 have hdi := HD.out.1
 rw [hdi]
 clear hdi HD HDC HEN HL
 have hbx := ibox_below w4 p4 leastI
 have hlt2 : b1 < w2.heap.size := HX2.out.lt
 have HX5 := hD (Ix.new w4 p4 leastI)
 have hs23 := HB3.out.size
 have hs34 := HB4.out.size
 have HI5 := hD (HI4.out.keep fun k hk hl => hbx.block k hl : ImIn (w4.alloc (.cells (imA p4 leastI) 40)) (fun k => w3.heap.size ≤ k ∧ k < w4.heap.size) p4 leastI)
 have HX1 := hD ((HX3.out.below HB4.out).below hbx)
 have HP5 := hD (((HP2.out.keep fun k hk hl => HB3.out.block k hl).keep fun k hk hl => HB4.out.block k hl).keep fun k hk hl => hbx.block k hl : ImIn (w4.alloc (.cells (imA p4 leastI) 40)) (fun k => k < b1) p leastI)
 have HB5 := hD ((HBA.out.trans (HB4.out.mono HBA.out.size)).trans (hbx.mono (HBA.out.trans (HB4.out.mono HBA.out.size)).size))
 have hz5 : (w4.alloc (.cells (imA p4 leastI) 40)).heap.size = w4.heap.size + 1 := by simp
 have HZ5 := hD hz5
 have HWB := hD (show w.heap.size ≤ b1 by rw [← hbx1]; exact HB1.out.size)
 clear hbx HX2 HX3 HI1 HI2 HI3 HI4 HP2 hz5
 change Code.wp _ _ _ _ (w4.alloc (.cells (imA p4 leastI) 40))
 generalize w4.alloc (.cells (imA p4 leastI) 40) = w5 at *
 generalize hb4 : w4.heap.size = b4 at *
 have hne : b4 ≠ b1 := by omega
 have hlt1 := HX1.out.lt
 have hlt4 := HX5.out.lt
 have c9 := HX1.out.cells.2.2.2.2.2.2.2.2.2.1
 have f9 : w5.frozen? ⟨b1, 9, none⟩ = false := HX1.out.bx.f 9
 go_upto_region 5 with (fail)
 have HXW := hD (show Ix ((w5.setCell ⟨b1, 9, none⟩ (.slice (some ⟨w5.heap.size, 0, none⟩) 1 1)).alloc (.cells (rlA ⟨0, 1, -1, 0⟩) 57)) b1 (wrongP p w5.heap.size) wrongI from ⟨by
  have h1 := heap_setCell_same w5 b1 9 (imA p leastI) _ (.slice (some ⟨w5.heap.size, 0, none⟩) 1 1) HX1.out.bx
  rw [wrong_cells] at h1
  exact Bx.alloc (w := w5.setCell ⟨b1, 9, none⟩ (.slice (some ⟨w5.heap.size, 0, none⟩) 1 1)) h1 _⟩)
 have hset : ∀ k, k < w5.heap.size → k ≠ b1 → ((w5.setCell ⟨b1, 9, none⟩ (.slice (some ⟨w5.heap.size, 0, none⟩) 1 1)).alloc (.cells (rlA ⟨0, 1, -1, 0⟩) 57)).heap[k]? = w5.heap[k]? := fun k h1 h2 =>
  (Below.heap_alloc _ _ k (by simpa [World.setCell] using h1)).trans (Below.heap_setCell w5 _ _ k (by simpa using h2))
 have hzz : ((w5.setCell ⟨b1, 9, none⟩ (.slice (some ⟨w5.heap.size, 0, none⟩) 1 1)).alloc (.cells (rlA ⟨0, 1, -1, 0⟩) 57)).heap.size = w5.heap.size + 1 := by simp [World.setCell]
 have HX4 := hD (show Ix ((w5.setCell ⟨b1, 9, none⟩ (.slice (some ⟨w5.heap.size, 0, none⟩) 1 1)).alloc (.cells (rlA ⟨0, 1, -1, 0⟩) 57)) b4 p4 leastI from ⟨(hset b4 hlt4 hne).trans HX5.out.bx⟩)
 have HRB := hD (show Bx ((w5.setCell ⟨b1, 9, none⟩ (.slice (some ⟨w5.heap.size, 0, none⟩) 1 1)).alloc (.cells (rlA ⟨0, 1, -1, 0⟩) 57)) w5.heap.size (rlA ⟨0, 1, -1, 0⟩) 57 from by
  have := Bx.new (w5.setCell ⟨b1, 9, none⟩ (.slice (some ⟨w5.heap.size, 0, none⟩) 1 1)) (rlA ⟨0, 1, -1, 0⟩) 57
  rwa [show (w5.setCell ⟨b1, 9, none⟩ (.slice (some ⟨w5.heap.size, 0, none⟩) 1 1)).heap.size = w5.heap.size by simp [World.setCell]] at this)
 have HPW := hD (wrong_in ((HP5.out.keep (w' := (w5.setCell ⟨b1, 9, none⟩ (.slice (some ⟨w5.heap.size, 0, none⟩) 1 1)).alloc (.cells (rlA ⟨0, 1, -1, 0⟩) 57)) fun k hk hl => hset k hl (by omega)).weak (Q := fun k => k < w5.heap.size + 1) fun k hk => by omega) HRB.out (by omega))
 have HIS := hD (HI5.out.keep (w' := (w5.setCell ⟨b1, 9, none⟩ (.slice (some ⟨w5.heap.size, 0, none⟩) 1 1)).alloc (.cells (rlA ⟨0, 1, -1, 0⟩) 57)) fun k hk hl => hset k hl (by omega))
 have HBW := hD ((HB5.out.setCell (p := ⟨b1, 9, none⟩) HWB.out (.slice (some ⟨w5.heap.size, 0, none⟩) 1 1)).alloc (by have := HB5.out.size; simpa [World.setCell] using this) (.cells (rlA ⟨0, 1, -1, 0⟩) 57))
 clear hset HX1 HX5 HI5 HP5 HRB c9 f9
 change Code.wp _ _ _ _ ((w5.setCell ⟨b1, 9, none⟩ (.slice (some ⟨w5.heap.size, 0, none⟩) 1 1)).alloc (.cells (rlA ⟨0, 1, -1, 0⟩) 57))
 generalize hw7 : (w5.setCell ⟨b1, 9, none⟩ (.slice (some ⟨w5.heap.size, 0, none⟩) 1 1)).alloc (.cells (rlA ⟨0, 1, -1, 0⟩) 57) = w7 at *
 generalize w5.heap.size = rb at *
 have HZZ := hD hzz
 have HM0 := hD (may_im_any zeroP zeroI w7 (zero_in _ _) zero_fit)
 rw [zero_may, ← zero_val] at HM0
 have hsg := HIS.out.segs
 obtain ⟨hsl, SB, hse, hsb⟩ := hsg
 obtain ⟨sg, hsg⟩ : ∃ sg, p4.sg.1 = some sg := by
  cases hp : p4.sg.1 with
  | none => have := (hse.nil hp).1; simp [leastI] at this
  | some sg => exact ⟨sg, rfl⟩
 rw [hsg] at hse
 obtain ⟨sb, so, rfl⟩ := hse.plain (by simp [leastI]) rfl
 have hel := hse.get 0 (by simp [leastI]) 3 (.int .i64 5) rfl
 have HEL := hD (show w7.cell? ⟨sb, so + 3, none⟩ = some (.int .i64 5) by simpa using hel)
 have hq : w7.cell? ⟨b4, 2, none⟩ = some (.slice p4.sg.1 1 p4.sg.2) := HX4.out.bx.c 2
 rw [hsg] at hq
 have HQ := hD hq
 clear hsl hse hsb hel hq hzz hw7
 go_wp2_with fail
 (with_reducible refine (HM0.out).mono ?_)
 rintro en w8 ⟨rfl, hb8⟩
 have HX8 := hD (HXW.out.below hb8)
 have hq := cell_below hb8 HQ.out
 have hel := cell_below hb8 HEL.out
 obtain ⟨c0, c1, c2, c3, c4, c5, c6, c7, c8, c9, c10, c11, c12, c13, c14⟩ := HX8.out.cells
 have HM1 := may_im_any (wrongP p rb) wrongI w8 ((HPW.out.keep fun k hk hl => hb8.block k hl).weak fun k hk => by have := hb8.size; have := HZZ.out; omega) wrong_fit
 rw [wrong_may] at HM1
 have HM1 := hD HM1
 have HB8 := hD (HBW.out.trans (hb8.mono HBW.out.size))
 clear hb8
 go_wp2_with fail
 (with_reducible refine (HM1.out).mono ?_)
 rintro en w9 ⟨rfl, hb9⟩
 have HB9 := hD (HB8.out.trans (hb9.mono HB8.out.size))
 clear hb9
 go_wp2_with fail
 go_ret
 exact ⟨rfl, HB9.out⟩
end Go.Proofs.YtfljignkjmabpaaGreat
namespace Go.Proofs.YtfljignkjmabpaaGreat
set_option maxRecDepth 100000
open Go.ChangeShapes Go.WideShapes Go.ChangeAt Go.RowKit Go.Deep
section
variable {H : Type} {enc : TypeId × Value → H} {W : World}
theorem open_bytes {a : Option Addr} {n c : Nat} {d : DataW H} {p : List MemPlace} (h : DataW.Trod enc Tryz.prog W 0 (fun _ => true) true 22 (.slice a n c) d p) (hs : Sized 22 d) :
  ∃ b : Str, b.length = n ∧ Src W (fun k => k < W.heap.size) a n c (cells b) ∧ Long n := by
 obtain ⟨zs, h1, h2, h3, _⟩ := open_nums Tryz.underlying22 Tryz.underlying5 (by kernel_rfl) h
 have e : zs.map (Value.int .u8) = cells (zs.map fun z => UInt8.ofNat z.toNat) := by
  simp only [cells, List.map_map]
  apply List.map_congr_left
  intro z hz
  have := u8_of_wf (h2 z hz)
  exact congrArg (Value.int .u8) this
 have := sized_len (b := 1) hs Tryz.underlying22 (by kernel_rfl) h3
 exact ⟨zs.map fun z => UInt8.ofNat z.toNat, by simpa using h1.len, e ▸ h1, by unfold Long; omega⟩
end
end Go.Proofs.YtfljignkjmabpaaGreat
namespace Go.Proofs.YtfljignkjmabpaaGreat
set_option maxRecDepth 100000
open Go.ChangeShapes Go.WideShapes Go.ChangeAt Go.RowKit Go.Deep
section
variable {H : Type} {enc : TypeId × Value → H} {W : World}
end
end Go.Proofs.YtfljignkjmabpaaGreat
