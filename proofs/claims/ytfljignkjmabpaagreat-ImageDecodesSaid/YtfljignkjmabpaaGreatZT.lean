/- A part of the proof. -/
import Derived.Test.YtfljignkjmabpaaGreatZS
import Derived.Test.YtfljignkjmabpaaGreatZL
set_option linter.unusedSimpArgs false
set_option linter.unusedVariables false
namespace Go.Proofs.YtfljignkjmabpaaGreat
set_option maxRecDepth 100000
open Go.RowKit
def slotAt (x : Im) (k : Nat) : Bool := slotB x (x.slots.getD k noSl) && decide (lastI (fun k => (x.slots.getD k noSl).at_ + 8) k ≤ (x.slots.getD k noSl).at_)
theorem slots_eq (x : Im) : slotsB x = (decide (x.slots.length ≤ 128) && (List.range x.slots.length).all (slotAt x)) := rfl
def SLX (w : World) (p : Pl) (x : Im) (g : Nat) (s : Sl) (X : World) : Prop := MSX w p x X ∧ Bx X g (slA s) 112
theorem SLX.on {w X Y : World} {p : Pl} {x : Im} {g : Nat} {s : Sl} (h : SLX w p x g s X) (hb : Below X.heap.size X Y) : SLX w p x g s Y := ⟨h.1.on hb, h.2.below hb⟩
theorem SLX.b {w X : World} {p : Pl} {x : Im} {g : Nat} {s : Sl} (h : SLX w p x g s X) : Below w.heap.size w X := h.1.1
def SRX (w : World) (p : Pl) (x : Im) (g : Nat) (s : Sl) (gr : Nat) (r : Rl) (X : World) : Prop := SLX w p x g s X ∧ Bx X gr (rlA r) 57
theorem SRX.on {w X Y : World} {p : Pl} {x : Im} {g gr : Nat} {s : Sl} {r : Rl} (h : SRX w p x g s gr r X) (hb : Below X.heap.size X Y) : SRX w p x g s gr r Y := ⟨h.1.on hb, h.2.below hb⟩
def preS (x : Im) (s : Sl) : Bool := idxB x.syms.length s.sym && (decide ((x.syms.getD s.sym.toNat noSy).kind = 1) && (standB x.segs s.at_ 8 0 && standB x.segs s.stub 8 4))
theorem slotB_pre (x : Im) (s : Sl) : slotB x s = (preS x s && !overAny x s.at_) := by
 unfold slotB preS
 cases idxB x.syms.length s.sym <;> cases decide ((x.syms.getD s.sym.toNat noSy).kind = 1) <;> cases standB x.segs s.at_ 8 0 <;> cases standB x.segs s.stub 8 4 <;> rfl
set_option maxHeartbeats 16000000 in
theorem dslots_any (p : Pl) (x : Im) (w : World) (h : ImIn w (fun k => k < w.heap.size) p x) (hf : Fit x) (hs : ∀ s ∈ x.segs, SegOk s) (hr : ∀ r ∈ x.relocs, relB x r = true) :
  Calls Tryz.prog 68 #[imV p x] w fun e w' => e = .returned (.bool (slotsB x)) ∧ Below w.heap.size w w' := by
 obtain ⟨sg, nd, rp, ⟨sya, syc⟩, bk, fw, ⟨rla, rlc⟩, ⟨sla, slc⟩, ini, fin, tl⟩ := p
 have HS0 := hD (show MSX w ⟨sg, nd, rp, ⟨sya, syc⟩, bk, fw, ⟨rla, rlc⟩, ⟨sla, slc⟩, ini, fin, tl⟩ x (w.alloc (.cells (imA ⟨sg, nd, rp, ⟨sya, syc⟩, bk, fw, ⟨rla, rlc⟩, ⟨sla, slc⟩, ini, fin, tl⟩ x) 40)) from ⟨ibox_below _ _ _, Ix.new _ _ _⟩)
 have HWI := hD (fun (r : Rl) (hr : relB x r = true) (X : World) (hX : Below w.heap.size w X) => wide_any _ x r X (h.lt hX) hf.syms (kind_idx (rel_kind hr)))
 have HRG := hD (fun (r : Rl) (hr : relB x r = true) => (⟨rel_range hs hr, kind_wide hf (rel_kind hr)⟩ : (0 ≤ r.at_ ∧ r.at_ + wideI x r ≤ 65536) ∧ 0 ≤ wideI x r ∧ wideI x r ≤ 9223372036854775807))
 have HSR0 := hD (fun (a : Int) (ha : standB x.segs a 8 0 = true) => stand_range ha hs)
 have HYR := hD (fun (y : Sl) (hy : preS x y = true) => (show 0 ≤ y.at_ ∧ y.at_ + 8 ≤ 65536 from stand_range (by unfold preS at hy; simp only [Bool.and_eq_true] at hy; exact hy.2.2.1) hs))
 have HST := hD (fun (a q : Int) (X : World) (hX : Below w.heap.size w X) => dstands_any _ x a 8 q X (h.lt hX) hf.segs hs (by omega) (by omega))
 have HRL := hD (fun (X : World) (hX : Below w.heap.size w X) => (h.lt hX).relocs.els)
 have HSL := hD (fun (X : World) (hX : Below w.heap.size w X) => (h.lt hX).slots.els)
 have HSY := hD (fun (X : World) (hX : Below w.heap.size w X) => (h.lt hX).syms)
 have HRR := hD hr
 have l1 := hf.slots
 have l2 := hf.relocs
 have l3 := hf.syms
 unfold Long at l1 l2 l3
 generalize hbb : slotsB x = bb
 have HF := hD (hbb.symm.trans (slots_eq x))
 clear h hf hs hr hbb
 go_enter Tryz.func68, Tryz.ntmps68
 go_upto_region 1 with (fail)
 change Code.wp _ _ _ _ (w.alloc (.cells (imA ⟨sg, nd, rp, ⟨sya, syc⟩, bk, fw, ⟨rla, rlc⟩, ⟨sla, slc⟩, ini, fin, tl⟩ x) 40))
 generalize w.alloc (.cells (imA ⟨sg, nd, rp, ⟨sya, syc⟩, bk, fw, ⟨rla, rlc⟩, ⟨sla, slc⟩, ini, fin, tl⟩ x) 40) = w1 at *
 obtain ⟨-, -, -, -, -, -, -, -, -, -, c10, -⟩ := HS0.out.2.cells
 simp only at c10
 by_cases hl : x.slots.length ≤ 128
 ·
  have hl' : ¬ (128 : Int) < (x.slots.length : Int) := by omega
  have HF2 := hD (show bb = (List.range x.slots.length).all (slotAt x) by rw [HF.out, decide_eq_true hl]; rfl)
  clear HF
  go_wp2
  go_loopw [3] (fun t wr => ∃ k : Nat, k ≤ x.slots.length ∧ t = .int .i64 k ∧ MSX w ⟨sg, nd, rp, ⟨sya, syc⟩, bk, fw, ⟨rla, rlc⟩, ⟨sla, slc⟩, ini, fin, tl⟩ x wr ∧ (List.range k).all (slotAt x) = true) (fun t _ => x.slots.length - (intOf t).toNat)
  case atStart => exact ⟨0, Nat.zero_le _, rfl, HS0.out, rfl⟩
  case round =>
   obtain ⟨k, hk, rfl, hb, he⟩ := hrel
   have HE := hD he
   have HSR := hD hb
   clear c10
   obtain ⟨-, -, -, -, -, -, -, -, -, -, f10, -⟩ := HSR.out.2.cells
   simp only at f10
   clear he hb
   by_cases hlt : k < x.slots.length
   ·
    obtain ⟨ad, rfl⟩ : ∃ ad, sla = some ad := by
     cases sla with
     | none => have := ((HSL.out _ HSR.out.1).nil rfl).1; omega
     | some ad => exact ⟨ad, rfl⟩
    have hE := HSL.out _ HSR.out.1
    have hcap := hE.cap
    obtain ⟨b, o, rfl⟩ := hE.plain (by omega) rfl
    have d0 := hE.get k hlt 0 _ rfl
    have d1 := hE.get k hlt 1 _ rfl
    have d2 := hE.get k hlt 2 _ rfl
    simp only [Nat.add_zero] at d0
    clear hE
    have HEJ0 := hD (fun (j : Nat) (hj : j < x.slots.length) (X : World) (hX : Below w.heap.size w X) => (show X.cell? ⟨b, o + j * 3, none⟩ = some (.int .i64 (x.slots.getD j noSl).at_) from (HSL.out X hX).get j hj 0 _ rfl))
    have HA := hD (show slotAt x k = ((preS x (x.slots.getD k noSl) && !overAny x (x.slots.getD k noSl).at_) && decide (lastI (fun k => (x.slots.getD k noSl).at_ + 8) k ≤ (x.slots.getD k noSl).at_)) by rw [← slotB_pre]; rfl)
    have HY := hD (fun h => rel_step (p := slotAt x) HE.out h)
    have HNO := hD (fun h => HF2.out.trans (rel_fail (p := slotAt x) hlt h))
    have HPV := hD (show ∀ j, k = j + 1 → preS x (x.slots.getD j noSl) = true ∧ lastI (fun k => (x.slots.getD k noSl).at_ + 8) k = (x.slots.getD j noSl).at_ + 8 from fun j hj => by
     refine ⟨?_, by rw [hj]; rfl⟩
     have := List.all_eq_true.1 HE.out j (List.mem_range.2 (by omega))
     unfold slotAt at this
     rw [slotB_pre] at this
     simp only [Bool.and_eq_true] at this
     exact this.1.1)
    have HZ := hD (show k = 0 → lastI (fun k => (x.slots.getD k noSl).at_ + 8) k = 0 from fun h => by rw [h]; rfl)
    generalize slotAt x k = ra at *
    generalize lastI (fun k => (x.slots.getD k noSl).at_ + 8) k = la at *
    generalize x.slots.getD k noSl = s at *
    clear HSL HE HF2
    have hk0 : (0 : Int) ≤ (k : Int) := by omega
    have hk1 : (k : Int) < (x.slots.length : Int) := by omega
    have HPD := hD (show preS x s = (idxB x.syms.length s.sym && (decide ((x.syms.getD s.sym.toNat noSy).kind = 1) && (standB x.segs s.at_ 8 0 && standB x.segs s.stub 8 4))) from rfl)
    have hbx := slbox_below wr s
    have HSX := hD (show SLX w ⟨sg, nd, rp, ⟨sya, syc⟩, bk, fw, ⟨rla, rlc⟩, ⟨some ⟨b, o, none⟩, slc⟩, ini, fin, tl⟩ x wr.heap.size s (wr.alloc (.cells (slA s) 112)) from ⟨HSR.out.on hbx, sl_cells wr s⟩)
    clear hbx
    go_upto_region 7 with (fail)
    change Code.wp _ _ _ _ (wr.alloc (.cells (slA s) 112))
    generalize hgw : wr.heap.size = g at *
    generalize wr.alloc (.cells (slA s) 112) = w2 at *
    clear d0 d1 d2 f10
    obtain ⟨c0, c1, c2, c3, c4, c5, c6, c7, c8, c9, c10, c11, c12, c13, c14⟩ := HSX.out.1.2.cells
    obtain ⟨d0, d1, d2⟩ := HSX.out.2.sl
    simp only at c2 c3 c4 c5 c6 c7 c9 c10 c11 c12 c13
    cases hix : idxB x.syms.length s.sym
    ·
     have HV := hD (HNO.out (by rw [HA.out, HPD.out, hix]; rfl))
     have hq : s.sym < 0 ∨ (0 ≤ s.sym ∧ (x.syms.length : Int) ≤ s.sym) := by
      unfold idxB withB at hix
      simp only [Bool.and_eq_false_iff, decide_eq_false_iff_not] at hix
      omega
     clear hix HA HY HNO HPV HZ HPD
     rcases hq with hq | ⟨hq, hq2⟩
     all_goals
      go_wp2_with fail
      go_ret
      exact ⟨by rw [HV.out]; rfl, HSX.out.1.1⟩
    obtain ⟨i, hi, hil⟩ := idx_get hix
    have hs0 : 0 ≤ s.sym := by omega
    have hs1 : s.sym < (x.syms.length : Int) := by omega
    have hsn : s.sym.toNat = i := by omega
    obtain ⟨ae, rfl⟩ : ∃ ae, sya = some ae := by
     cases sya with
     | none => have := ((HSY.out _ HSX.out.1.1).nil rfl).1; omega
     | some ae => exact ⟨ae, rfl⟩
    obtain ⟨bs, os, rfl⟩ := (HSY.out _ HSX.out.1.1).plain (by omega)
    have e3 : w2.cell? ⟨bs, os + i * 9 + 3, none⟩ = some (.int .i64 (x.syms.getD i noSy).kind) := (HSY.out _ HSX.out.1.1).els.get i hil 3 _ rfl
    rw [hsn, hix] at HPD
    clear hix hi
    generalize x.syms.getD i noSy = y at *
    by_cases hyk : ¬ y.kind = 1
    ·
     have HV := hD (HNO.out (by rw [HA.out, HPD.out]; simp [hyk]))
     clear HA HY HNO HPV HZ HPD
     go_wp2_with fail
     go_ret
     exact ⟨by rw [HV.out]; rfl, HSX.out.1.1⟩
    have hyk : y.kind = 1 := by omega
    have HPE := hD (show preS x s = (standB x.segs s.at_ 8 0 && standB x.segs s.stub 8 4) by rw [HPD.out]; simp [hyk])
    rw [hyk] at e3
    clear HPD hyk
    have HT1 := hD (HST.out s.at_ 0 w2 HSX.out.1.1)
    cases ht1 : standB x.segs s.at_ 8 0
    ·
     have HV := hD (HNO.out (by rw [HA.out, HPE.out, ht1]; rfl))
     rw [ht1] at HT1
     clear ht1 HA HY HNO HPV HZ HPE
     go_wp2_with (go_at_call 145; (with_reducible refine (HT1.out).mono ?_); rintro e w3 ⟨rfl, hb3⟩)
     go_ret
     exact ⟨by rw [HV.out]; rfl, (HSX.out.on hb3).1.1⟩
    rw [ht1] at HT1 HPE
    have HRA := hD (HSR0.out s.at_ ht1)
    have HT2 := hD (fun (X : World) (hX : Below w.heap.size w X) => HST.out s.stub 4 X hX)
    cases ht2 : standB x.segs s.stub 8 4
    ·
     have HV := hD (HNO.out (by rw [HA.out, HPE.out, ht2]; rfl))
     rw [ht2] at HT2
     clear ht1 ht2 HA HY HNO HPV HZ HPE
     go_wp2_with (first
      | (go_at_call 145; (with_reducible refine (HT1.out).mono ?_); rintro e w3 ⟨rfl, hb3⟩; have HS3 := hD (HSX.out.on hb3); obtain ⟨r0, r1, r2, r3, r4, r5, r6, r7, r8, r9, r10, r11, r12, r13, r14⟩ := HS3.out.1.2.cells; obtain ⟨m0, m1, m2⟩ := HS3.out.2.sl; simp only at r2 r3 r4 r5 r6 r7 r9 r10 r11 r12 r13; clear hb3)
      | (go_at_call 145; (with_reducible refine (HT2.out _ HS3.out.b).mono ?_); rintro e w4 ⟨rfl, hb4⟩; have HS4 := hD (HS3.out.on hb4); clear hb4))
     go_ret
     exact ⟨by rw [HV.out]; rfl, HS4.out.1.1⟩
    rw [ht2] at HT2 HPE
    have HA2 := hD (show ra = (!overAny x s.at_ && decide (la ≤ s.at_)) by rw [HA.out, HPE.out]; rfl)
    clear ht1 ht2 HA HPE
    go_upto_region 9 with (first
     | (go_at_call 145; (with_reducible refine (HT1.out).mono ?_); rintro e w3 ⟨rfl, hb3⟩; have HS3 := hD (HSX.out.on hb3); obtain ⟨r0, r1, r2, r3, r4, r5, r6, r7, r8, r9, r10, r11, r12, r13, r14⟩ := HS3.out.1.2.cells; obtain ⟨m0, m1, m2⟩ := HS3.out.2.sl; simp only at r2 r3 r4 r5 r6 r7 r9 r10 r11 r12 r13; clear hb3)
     | (go_at_call 145; (with_reducible refine (HT2.out _ HS3.out.b).mono ?_); rintro e w4 ⟨rfl, hb4⟩; have HS4 := hD (HS3.out.on hb4); clear hb4))
    have HSG := hD (HS4.out.on (drew_below w4))
    have HOA := hD (show overAny x s.at_ = (List.range x.relocs.length).any (fun j => overB x s.at_ (x.relocs.getD j noRl)) from (range_any x.relocs noRl (overB x s.at_)).symm)
    clear r0 r1 r2 r3 r4 r5 r6 r7 r8 r9 r10 r11 r12 r13 r14 m0 m1 m2 HT1 HT2 HST HSR0 HSX HS3
    clear c0 c1 c2 c3 c4 c5 c6 c7 c8 c9 c10 c11 c12 c13 c14 d0 d1 d2
    by_cases hk00 : k = 0
    ·
     have HLA := hD (show la ≤ s.at_ by rw [HZ.out hk00]; exact HRA.out.1)
     clear HPV HZ
     have hk0' : ¬ (0 : Int) < (k : Int) := by omega
     refine wp_region_held_drew (S := SLX w ⟨sg, nd, rp, ⟨some ⟨bs, os, none⟩, syc⟩, bk, fw, ⟨rla, rlc⟩, ⟨some ⟨b, o, none⟩, slc⟩, ini, fin, tl⟩ x g s) (by kernel_rfl) HSG.out (fun hHeld0 => ?_)
     refine tkI 0 58 (.int .i64 ((0 : Nat) : Int)) ?_
     simp only [Act.put, zI, zJ, zK]
     refine tkI 1 59 (.bool false) ?_
     simp only [Act.put, zI, zJ, zK]
     refine tkI 2 60 (.bool false) ?_
     simp only [Act.put, zI, zJ, zK]
     refine tnI 3 61 ?_
     simp only [Act.put, zI, zJ, zK]
     refine tnI 4 62 ?_
     simp only [Act.put, zI, zJ, zK]
     refine tnI 5 63 ?_
     simp only [Act.put, zI, zJ, zK]
     refine tnI 6 64 ?_
     simp only [Act.put, zI, zJ, zK]
     refine tnI 7 65 ?_
     simp only [Act.put, zI, zJ, zK]
     refine tnI 8 66 ?_
     simp only [Act.put, zI, zJ, zK]
     refine tnI 9 67 ?_
     simp only [Act.put, zI, zJ, zK]
     refine tnI 10 68 ?_
     simp only [Act.put, zI, zJ, zK]
     refine tnI 11 69 ?_
     simp only [Act.put, zI, zJ, zK]
     refine tnI 12 70 ?_
     simp only [Act.put, zI, zJ, zK]
     refine tnI 13 71 ?_
     simp only [Act.put, zI, zJ, zK]
     refine tkI 14 72 (.bool false) ?_
     simp only [Act.put, zI, zJ, zK]
     refine wpAnyH_done (by kernel_rfl) ?_ _
     go_upto_region 11 with (fail)
     generalize w4.drew = w5 at *
     go_wp2_with fail
     go_loopw [5] (fun t wr2 => ∃ j : Nat, j ≤ x.relocs.length ∧ t = .int .i64 j ∧ SLX w ⟨sg, nd, rp, ⟨some ⟨bs, os, none⟩, syc⟩, bk, fw, ⟨rla, rlc⟩, ⟨some ⟨b, o, none⟩, slc⟩, ini, fin, tl⟩ x g s wr2 ∧ (List.range j).any (fun j => overB x s.at_ (x.relocs.getD j noRl)) = false) (fun t _ => x.relocs.length - (intOf t).toNat)
     case atStart => exact ⟨0, Nat.zero_le _, rfl, hHeld0, rfl⟩
     case round =>
      obtain ⟨j, hj, rfl, hb, hje⟩ := hrel
      have HJ := hD hje
      have HSW := hD hb
      clear hje hb
      obtain ⟨-, -, -, -, -, -, -, -, -, f9, -⟩ := HSW.out.1.2.cells
      simp only at f9
      by_cases hjk : j < x.relocs.length
      ·
       obtain ⟨ar, rfl⟩ : ∃ ar, rla = some ar := by
        cases rla with
        | none => have := ((HRL.out _ HSW.out.b).nil rfl).1; omega
        | some ar => exact ⟨ar, rfl⟩
       have hE := HRL.out _ HSW.out.b
       have hcap2 := hE.cap
       obtain ⟨br, orr, rfl⟩ := hE.plain (by omega) rfl
       have d0 := hE.get j hjk 0 _ rfl
       have d1 := hE.get j hjk 1 _ rfl
       have d2 := hE.get j hjk 2 _ rfl
       have d3 := hE.get j hjk 3 _ rfl
       simp only [Nat.add_zero] at d0
       clear hE
       have hrl := HRR.out _ (getD_mem (d := noRl) hjk)
       have HJY := hD (fun h => range_yes (p := fun j => overB x s.at_ (x.relocs.getD j noRl)) hjk h)
       have HJT := hD (range_take (p := fun j => overB x s.at_ (x.relocs.getD j noRl)) HJ.out)
       try simp only at HJY HJT
       have HWD := hD (HWI.out _ hrl)
       have hyg := HRG.out _ hrl
       have HOB := hD (show overB x s.at_ (x.relocs.getD j noRl) = (decide ((x.relocs.getD j noRl).at_ < s.at_ + 8) && decide (s.at_ < (x.relocs.getD j noRl).at_ + wideI x (x.relocs.getD j noRl))) from rfl)
       have hj0 : (0 : Int) ≤ (j : Int) := by omega
       have hj1 : (j : Int) < (x.relocs.length : Int) := by omega
       have hra := HRA.out
       clear hrl
       generalize overB x s.at_ (x.relocs.getD j noRl) = ob at *
       generalize x.relocs.getD j noRl = r at *
       have hbx := rlbox_below wr r
       have HSY2 := hD (show SRX w ⟨sg, nd, rp, ⟨some ⟨bs, os, none⟩, syc⟩, bk, fw, ⟨some ⟨br, orr, none⟩, rlc⟩, ⟨some ⟨b, o, none⟩, slc⟩, ini, fin, tl⟩ x g s wr.heap.size r (wr.alloc (.cells (rlA r) 57)) from ⟨HSW.out.on hbx, rl_cells wr r⟩)
       clear hbx
       go_upto_region 15 with (fail)
       change Code.wp _ _ _ _ (wr.alloc (.cells (rlA r) 57))
       generalize hgr : wr.heap.size = gr at *
       generalize wr.alloc (.cells (rlA r) 57) = w6 at *
       clear d0 d1 d2 d3 f9 hgr
       have HSD := hD (HSY2.out.on (drew_below w6))
       generalize wideI x r = wd at *
       have e1 : wrap64 (r.at_ + wd) = r.at_ + wd := wrap_in (by omega) (by omega)
       have e2 : IntKind.i64.wrap (r.at_ + wd) = r.at_ + wd := (wrap_i64 _).trans e1
       have e3 : wrap64 (s.at_ + 8) = s.at_ + 8 := wrap_in (by omega) (by omega)
       have e4 : IntKind.i64.wrap (s.at_ + 8) = s.at_ + 8 := (wrap_i64 _).trans e3
       by_cases ha : s.at_ < r.at_ + wd
       ·
        by_cases hbq : r.at_ < s.at_ + 8
        ·
         have HV := hD (HNO.out (by rw [HA2.out, HOA.out, HJY.out (by rw [HOB.out, decide_eq_true ha, decide_eq_true hbq]; rfl)]; rfl))
         clear HJY HJT HOB hyg hra HNO HY HA2
         refine wp_region_held_drew (S := SRX w ⟨sg, nd, rp, ⟨some ⟨bs, os, none⟩, syc⟩, bk, fw, ⟨some ⟨br, orr, none⟩, rlc⟩, ⟨some ⟨b, o, none⟩, slc⟩, ini, fin, tl⟩ x g s gr r) (by kernel_rfl) HSD.out (fun hHeld0 => ?_)
         refine tkI 0 85 (.pointer (some ⟨g, 0, none⟩)) ?_
         simp only [Act.put, zI, zJ, zK]
         refine tjI 1 86 (.int .i64 s.at_) ?_ ?_
         ·
          intro X hX; obtain ⟨⟨⟨hBX, hI⟩, hJ⟩, hR⟩ := hX; obtain ⟨d0, d1, d2⟩ := hJ.sl; go_simp
         (try simp only [Act.put, zI, zJ, zK])
         refine tkI 2 87 (.pointer (some ⟨gr, 0, none⟩)) ?_
         simp only [Act.put, zI, zJ, zK]
         refine tjI 3 88 (.int .i64 r.at_) ?_ ?_
         ·
          intro X hX; obtain ⟨⟨⟨hBX, hI⟩, hJ⟩, hR⟩ := hX; obtain ⟨d0, d1, d2, d3⟩ := hR.rl; go_simp
         (try simp only [Act.put, zI, zJ, zK])
         refine tjI 4 89 (imV ⟨sg, nd, rp, ⟨some ⟨bs, os, none⟩, syc⟩, bk, fw, ⟨some ⟨br, orr, none⟩, rlc⟩, ⟨some ⟨b, o, none⟩, slc⟩, ini, fin, tl⟩ x) ?_ ?_
         ·
          intro X hX; obtain ⟨⟨⟨hBX, hI⟩, hJ⟩, hR⟩ := hX; obtain ⟨c0, c1, c2, c3, c4, c5, c6, c7, c8, c9, c10, c11, c12, c13, c14⟩ := hI.cells; go_simp
         (try simp only [Act.put, zI, zJ, zK])
         refine tjI 5 90 (.agg (rlA r)) ?_ ?_
         ·
          intro X hX; obtain ⟨⟨⟨hBX, hI⟩, hJ⟩, hR⟩ := hX; obtain ⟨d0, d1, d2, d3⟩ := hR.rl; go_simp
         (try simp only [Act.put, zI, zJ, zK])
         refine rYI 6 fun K hK => ?_
         go_simp
         refine (HWD.out _ hHeld0.1.1.1).mono ?_
         rintro e wq1 ⟨rfl, hq1⟩
         go_simp
         refine hK.out _ _ ((hHeld0).on hq1) (fun hHeld1 => ?_)
         clear hK K
         (try simp only [Act.put, zI, zJ, zK])
         refine tkI 7 92 (.int .i64 (r.at_ + wd)) ?_
         simp only [Act.put, zI, zJ, zK]
         refine tkI 8 93 (.bool true) ?_
         simp only [Act.put, zI, zJ, zK]
         refine tkI 9 94 (.bool true) ?_
         simp only [Act.put, zI, zJ, zK]
         refine tkI 10 95 (.pointer (some ⟨gr, 0, none⟩)) ?_
         simp only [Act.put, zI, zJ, zK]
         refine tjI 11 96 (.int .i64 r.at_) ?_ ?_
         ·
          intro X hX; obtain ⟨⟨⟨hBX, hI⟩, hJ⟩, hR⟩ := hX; obtain ⟨d0, d1, d2, d3⟩ := hR.rl; go_simp
         (try simp only [Act.put, zI, zJ, zK])
         refine tkI 12 97 (.pointer (some ⟨g, 0, none⟩)) ?_
         simp only [Act.put, zI, zJ, zK]
         refine tjI 13 98 (.int .i64 s.at_) ?_ ?_
         ·
          intro X hX; obtain ⟨⟨⟨hBX, hI⟩, hJ⟩, hR⟩ := hX; obtain ⟨d0, d1, d2⟩ := hJ.sl; go_simp
         (try simp only [Act.put, zI, zJ, zK])
         refine tkI 14 99 (.int .i64 (s.at_ + 8)) ?_
         simp only [Act.put, zI, zJ, zK]
         refine tkI 15 100 (.bool true) ?_
         simp only [Act.put, zI, zJ, zK]
         refine tkI 16 101 (.bool true) ?_
         simp only [Act.put, zI, zJ, zK]
         refine wpAnyH_done (by kernel_rfl) ?_ _
         clear e1 e2 e3 e4
         go_wp2_with fail
         go_ret
         exact ⟨by rw [HV.out]; rfl, hHeld1.1.1.1⟩
        ·
         have HV := hD (HJT.out.trans (by rw [HOB.out, decide_eq_false hbq, Bool.false_and]))
         clear HJY HJT HOB hyg hra HNO HY HA2
         refine wp_region_held_drew (S := SRX w ⟨sg, nd, rp, ⟨some ⟨bs, os, none⟩, syc⟩, bk, fw, ⟨some ⟨br, orr, none⟩, rlc⟩, ⟨some ⟨b, o, none⟩, slc⟩, ini, fin, tl⟩ x g s gr r) (by kernel_rfl) HSD.out (fun hHeld0 => ?_)
         refine tkI 0 85 (.pointer (some ⟨g, 0, none⟩)) ?_
         simp only [Act.put, zI, zJ, zK]
         refine tjI 1 86 (.int .i64 s.at_) ?_ ?_
         ·
          intro X hX; obtain ⟨⟨⟨hBX, hI⟩, hJ⟩, hR⟩ := hX; obtain ⟨d0, d1, d2⟩ := hJ.sl; go_simp
         (try simp only [Act.put, zI, zJ, zK])
         refine tkI 2 87 (.pointer (some ⟨gr, 0, none⟩)) ?_
         simp only [Act.put, zI, zJ, zK]
         refine tjI 3 88 (.int .i64 r.at_) ?_ ?_
         ·
          intro X hX; obtain ⟨⟨⟨hBX, hI⟩, hJ⟩, hR⟩ := hX; obtain ⟨d0, d1, d2, d3⟩ := hR.rl; go_simp
         (try simp only [Act.put, zI, zJ, zK])
         refine tjI 4 89 (imV ⟨sg, nd, rp, ⟨some ⟨bs, os, none⟩, syc⟩, bk, fw, ⟨some ⟨br, orr, none⟩, rlc⟩, ⟨some ⟨b, o, none⟩, slc⟩, ini, fin, tl⟩ x) ?_ ?_
         ·
          intro X hX; obtain ⟨⟨⟨hBX, hI⟩, hJ⟩, hR⟩ := hX; obtain ⟨c0, c1, c2, c3, c4, c5, c6, c7, c8, c9, c10, c11, c12, c13, c14⟩ := hI.cells; go_simp
         (try simp only [Act.put, zI, zJ, zK])
         refine tjI 5 90 (.agg (rlA r)) ?_ ?_
         ·
          intro X hX; obtain ⟨⟨⟨hBX, hI⟩, hJ⟩, hR⟩ := hX; obtain ⟨d0, d1, d2, d3⟩ := hR.rl; go_simp
         (try simp only [Act.put, zI, zJ, zK])
         refine rYI 6 fun K hK => ?_
         go_simp
         refine (HWD.out _ hHeld0.1.1.1).mono ?_
         rintro e wq1 ⟨rfl, hq1⟩
         go_simp
         refine hK.out _ _ ((hHeld0).on hq1) (fun hHeld1 => ?_)
         clear hK K
         (try simp only [Act.put, zI, zJ, zK])
         refine tkI 7 92 (.int .i64 (r.at_ + wd)) ?_
         simp only [Act.put, zI, zJ, zK]
         refine tkI 8 93 (.bool true) ?_
         simp only [Act.put, zI, zJ, zK]
         refine tkI 9 94 (.bool true) ?_
         simp only [Act.put, zI, zJ, zK]
         refine tkI 10 95 (.pointer (some ⟨gr, 0, none⟩)) ?_
         simp only [Act.put, zI, zJ, zK]
         refine tjI 11 96 (.int .i64 r.at_) ?_ ?_
         ·
          intro X hX; obtain ⟨⟨⟨hBX, hI⟩, hJ⟩, hR⟩ := hX; obtain ⟨d0, d1, d2, d3⟩ := hR.rl; go_simp
         (try simp only [Act.put, zI, zJ, zK])
         refine tkI 12 97 (.pointer (some ⟨g, 0, none⟩)) ?_
         simp only [Act.put, zI, zJ, zK]
         refine tjI 13 98 (.int .i64 s.at_) ?_ ?_
         ·
          intro X hX; obtain ⟨⟨⟨hBX, hI⟩, hJ⟩, hR⟩ := hX; obtain ⟨d0, d1, d2⟩ := hJ.sl; go_simp
         (try simp only [Act.put, zI, zJ, zK])
         refine tkI 14 99 (.int .i64 (s.at_ + 8)) ?_
         simp only [Act.put, zI, zJ, zK]
         refine tkI 15 100 (.bool false) ?_
         simp only [Act.put, zI, zJ, zK]
         refine tkI 16 101 (.bool false) ?_
         simp only [Act.put, zI, zJ, zK]
         refine wpAnyH_done (by kernel_rfl) ?_ _
         clear e1 e2 e3 e4
         go_wp2_with fail
         go_roundw
         case rel => exact ⟨j + 1, by omega, by go_num, hHeld1.1, HV.out⟩
         case measure => simp [intOf]; omega
       ·
        have HV := hD (HJT.out.trans (by rw [HOB.out, decide_eq_false ha, Bool.and_false]))
        clear HJY HJT HOB hyg hra HNO HY HA2
        refine wp_region_held_drew (S := SRX w ⟨sg, nd, rp, ⟨some ⟨bs, os, none⟩, syc⟩, bk, fw, ⟨some ⟨br, orr, none⟩, rlc⟩, ⟨some ⟨b, o, none⟩, slc⟩, ini, fin, tl⟩ x g s gr r) (by kernel_rfl) HSD.out (fun hHeld0 => ?_)
        refine tkI 0 85 (.pointer (some ⟨g, 0, none⟩)) ?_
        simp only [Act.put, zI, zJ, zK]
        refine tjI 1 86 (.int .i64 s.at_) ?_ ?_
        ·
         intro X hX; obtain ⟨⟨⟨hBX, hI⟩, hJ⟩, hR⟩ := hX; obtain ⟨d0, d1, d2⟩ := hJ.sl; go_simp
        (try simp only [Act.put, zI, zJ, zK])
        refine tkI 2 87 (.pointer (some ⟨gr, 0, none⟩)) ?_
        simp only [Act.put, zI, zJ, zK]
        refine tjI 3 88 (.int .i64 r.at_) ?_ ?_
        ·
         intro X hX; obtain ⟨⟨⟨hBX, hI⟩, hJ⟩, hR⟩ := hX; obtain ⟨d0, d1, d2, d3⟩ := hR.rl; go_simp
        (try simp only [Act.put, zI, zJ, zK])
        refine tjI 4 89 (imV ⟨sg, nd, rp, ⟨some ⟨bs, os, none⟩, syc⟩, bk, fw, ⟨some ⟨br, orr, none⟩, rlc⟩, ⟨some ⟨b, o, none⟩, slc⟩, ini, fin, tl⟩ x) ?_ ?_
        ·
         intro X hX; obtain ⟨⟨⟨hBX, hI⟩, hJ⟩, hR⟩ := hX; obtain ⟨c0, c1, c2, c3, c4, c5, c6, c7, c8, c9, c10, c11, c12, c13, c14⟩ := hI.cells; go_simp
        (try simp only [Act.put, zI, zJ, zK])
        refine tjI 5 90 (.agg (rlA r)) ?_ ?_
        ·
         intro X hX; obtain ⟨⟨⟨hBX, hI⟩, hJ⟩, hR⟩ := hX; obtain ⟨d0, d1, d2, d3⟩ := hR.rl; go_simp
        (try simp only [Act.put, zI, zJ, zK])
        refine rYI 6 fun K hK => ?_
        go_simp
        refine (HWD.out _ hHeld0.1.1.1).mono ?_
        rintro e wq1 ⟨rfl, hq1⟩
        go_simp
        refine hK.out _ _ ((hHeld0).on hq1) (fun hHeld1 => ?_)
        clear hK K
        (try simp only [Act.put, zI, zJ, zK])
        refine tkI 7 92 (.int .i64 (r.at_ + wd)) ?_
        simp only [Act.put, zI, zJ, zK]
        refine tkI 8 93 (.bool false) ?_
        simp only [Act.put, zI, zJ, zK]
        refine tkI 9 94 (.bool false) ?_
        simp only [Act.put, zI, zJ, zK]
        refine tnI 10 95 ?_
        simp only [Act.put, zI, zJ, zK]
        refine tnI 11 96 ?_
        simp only [Act.put, zI, zJ, zK]
        refine tnI 12 97 ?_
        simp only [Act.put, zI, zJ, zK]
        refine tnI 13 98 ?_
        simp only [Act.put, zI, zJ, zK]
        refine tnI 14 99 ?_
        simp only [Act.put, zI, zJ, zK]
        refine tnI 15 100 ?_
        simp only [Act.put, zI, zJ, zK]
        refine tkI 16 101 (.bool false) ?_
        simp only [Act.put, zI, zJ, zK]
        refine wpAnyH_done (by kernel_rfl) ?_ _
        clear e1 e2 e3 e4
        go_wp2_with fail
        go_roundw
        case rel => exact ⟨j + 1, by omega, by go_num, hHeld1.1, HV.out⟩
        case measure => simp [intOf]; omega
      ·
       obtain rfl : j = x.relocs.length := by omega
       have HV := hD (HY.out (by rw [HA2.out, HOA.out, HJ.out, decide_eq_true HLA.out]; rfl))
       clear HJ HNO HY HA2
       go_wp2_with fail
       go_roundw
       case rel => exact ⟨k + 1, by omega, by go_num, HSW.out.1, HV.out⟩
       case measure => simp [intOf]; omega
    ·
     obtain ⟨j, hj⟩ : ∃ j, k = j + 1 := ⟨k - 1, by omega⟩
     obtain ⟨hyr, hla⟩ := HPV.out j hj
     have HEJ := hD (HEJ0.out j (by omega))
     have hya := HYR.out _ hyr
     generalize x.slots.getD j noSl = y at *
     have e3 : wrap64 ((k : Int) - 1) = (k : Int) - 1 := wrap_in (by omega) (by omega)
     have e4 : IntKind.i64.wrap ((k : Int) - 1) = (k : Int) - 1 := (wrap_i64 _).trans e3
     have e5 : wrap64 (y.at_ + 8) = y.at_ + 8 := wrap_in (by omega) (by omega)
     have e6 : IntKind.i64.wrap (y.at_ + 8) = y.at_ + 8 := (wrap_i64 _).trans e5
     have hk0' : (0 : Int) < (k : Int) := by omega
     have hkt : ((k : Int) - 1).toNat = j := by omega
     have hkn : 0 < k := by omega
     have hk11 : ¬ (k : Int) < 1 := by omega
     have hj0 : (0 : Int) ≤ (k : Int) - 1 := by omega
     have hj1 : (k : Int) - 1 < (x.slots.length : Int) := by omega
     by_cases hlo : s.at_ < y.at_ + 8
     ·
      have HSV := hD (HNO.out (by rw [HA2.out, hla]; simp; omega))
      clear HNO HY HA2 HPV HZ hla hj hyr
      refine wp_region_held_drew (S := SLX w ⟨sg, nd, rp, ⟨some ⟨bs, os, none⟩, syc⟩, bk, fw, ⟨rla, rlc⟩, ⟨some ⟨b, o, none⟩, slc⟩, ini, fin, tl⟩ x g s) (by kernel_rfl) HSG.out (fun hHeld0 => ?_)
      refine tkI 0 58 (.int .i64 (k : Int)) ?_
      simp only [Act.put, zI, zJ, zK]
      refine tkI 1 59 (.bool true) ?_
      simp only [Act.put, zI, zJ, zK]
      refine tkI 2 60 (.bool true) ?_
      simp only [Act.put, zI, zJ, zK]
      refine tkI 3 61 (.pointer (some ⟨g, 0, none⟩)) ?_
      simp only [Act.put, zI, zJ, zK]
      refine tjI 4 62 (.int .i64 s.at_) ?_ ?_
      ·
       intro X hX; obtain ⟨⟨hBX, hI⟩, hJ⟩ := hX; obtain ⟨d0, d1, d2⟩ := hJ.sl; go_simp
      (try simp only [Act.put, zI, zJ, zK])
      refine tkI 5 63 (.pointer (some ⟨w.heap.size, 10, none⟩)) ?_
      simp only [Act.put, zI, zJ, zK]
      refine tjI 6 64 (.slice (some ⟨b, o, none⟩) x.slots.length slc) ?_ ?_
      ·
       intro X hX; obtain ⟨⟨hBX, hI⟩, hJ⟩ := hX; obtain ⟨c0, c1, c2, c3, c4, c5, c6, c7, c8, c9, c10, c11, c12, c13, c14⟩ := hI.cells; go_simp
      (try simp only [Act.put, zI, zJ, zK])
      refine tkI 7 65 (.int .i64 (k : Int)) ?_
      simp only [Act.put, zI, zJ, zK]
      refine tkI 8 66 (.int .i64 ((k : Int) - 1)) ?_
      simp only [Act.put, zI, zJ, zK]
      refine tkI 9 67 (.pointer (some ⟨b, o + j * 3, none⟩)) ?_
      simp only [Act.put, zI, zJ, zK]
      refine tkI 10 68 (.pointer (some ⟨b, o + j * 3, none⟩)) ?_
      simp only [Act.put, zI, zJ, zK]
      refine tjI 11 69 (.int .i64 y.at_) ?_ ?_
      ·
       intro X hX; obtain ⟨⟨hBX, hI⟩, hJ⟩ := hX; have q0 := HEJ.out X hBX; go_simp
      (try simp only [Act.put, zI, zJ, zK])
      refine tkI 12 70 (.int .i64 (y.at_ + 8)) ?_
      simp only [Act.put, zI, zJ, zK]
      refine tkI 13 71 (.bool true) ?_
      simp only [Act.put, zI, zJ, zK]
      refine tkI 14 72 (.bool true) ?_
      simp only [Act.put, zI, zJ, zK]
      refine wpAnyH_done (by kernel_rfl) ?_ _
      clear e3 e4 e5 e6 hkt
      go_wp2_with fail
      go_ret
      exact ⟨by rw [HSV.out]; rfl, hHeld0.1.1⟩
     ·
      have HLA := hD (show la ≤ s.at_ by rw [hla]; omega)
      clear HPV HZ hla hj hyr
      refine wp_region_held_drew (S := SLX w ⟨sg, nd, rp, ⟨some ⟨bs, os, none⟩, syc⟩, bk, fw, ⟨rla, rlc⟩, ⟨some ⟨b, o, none⟩, slc⟩, ini, fin, tl⟩ x g s) (by kernel_rfl) HSG.out (fun hHeld0 => ?_)
      refine tkI 0 58 (.int .i64 (k : Int)) ?_
      simp only [Act.put, zI, zJ, zK]
      refine tkI 1 59 (.bool true) ?_
      simp only [Act.put, zI, zJ, zK]
      refine tkI 2 60 (.bool true) ?_
      simp only [Act.put, zI, zJ, zK]
      refine tkI 3 61 (.pointer (some ⟨g, 0, none⟩)) ?_
      simp only [Act.put, zI, zJ, zK]
      refine tjI 4 62 (.int .i64 s.at_) ?_ ?_
      ·
       intro X hX; obtain ⟨⟨hBX, hI⟩, hJ⟩ := hX; obtain ⟨d0, d1, d2⟩ := hJ.sl; go_simp
      (try simp only [Act.put, zI, zJ, zK])
      refine tkI 5 63 (.pointer (some ⟨w.heap.size, 10, none⟩)) ?_
      simp only [Act.put, zI, zJ, zK]
      refine tjI 6 64 (.slice (some ⟨b, o, none⟩) x.slots.length slc) ?_ ?_
      ·
       intro X hX; obtain ⟨⟨hBX, hI⟩, hJ⟩ := hX; obtain ⟨c0, c1, c2, c3, c4, c5, c6, c7, c8, c9, c10, c11, c12, c13, c14⟩ := hI.cells; go_simp
      (try simp only [Act.put, zI, zJ, zK])
      refine tkI 7 65 (.int .i64 (k : Int)) ?_
      simp only [Act.put, zI, zJ, zK]
      refine tkI 8 66 (.int .i64 ((k : Int) - 1)) ?_
      simp only [Act.put, zI, zJ, zK]
      refine tkI 9 67 (.pointer (some ⟨b, o + j * 3, none⟩)) ?_
      simp only [Act.put, zI, zJ, zK]
      refine tkI 10 68 (.pointer (some ⟨b, o + j * 3, none⟩)) ?_
      simp only [Act.put, zI, zJ, zK]
      refine tjI 11 69 (.int .i64 y.at_) ?_ ?_
      ·
       intro X hX; obtain ⟨⟨hBX, hI⟩, hJ⟩ := hX; have q0 := HEJ.out X hBX; go_simp
      (try simp only [Act.put, zI, zJ, zK])
      refine tkI 12 70 (.int .i64 (y.at_ + 8)) ?_
      simp only [Act.put, zI, zJ, zK]
      refine tkI 13 71 (.bool false) ?_
      simp only [Act.put, zI, zJ, zK]
      refine tkI 14 72 (.bool false) ?_
      simp only [Act.put, zI, zJ, zK]
      refine wpAnyH_done (by kernel_rfl) ?_ _
      clear e3 e4 e5 e6 hkt hj0 hj1 hkn hk11
      go_upto_region 11 with (fail)
      generalize w4.drew = w5 at *
      go_wp2_with fail
      go_loopw [5] (fun t wr2 => ∃ j : Nat, j ≤ x.relocs.length ∧ t = .int .i64 j ∧ SLX w ⟨sg, nd, rp, ⟨some ⟨bs, os, none⟩, syc⟩, bk, fw, ⟨rla, rlc⟩, ⟨some ⟨b, o, none⟩, slc⟩, ini, fin, tl⟩ x g s wr2 ∧ (List.range j).any (fun j => overB x s.at_ (x.relocs.getD j noRl)) = false) (fun t _ => x.relocs.length - (intOf t).toNat)
      case atStart => exact ⟨0, Nat.zero_le _, rfl, hHeld0, rfl⟩
      case round =>
       obtain ⟨j, hj, rfl, hb, hje⟩ := hrel
       have HJ := hD hje
       have HSW := hD hb
       clear hje hb
       obtain ⟨-, -, -, -, -, -, -, -, -, f9, -⟩ := HSW.out.1.2.cells
       simp only at f9
       by_cases hjk : j < x.relocs.length
       ·
        obtain ⟨ar, rfl⟩ : ∃ ar, rla = some ar := by
         cases rla with
         | none => have := ((HRL.out _ HSW.out.b).nil rfl).1; omega
         | some ar => exact ⟨ar, rfl⟩
        have hE := HRL.out _ HSW.out.b
        have hcap2 := hE.cap
        obtain ⟨br, orr, rfl⟩ := hE.plain (by omega) rfl
        have d0 := hE.get j hjk 0 _ rfl
        have d1 := hE.get j hjk 1 _ rfl
        have d2 := hE.get j hjk 2 _ rfl
        have d3 := hE.get j hjk 3 _ rfl
        simp only [Nat.add_zero] at d0
        clear hE
        have hrl := HRR.out _ (getD_mem (d := noRl) hjk)
        have HJY := hD (fun h => range_yes (p := fun j => overB x s.at_ (x.relocs.getD j noRl)) hjk h)
        have HJT := hD (range_take (p := fun j => overB x s.at_ (x.relocs.getD j noRl)) HJ.out)
        try simp only at HJY HJT
        have HWD := hD (HWI.out _ hrl)
        have hyg := HRG.out _ hrl
        have HOB := hD (show overB x s.at_ (x.relocs.getD j noRl) = (decide ((x.relocs.getD j noRl).at_ < s.at_ + 8) && decide (s.at_ < (x.relocs.getD j noRl).at_ + wideI x (x.relocs.getD j noRl))) from rfl)
        have hj0 : (0 : Int) ≤ (j : Int) := by omega
        have hj1 : (j : Int) < (x.relocs.length : Int) := by omega
        have hra := HRA.out
        clear hrl
        generalize overB x s.at_ (x.relocs.getD j noRl) = ob at *
        generalize x.relocs.getD j noRl = r at *
        have hbx := rlbox_below wr r
        have HSY2 := hD (show SRX w ⟨sg, nd, rp, ⟨some ⟨bs, os, none⟩, syc⟩, bk, fw, ⟨some ⟨br, orr, none⟩, rlc⟩, ⟨some ⟨b, o, none⟩, slc⟩, ini, fin, tl⟩ x g s wr.heap.size r (wr.alloc (.cells (rlA r) 57)) from ⟨HSW.out.on hbx, rl_cells wr r⟩)
        clear hbx
        go_upto_region 15 with (fail)
        change Code.wp _ _ _ _ (wr.alloc (.cells (rlA r) 57))
        generalize hgr : wr.heap.size = gr at *
        generalize wr.alloc (.cells (rlA r) 57) = w6 at *
        clear d0 d1 d2 d3 f9 hgr
        have HSD := hD (HSY2.out.on (drew_below w6))
        generalize wideI x r = wd at *
        have e1 : wrap64 (r.at_ + wd) = r.at_ + wd := wrap_in (by omega) (by omega)
        have e2 : IntKind.i64.wrap (r.at_ + wd) = r.at_ + wd := (wrap_i64 _).trans e1
        have e3 : wrap64 (s.at_ + 8) = s.at_ + 8 := wrap_in (by omega) (by omega)
        have e4 : IntKind.i64.wrap (s.at_ + 8) = s.at_ + 8 := (wrap_i64 _).trans e3
        by_cases ha : s.at_ < r.at_ + wd
        ·
         by_cases hbq : r.at_ < s.at_ + 8
         ·
          have HV := hD (HNO.out (by rw [HA2.out, HOA.out, HJY.out (by rw [HOB.out, decide_eq_true ha, decide_eq_true hbq]; rfl)]; rfl))
          clear HJY HJT HOB hyg hra HNO HY HA2
          refine wp_region_held_drew (S := SRX w ⟨sg, nd, rp, ⟨some ⟨bs, os, none⟩, syc⟩, bk, fw, ⟨some ⟨br, orr, none⟩, rlc⟩, ⟨some ⟨b, o, none⟩, slc⟩, ini, fin, tl⟩ x g s gr r) (by kernel_rfl) HSD.out (fun hHeld0 => ?_)
          refine tkI 0 85 (.pointer (some ⟨g, 0, none⟩)) ?_
          simp only [Act.put, zI, zJ, zK]
          refine tjI 1 86 (.int .i64 s.at_) ?_ ?_
          ·
           intro X hX; obtain ⟨⟨⟨hBX, hI⟩, hJ⟩, hR⟩ := hX; obtain ⟨d0, d1, d2⟩ := hJ.sl; go_simp
          (try simp only [Act.put, zI, zJ, zK])
          refine tkI 2 87 (.pointer (some ⟨gr, 0, none⟩)) ?_
          simp only [Act.put, zI, zJ, zK]
          refine tjI 3 88 (.int .i64 r.at_) ?_ ?_
          ·
           intro X hX; obtain ⟨⟨⟨hBX, hI⟩, hJ⟩, hR⟩ := hX; obtain ⟨d0, d1, d2, d3⟩ := hR.rl; go_simp
          (try simp only [Act.put, zI, zJ, zK])
          refine tjI 4 89 (imV ⟨sg, nd, rp, ⟨some ⟨bs, os, none⟩, syc⟩, bk, fw, ⟨some ⟨br, orr, none⟩, rlc⟩, ⟨some ⟨b, o, none⟩, slc⟩, ini, fin, tl⟩ x) ?_ ?_
          ·
           intro X hX; obtain ⟨⟨⟨hBX, hI⟩, hJ⟩, hR⟩ := hX; obtain ⟨c0, c1, c2, c3, c4, c5, c6, c7, c8, c9, c10, c11, c12, c13, c14⟩ := hI.cells; go_simp
          (try simp only [Act.put, zI, zJ, zK])
          refine tjI 5 90 (.agg (rlA r)) ?_ ?_
          ·
           intro X hX; obtain ⟨⟨⟨hBX, hI⟩, hJ⟩, hR⟩ := hX; obtain ⟨d0, d1, d2, d3⟩ := hR.rl; go_simp
          (try simp only [Act.put, zI, zJ, zK])
          refine rYI 6 fun K hK => ?_
          go_simp
          refine (HWD.out _ hHeld0.1.1.1).mono ?_
          rintro e wq1 ⟨rfl, hq1⟩
          go_simp
          refine hK.out _ _ ((hHeld0).on hq1) (fun hHeld1 => ?_)
          clear hK K
          (try simp only [Act.put, zI, zJ, zK])
          refine tkI 7 92 (.int .i64 (r.at_ + wd)) ?_
          simp only [Act.put, zI, zJ, zK]
          refine tkI 8 93 (.bool true) ?_
          simp only [Act.put, zI, zJ, zK]
          refine tkI 9 94 (.bool true) ?_
          simp only [Act.put, zI, zJ, zK]
          refine tkI 10 95 (.pointer (some ⟨gr, 0, none⟩)) ?_
          simp only [Act.put, zI, zJ, zK]
          refine tjI 11 96 (.int .i64 r.at_) ?_ ?_
          ·
           intro X hX; obtain ⟨⟨⟨hBX, hI⟩, hJ⟩, hR⟩ := hX; obtain ⟨d0, d1, d2, d3⟩ := hR.rl; go_simp
          (try simp only [Act.put, zI, zJ, zK])
          refine tkI 12 97 (.pointer (some ⟨g, 0, none⟩)) ?_
          simp only [Act.put, zI, zJ, zK]
          refine tjI 13 98 (.int .i64 s.at_) ?_ ?_
          ·
           intro X hX; obtain ⟨⟨⟨hBX, hI⟩, hJ⟩, hR⟩ := hX; obtain ⟨d0, d1, d2⟩ := hJ.sl; go_simp
          (try simp only [Act.put, zI, zJ, zK])
          refine tkI 14 99 (.int .i64 (s.at_ + 8)) ?_
          simp only [Act.put, zI, zJ, zK]
          refine tkI 15 100 (.bool true) ?_
          simp only [Act.put, zI, zJ, zK]
          refine tkI 16 101 (.bool true) ?_
          simp only [Act.put, zI, zJ, zK]
          refine wpAnyH_done (by kernel_rfl) ?_ _
          clear e1 e2 e3 e4
          go_wp2_with fail
          go_ret
          exact ⟨by rw [HV.out]; rfl, hHeld1.1.1.1⟩
         ·
          have HV := hD (HJT.out.trans (by rw [HOB.out, decide_eq_false hbq, Bool.false_and]))
          clear HJY HJT HOB hyg hra HNO HY HA2
          refine wp_region_held_drew (S := SRX w ⟨sg, nd, rp, ⟨some ⟨bs, os, none⟩, syc⟩, bk, fw, ⟨some ⟨br, orr, none⟩, rlc⟩, ⟨some ⟨b, o, none⟩, slc⟩, ini, fin, tl⟩ x g s gr r) (by kernel_rfl) HSD.out (fun hHeld0 => ?_)
          refine tkI 0 85 (.pointer (some ⟨g, 0, none⟩)) ?_
          simp only [Act.put, zI, zJ, zK]
          refine tjI 1 86 (.int .i64 s.at_) ?_ ?_
          ·
           intro X hX; obtain ⟨⟨⟨hBX, hI⟩, hJ⟩, hR⟩ := hX; obtain ⟨d0, d1, d2⟩ := hJ.sl; go_simp
          (try simp only [Act.put, zI, zJ, zK])
          refine tkI 2 87 (.pointer (some ⟨gr, 0, none⟩)) ?_
          simp only [Act.put, zI, zJ, zK]
          refine tjI 3 88 (.int .i64 r.at_) ?_ ?_
          ·
           intro X hX; obtain ⟨⟨⟨hBX, hI⟩, hJ⟩, hR⟩ := hX; obtain ⟨d0, d1, d2, d3⟩ := hR.rl; go_simp
          (try simp only [Act.put, zI, zJ, zK])
          refine tjI 4 89 (imV ⟨sg, nd, rp, ⟨some ⟨bs, os, none⟩, syc⟩, bk, fw, ⟨some ⟨br, orr, none⟩, rlc⟩, ⟨some ⟨b, o, none⟩, slc⟩, ini, fin, tl⟩ x) ?_ ?_
          ·
           intro X hX; obtain ⟨⟨⟨hBX, hI⟩, hJ⟩, hR⟩ := hX; obtain ⟨c0, c1, c2, c3, c4, c5, c6, c7, c8, c9, c10, c11, c12, c13, c14⟩ := hI.cells; go_simp
          (try simp only [Act.put, zI, zJ, zK])
          refine tjI 5 90 (.agg (rlA r)) ?_ ?_
          ·
           intro X hX; obtain ⟨⟨⟨hBX, hI⟩, hJ⟩, hR⟩ := hX; obtain ⟨d0, d1, d2, d3⟩ := hR.rl; go_simp
          (try simp only [Act.put, zI, zJ, zK])
          refine rYI 6 fun K hK => ?_
          go_simp
          refine (HWD.out _ hHeld0.1.1.1).mono ?_
          rintro e wq1 ⟨rfl, hq1⟩
          go_simp
          refine hK.out _ _ ((hHeld0).on hq1) (fun hHeld1 => ?_)
          clear hK K
          (try simp only [Act.put, zI, zJ, zK])
          refine tkI 7 92 (.int .i64 (r.at_ + wd)) ?_
          simp only [Act.put, zI, zJ, zK]
          refine tkI 8 93 (.bool true) ?_
          simp only [Act.put, zI, zJ, zK]
          refine tkI 9 94 (.bool true) ?_
          simp only [Act.put, zI, zJ, zK]
          refine tkI 10 95 (.pointer (some ⟨gr, 0, none⟩)) ?_
          simp only [Act.put, zI, zJ, zK]
          refine tjI 11 96 (.int .i64 r.at_) ?_ ?_
          ·
           intro X hX; obtain ⟨⟨⟨hBX, hI⟩, hJ⟩, hR⟩ := hX; obtain ⟨d0, d1, d2, d3⟩ := hR.rl; go_simp
          (try simp only [Act.put, zI, zJ, zK])
          refine tkI 12 97 (.pointer (some ⟨g, 0, none⟩)) ?_
          simp only [Act.put, zI, zJ, zK]
          refine tjI 13 98 (.int .i64 s.at_) ?_ ?_
          ·
           intro X hX; obtain ⟨⟨⟨hBX, hI⟩, hJ⟩, hR⟩ := hX; obtain ⟨d0, d1, d2⟩ := hJ.sl; go_simp
          (try simp only [Act.put, zI, zJ, zK])
          refine tkI 14 99 (.int .i64 (s.at_ + 8)) ?_
          simp only [Act.put, zI, zJ, zK]
          refine tkI 15 100 (.bool false) ?_
          simp only [Act.put, zI, zJ, zK]
          refine tkI 16 101 (.bool false) ?_
          simp only [Act.put, zI, zJ, zK]
          refine wpAnyH_done (by kernel_rfl) ?_ _
          clear e1 e2 e3 e4
          go_wp2_with fail
          go_roundw
          case rel => exact ⟨j + 1, by omega, by go_num, hHeld1.1, HV.out⟩
          case measure => simp [intOf]; omega
        ·
         have HV := hD (HJT.out.trans (by rw [HOB.out, decide_eq_false ha, Bool.and_false]))
         clear HJY HJT HOB hyg hra HNO HY HA2
         refine wp_region_held_drew (S := SRX w ⟨sg, nd, rp, ⟨some ⟨bs, os, none⟩, syc⟩, bk, fw, ⟨some ⟨br, orr, none⟩, rlc⟩, ⟨some ⟨b, o, none⟩, slc⟩, ini, fin, tl⟩ x g s gr r) (by kernel_rfl) HSD.out (fun hHeld0 => ?_)
         refine tkI 0 85 (.pointer (some ⟨g, 0, none⟩)) ?_
         simp only [Act.put, zI, zJ, zK]
         refine tjI 1 86 (.int .i64 s.at_) ?_ ?_
         ·
          intro X hX; obtain ⟨⟨⟨hBX, hI⟩, hJ⟩, hR⟩ := hX; obtain ⟨d0, d1, d2⟩ := hJ.sl; go_simp
         (try simp only [Act.put, zI, zJ, zK])
         refine tkI 2 87 (.pointer (some ⟨gr, 0, none⟩)) ?_
         simp only [Act.put, zI, zJ, zK]
         refine tjI 3 88 (.int .i64 r.at_) ?_ ?_
         ·
          intro X hX; obtain ⟨⟨⟨hBX, hI⟩, hJ⟩, hR⟩ := hX; obtain ⟨d0, d1, d2, d3⟩ := hR.rl; go_simp
         (try simp only [Act.put, zI, zJ, zK])
         refine tjI 4 89 (imV ⟨sg, nd, rp, ⟨some ⟨bs, os, none⟩, syc⟩, bk, fw, ⟨some ⟨br, orr, none⟩, rlc⟩, ⟨some ⟨b, o, none⟩, slc⟩, ini, fin, tl⟩ x) ?_ ?_
         ·
          intro X hX; obtain ⟨⟨⟨hBX, hI⟩, hJ⟩, hR⟩ := hX; obtain ⟨c0, c1, c2, c3, c4, c5, c6, c7, c8, c9, c10, c11, c12, c13, c14⟩ := hI.cells; go_simp
         (try simp only [Act.put, zI, zJ, zK])
         refine tjI 5 90 (.agg (rlA r)) ?_ ?_
         ·
          intro X hX; obtain ⟨⟨⟨hBX, hI⟩, hJ⟩, hR⟩ := hX; obtain ⟨d0, d1, d2, d3⟩ := hR.rl; go_simp
         (try simp only [Act.put, zI, zJ, zK])
         refine rYI 6 fun K hK => ?_
         go_simp
         refine (HWD.out _ hHeld0.1.1.1).mono ?_
         rintro e wq1 ⟨rfl, hq1⟩
         go_simp
         refine hK.out _ _ ((hHeld0).on hq1) (fun hHeld1 => ?_)
         clear hK K
         (try simp only [Act.put, zI, zJ, zK])
         refine tkI 7 92 (.int .i64 (r.at_ + wd)) ?_
         simp only [Act.put, zI, zJ, zK]
         refine tkI 8 93 (.bool false) ?_
         simp only [Act.put, zI, zJ, zK]
         refine tkI 9 94 (.bool false) ?_
         simp only [Act.put, zI, zJ, zK]
         refine tnI 10 95 ?_
         simp only [Act.put, zI, zJ, zK]
         refine tnI 11 96 ?_
         simp only [Act.put, zI, zJ, zK]
         refine tnI 12 97 ?_
         simp only [Act.put, zI, zJ, zK]
         refine tnI 13 98 ?_
         simp only [Act.put, zI, zJ, zK]
         refine tnI 14 99 ?_
         simp only [Act.put, zI, zJ, zK]
         refine tnI 15 100 ?_
         simp only [Act.put, zI, zJ, zK]
         refine tkI 16 101 (.bool false) ?_
         simp only [Act.put, zI, zJ, zK]
         refine wpAnyH_done (by kernel_rfl) ?_ _
         clear e1 e2 e3 e4
         go_wp2_with fail
         go_roundw
         case rel => exact ⟨j + 1, by omega, by go_num, hHeld1.1, HV.out⟩
         case measure => simp [intOf]; omega
       ·
        obtain rfl : j = x.relocs.length := by omega
        have HV := hD (HY.out (by rw [HA2.out, HOA.out, HJ.out, decide_eq_true HLA.out]; rfl))
        clear HJ HNO HY HA2
        go_wp2_with fail
        go_roundw
        case rel => exact ⟨k + 1, by omega, by go_num, HSW.out.1, HV.out⟩
        case measure => simp [intOf]; omega
   ·
    obtain rfl : k = x.slots.length := by omega
    go_wp2_with fail
    go_ret
    exact ⟨by rw [HF2.out, HE.out]; rfl, HSR.out.1⟩
 ·
  have hl' : (128 : Int) < (x.slots.length : Int) := by omega
  have HV := hD (show bb = false by rw [HF.out, decide_eq_false hl]; rfl)
  go_wp2
  go_ret
  exact ⟨by rw [HV.out]; rfl, HS0.out.1⟩
end Go.Proofs.YtfljignkjmabpaaGreat
