/- A part of the proof. -/
import Derived.Test.YtfljignkjmabpaaGreatZH
set_option linter.unusedSimpArgs false
set_option linter.unusedVariables false
namespace Go.Proofs.YtfljignkjmabpaaGreat
set_option maxRecDepth 100000
open Go.RowKit
def symAt (x : Im) (k : Nat) : Bool := symB x (x.syms.getD k noSy) && !(x.syms.take k).any (clashB (x.syms.getD k noSy))
def symsB (x : Im) : Bool := decide (x.syms.length ≤ 512) && (List.range x.syms.length).all (symAt x)
theorem syms_step {x : Im} {k : Nat} (h : (List.range k).all (symAt x) = true) (h1 : symAt x k = true) : (List.range (k + 1)).all (symAt x) = true := by
 rw [List.range_succ, List.all_append, h]
 simp [h1]
theorem syms_no {x : Im} {k : Nat} (hk : k < x.syms.length) (h1 : symAt x k = false) : symsB x = false := by
 unfold symsB
 rw [show (List.range x.syms.length).all (symAt x) = false from List.all_eq_false.2 ⟨k, List.mem_range.2 hk, by simp [h1]⟩, Bool.and_false]
theorem ret_bl' {x b : Bool} (h : x = b) : Ending.returned (Value.bool b) = .returned (.bool x) := by rw [h]
theorem Syl.front {w : World} {P : Nat → Prop} {A : Option Addr} {c : Nat} {l : List Sym} (h : Syl w P A l.length c l) (k : Nat) (hk : k ≤ l.length) : Syl w P A (l.take k).length c (l.take k) := by
 have hl : (l.take k).length = k := by rw [List.length_take]; omega
 refine ⟨rfl, fun hA => ?_, by have := h.cap; omega, fun ad hA h0 => h.blk ad hA (by omega), fun ad hA j hj i u hu => ?_⟩
 ·
  have := h.nil hA
  omega
 ·
  refine h.at_ ad hA j (by omega) i u ?_
  rw [← hu]
  simp
set_option maxHeartbeats 4000000 in
theorem syms_any (p : Pl) (x : Im) (w : World) (h : ImIn w (fun k => k < w.heap.size) p x) (hf : Fit x) (hs : ∀ s ∈ x.segs, SegOk s) (ht : 0 ≤ x.tlsSize ∧ x.tlsSize ≤ 4096) :
  Calls Tryz.prog 31 #[imV p x] w fun e w' => e = .returned (.bool (symsB x)) ∧ Below w.heap.size w w' := by
 obtain ⟨sg, nd, rp, ⟨sya, syc⟩, bk, fw, rl, sl, ini, fin, tl⟩ := p
 have hls := hf.syms
 unfold Long at hls
 have hb1 := ibox_below w ⟨sg, nd, rp, ⟨sya, syc⟩, bk, fw, rl, sl, ini, fin, tl⟩ x
 have hx1 := Ix.new w ⟨sg, nd, rp, ⟨sya, syc⟩, bk, fw, rl, sl, ini, fin, tl⟩ x
 have H := hD h
 have HSY := hD (fun (X : World) (hX : Below w.heap.size w X) k (hk : k < x.syms.length) => isSym_any _ x (x.syms.getD k noSy) X (h.lt hX) hf.segs hs ht (hf.sym _ (getD_mem hk)).2.2.2.2.2)
 have HCL := hD (fun (X : World) (hX : Below w.heap.size w X) k (hk : k < x.syms.length) => clashes_any (x.syms.getD k noSy) sya syc (x.syms.take k) X ((h.lt hX).syms.front k (by omega)) (by rw [List.length_take]; omega))
 clear h hf hs ht
 go_enter Tryz.func31, Tryz.ntmps31
 go_upto_region 1 with (fail)
 change Code.wp _ _ _ _ (w.alloc (.cells (imA ⟨sg, nd, rp, ⟨sya, syc⟩, bk, fw, rl, sl, ini, fin, tl⟩ x) 40))
 generalize w.alloc (.cells (imA ⟨sg, nd, rp, ⟨sya, syc⟩, bk, fw, rl, sl, ini, fin, tl⟩ x) 40) = w1 at *
 have HB1 := hD hb1
 have HX1 := hD hx1
 obtain ⟨-, -, -, -, -, c5, -⟩ := hx1.cells
 simp only at c5
 clear hb1 hx1
 by_cases hl : x.syms.length ≤ 512
 ·
  have hl' : ¬ (512 : Int) < (x.syms.length : Int) := by omega
  go_wp2
  go_loopw [12] (fun t wr => ∃ k : Nat, k ≤ x.syms.length ∧ t = .int .i64 k ∧ Below w1.heap.size w1 wr ∧ (List.range k).all (symAt x) = true) (fun t _ => x.syms.length - (intOf t).toNat)
  case atStart => exact ⟨0, Nat.zero_le _, rfl, Below.refl _ _, rfl⟩
  case round =>
   obtain ⟨k, hk, rfl, hb, he⟩ := hrel
   have HE := hD he
   have HB := hD (HB1.out.trans (hb.mono HB1.out.size))
   have HBR := hD hb
   have HX := hD (HX1.out.below hb)
   clear he hb
   by_cases hlt : k < x.syms.length
   ·
    obtain ⟨ad, rfl⟩ : ∃ ad, sya = some ad := by
     cases sya with
     | none => have := (H.out.syms.nil rfl).1; omega
     | some ad => exact ⟨ad, rfl⟩
    have HS := hD (H.out.lt HB.out).syms
    have hcap := HS.out.cap
    obtain ⟨b, o, rfl⟩ := HS.out.plain (by omega)
    have hg := HS.out.els.get k hlt
    have d0 := hg 0 _ rfl
    have d1 := hg 1 _ rfl
    have d2 := hg 2 _ rfl
    have d3 := hg 3 _ rfl
    have d4 := hg 4 _ rfl
    have d5 := hg 5 _ rfl
    have d6 := hg 6 _ rfl
    have d7 := hg 7 _ rfl
    have d8 := hg 8 _ rfl
    simp only [Nat.add_zero] at d0
    clear hg
    have HA := hD (show symAt x k = (symB x (x.syms.getD k noSy) && !(x.syms.take k).any (clashB (x.syms.getD k noSy))) from rfl)
    have HIS := hD (fun X hX => HSY.out X hX k hlt)
    have HIC := hD (fun X hX => HCL.out X hX k hlt)
    have HYE := hD (fun h => syms_step (x := x) (k := k) HE.out h)
    have HNO := hD (fun h => syms_no (x := x) (k := k) hlt h)
    rw [show (x.syms.take k).length = k by rw [List.length_take]; omega] at HIC
    generalize symAt x k = sa at *
    generalize (x.syms.take k).any (clashB (x.syms.getD k noSy)) = cb at *
    generalize symB x (x.syms.getD k noSy) = sb at *
    generalize x.syms.getD k noSy = s at *
    clear HSY HCL HE
    have HBX := hD (HB.out.trans (((Below.refl wr.heap.size wr).alloc (Nat.le_refl _) (.cells (symA s) 105)).mono HB.out.size))
    have HBX1 := hD (HBR.out.trans (((Below.refl wr.heap.size wr).alloc (Nat.le_refl _) (.cells (symA s) 105)).mono HBR.out.size))
    have HSX := hD (Sx.new wr s)
    have HXX := hD (HX.out.below ((Below.refl wr.heap.size wr).alloc (Nat.le_refl _) (.cells (symA s) 105)))
    go_upto_region 6 with (fail)
    change Code.wp _ _ _ _ (wr.alloc (.cells (symA s) 105))
    generalize wr.alloc (.cells (symA s) 105) = w2 at *
    obtain ⟨c0, c1, c2, c3, c4, c5', c6, c7, c8, c9, c10, c11, c12, c13, c14⟩ := HXX.out.cells
    obtain ⟨x0, x1, x2, x3, x4, x5, x6, x7, x8⟩ := HSX.out.cells
    have HBD := hD (HBX.out.trans ((drew_below w2).mono HBX.out.size))
    have HK := hD (fun (X : World) (hX : Below w2.heap.size w2 X) => (show Below w.heap.size w X ∧ Below w1.heap.size w1 X from ⟨HBX.out.trans (hX.mono HBX.out.size), HBX1.out.trans (hX.mono HBX1.out.size)⟩))
    simp only at c2 c3 c4 c5' c6 c7 c9 c10 c11 c12 c13
    have hk0 : (0 : Int) ≤ (k : Int) := by omega
    have hk1 : (k : Int) ≤ (syc : Int) := by simp only at hcap; omega
    cases sb
    ·
     have HN := hD (HNO.out (by rw [HA.out]; rfl))
     clear HYE HNO HIC d0 d1 d2 d3 d4 d5 d6 d7 d8 HS
     first
      | (go_region_with (go_at_call 107; (with_reducible refine (HIS.out _ HBD.out).mono ?_); rintro e w3 ⟨rfl, hb3⟩))
      | fail
     all_goals
      go_wp2_with fail
      first | go_ret | skip
      exact ⟨ret_bl' HN.out, (HK.out _ ((drew_below w2).trans hb3)).1⟩
    ·
     cases cb
     ·
      have HN := hD (HYE.out (by rw [HA.out]; rfl))
      clear HYE HNO d0 d1 d2 d3 d4 d5 d6 d7 d8
      go_region_with (first
       | (go_at_call 107; (with_reducible refine (HIS.out _ HBD.out).mono ?_); rintro e w3 ⟨rfl, hb3⟩; obtain ⟨-, -, -, -, -, z5, -⟩ := (HXX.out.below ((drew_below w2).trans hb3)).cells; simp only at z5; obtain ⟨y0, y1, y2, y3, y4, y5, y6, y7, y8⟩ := (HSX.out.below ((drew_below w2).trans hb3)).cells; have HBW := hD ((drew_below w2).trans hb3); clear hb3)
       | (go_at_call 108; (with_reducible refine (HIC.out _ (HK.out _ HBW.out).1).mono ?_); rintro e w4 ⟨rfl, hb4⟩; have HBV := hD (HK.out _ (HBW.out.trans (hb4.mono HBW.out.size))); clear hb4))
      all_goals
       go_wp2_with fail
       go_roundw
       case rel => exact ⟨k + 1, by omega, by go_num, HBV.out.2, HN.out⟩
       case measure => simp [intOf]; omega
     ·
      have HN := hD (HNO.out (by rw [HA.out]; rfl))
      clear HYE HNO d0 d1 d2 d3 d4 d5 d6 d7 d8
      go_region_with (first
       | (go_at_call 107; (with_reducible refine (HIS.out _ HBD.out).mono ?_); rintro e w3 ⟨rfl, hb3⟩; obtain ⟨-, -, -, -, -, z5, -⟩ := (HXX.out.below ((drew_below w2).trans hb3)).cells; simp only at z5; obtain ⟨y0, y1, y2, y3, y4, y5, y6, y7, y8⟩ := (HSX.out.below ((drew_below w2).trans hb3)).cells; have HBW := hD ((drew_below w2).trans hb3); clear hb3)
       | (go_at_call 108; (with_reducible refine (HIC.out _ (HK.out _ HBW.out).1).mono ?_); rintro e w4 ⟨rfl, hb4⟩; have HBV := hD (HK.out _ (HBW.out.trans (hb4.mono HBW.out.size))); clear hb4))
      all_goals
       go_wp2_with fail
       first | go_ret | skip
       exact ⟨ret_bl' HN.out, HBV.out.1⟩
   ·
    obtain rfl : k = x.syms.length := by omega
    have HN := hD (show symsB x = true by unfold symsB; rw [HE.out]; simp [hl])
    go_wp2
    go_ret
    exact ⟨ret_bl' HN.out, HB.out⟩
 ·
  have hl' : (512 : Int) < (x.syms.length : Int) := by omega
  have HN := hD (show symsB x = false by unfold symsB; simp [hl])
  go_wp2
  go_ret
  exact ⟨ret_bl' HN.out, HB1.out⟩
end Go.Proofs.YtfljignkjmabpaaGreat
