/-
  The law package's examples.
  What is read off the front of bytes is read off the front of longer ones: plain words.
  The bytes of an image, cut or made longer: the walk of the law.
  How symbols come in: by value, and in slices.
  How tables come in.
-/
import Derived.Test.YtacknedekhpklaaGreatZSC
import Derived.Test.YtacknedekhpklaaGreatZTMLoad
import Derived.Test.YtacknedekhpklaaGreatZCZa
import Derived.Test.YtacknedekhpklaaGreatZCA
import Derived.Test.YtacknedekhpklaaGreatZTI
namespace Go.Proofs.YtacknedekhpklaaGreat
set_option maxRecDepth 100000
set_option linter.unusedSimpArgs false
set_option linter.unusedVariables false
open Go.RowKit

theorem len_least : (formL leastI).length ≤ 4000000 := (form_ok least_may least_fit).2.2
theorem dec_least : decI (formL leastI) = leastI ∧ decE (formL leastI) = 0 := dec_form least_may least_fit
abbrev zeroP : Pl := ⟨(none, 0), (none, 0), (none, 0), (none, 0), (none, 0), (none, 0), (none, 0), (none, 0), (none, 0), (none, 0), (none, 0)⟩
theorem zero_in (w : World) (P : Nat → Prop) : ImIn w P zeroP zeroI :=
  im_made (y3 := []) (y4 := []) (y5 := []) (y6 := []) (y7 := []) (y9 := []) (y10 := []) (y11 := []) (y12 := []) (y13 := []) (tl := []) (B3 := fun _ => (none, 0)) (B4 := fun _ => (none, 0)) (B12 := (none, 0)) (B13 := (none, 0))
    (els_none _ _ _ _) (fun k hk => by cases hk) (els_none _ _ _ _) (fun k hk => by cases hk) (src_zero _ _) (syl_none _ _) ⟨⟨fun _ => ⟨rfl, rfl⟩, Nat.le_refl _, (by intro ad h; cases h), (by intro ad h; cases h)⟩, src_zero _ _⟩ (els_none _ _ _ _) (els_none _ _ _ _) (src_zero _ _) (src_zero _ _) (src_zero _ _)
theorem zero_val : Value.agg zIm = imV zeroP zeroI := rfl
/-- The image with a relocation more. -/
abbrev wrongP (p : Pl) (rb : Nat) : Pl := { p with rl := (some ⟨rb, 0, none⟩, 1) }
theorem wrong_cells (p : Pl) (rb : Nat) : (imA p leastI).setIfInBounds 9 (.slice (some ⟨rb, 0, none⟩) 1 1) = imA (wrongP p rb) wrongI := by
  simp [leastI, wrongI]
theorem wrong_els {w : World} {P : Nat → Prop} {rb : Nat} (h : Bx w rb (rlA ⟨0, 1, -1, 0⟩) 61) (hP : P rb) : Els w P (some ⟨rb, 0, none⟩) 1 1 4 (fun k => rlA (([⟨0, 1, -1, 0⟩] : List Rl).getD k noRl)) := by
  refine ⟨(by intro e; cases e), Nat.le_refl _, (by intro ad e _; cases e; exact hP), ?_⟩
  intro ad e k hk j u hu
  cases e
  obtain rfl : k = 0 := by omega
  rw [plainAdd, Nat.zero_mul, Nat.zero_add, Nat.zero_add, h.c j]
  exact hu
theorem wrong_in {w : World} {P : Nat → Prop} {p : Pl} {rb : Nat} (h : ImIn w P p leastI) (hr : Bx w rb (rlA ⟨0, 1, -1, 0⟩) 61) (hP : P rb) : ImIn w P (wrongP p rb) wrongI :=
  ⟨h.segs, h.needed, h.run, h.syms, h.tab, ⟨rfl, wrong_els hr hP⟩, h.slots, h.init, h.fini, h.tls⟩
set_option maxHeartbeats 8000000 in
theorem iawake_any (w : World) : Calls Tryz.prog 10 #[] w fun e w' => e = .returned (.bool true) ∧ Below w.heap.size w w' := by
  go_enter Tryz.func10, Tryz.ntmps10
  go_upto_region 2 with (go_at_call 25; (with_reducible refine (least_any _).mono ?_); rintro en w1 ⟨p, rfl, h1, hb1⟩; have HI1 := Lib.hid h1; have HB1 := Lib.hid hb1; clear h1 hb1)
  have hbx := ibox_below w1 p leastI
  have HX2 := Lib.hid (Ix.new w1 p leastI)
  have HI2 := Lib.hid (HI1.out.lt hbx)
  have HB2 := Lib.hid (HB1.out.trans (hbx.mono HB1.out.size))
  have HP2 := Lib.hid (HI1.out.keep fun k hk hl => hbx.block k hl : ImIn (w1.alloc (.cells (imA p leastI) 38)) (fun k => k < w1.heap.size) p leastI)
  clear hbx
  change Code.wp _ _ _ _ (w1.alloc (.cells (imA p leastI) 38))
  generalize w1.alloc (.cells (imA p leastI) 38) = w2 at *
  generalize hbx1 : w1.heap.size = b1 at *
  have HEN := Lib.hid (encode_yes p leastI w2 HI2.out least_fit least_may)
  have HL := Lib.hid len_least
  have HD := Lib.hid dec_least
  generalize formL leastI = l at *
  refine wp_region_lit ?_
  refine wpl_load_im HX2.out rfl ?_
  go_upto_region 3 with (go_at_call 13; (with_reducible refine (HEN.out).mono ?_); rintro en w3 ⟨A3, c3, rfl, ho3, hb3⟩; have HO3 := Lib.hid ho3; have HB3 := Lib.hid hb3; clear ho3 hb3)
  have HX3 := Lib.hid (HX2.out.below HB3.out)
  have HI3 := Lib.hid (HI2.out.lt HB3.out)
  have HBA := Lib.hid (HB2.out.trans (HB3.out.mono HB2.out.size))
  have HDC := Lib.hid (decode_any _ A3 l.length c3 l w3 (Src.of_own HO3.out) (by have := HL.out; omega))
  go_upto_region 4 with (go_at_call 17; (with_reducible refine (HDC.out).mono ?_); rintro en w4 (⟨hd, -, -⟩ | ⟨-, p4, rfl, h4, hb4⟩); (exact absurd HD.out.2 hd); rw [HD.out.1] at h4; have HI4 := Lib.hid h4; have HB4 := Lib.hid hb4; clear h4 hb4)
  have hdi := HD.out.1
  rw [hdi]
  clear hdi HD HDC HEN HL
  have hbx := ibox_below w4 p4 leastI
  have hlt2 : b1 < w2.heap.size := HX2.out.lt
  have HX5 := Lib.hid (Ix.new w4 p4 leastI)
  have hs23 := HB3.out.size
  have hs34 := HB4.out.size
  have HI5 := Lib.hid (HI4.out.keep fun k hk hl => hbx.block k hl : ImIn (w4.alloc (.cells (imA p4 leastI) 38)) (fun k => w3.heap.size ≤ k ∧ k < w4.heap.size) p4 leastI)
  have HX1 := Lib.hid ((HX3.out.below HB4.out).below hbx)
  have HP5 := Lib.hid (((HP2.out.keep fun k hk hl => HB3.out.block k hl).keep fun k hk hl => HB4.out.block k hl).keep fun k hk hl => hbx.block k hl : ImIn (w4.alloc (.cells (imA p4 leastI) 38)) (fun k => k < b1) p leastI)
  have HB5 := Lib.hid ((HBA.out.trans (HB4.out.mono HBA.out.size)).trans (hbx.mono (HBA.out.trans (HB4.out.mono HBA.out.size)).size))
  have hz5 : (w4.alloc (.cells (imA p4 leastI) 38)).heap.size = w4.heap.size + 1 := by simp
  have HZ5 := Lib.hid hz5
  have HWB := Lib.hid (show w.heap.size ≤ b1 by rw [← hbx1]; exact HB1.out.size)
  clear hbx HX2 HX3 HI1 HI2 HI3 HI4 HP2 hz5
  change Code.wp _ _ _ _ (w4.alloc (.cells (imA p4 leastI) 38))
  generalize w4.alloc (.cells (imA p4 leastI) 38) = w5 at *
  generalize hb4 : w4.heap.size = b4 at *
  have hne : b4 ≠ b1 := by omega
  have hlt1 := HX1.out.lt
  have hlt4 := HX5.out.lt
  have c9 := HX1.out.cells.2.2.2.2.2.2.2.2.2.1
  have f9 : w5.frozen? ⟨b1, 9, none⟩ = false := HX1.out.bx.f 9
  go_upto_region 5 with (fail)
  have HXW := Lib.hid (show Ix ((w5.setCell ⟨b1, 9, none⟩ (.slice (some ⟨w5.heap.size, 0, none⟩) 1 1)).alloc (.cells (rlA ⟨0, 1, -1, 0⟩) 61)) b1 (wrongP p w5.heap.size) wrongI from ⟨by
    have h1 := heap_setCell_same w5 b1 9 (imA p leastI) _ (.slice (some ⟨w5.heap.size, 0, none⟩) 1 1) HX1.out.bx
    rw [wrong_cells] at h1
    exact Bx.alloc (w := w5.setCell ⟨b1, 9, none⟩ (.slice (some ⟨w5.heap.size, 0, none⟩) 1 1)) h1 _⟩)
  have hset : ∀ k, k < w5.heap.size → k ≠ b1 → ((w5.setCell ⟨b1, 9, none⟩ (.slice (some ⟨w5.heap.size, 0, none⟩) 1 1)).alloc (.cells (rlA ⟨0, 1, -1, 0⟩) 61)).heap[k]? = w5.heap[k]? := fun k h1 h2 =>
    (Below.heap_alloc _ _ k (by simpa [World.setCell] using h1)).trans (Below.heap_setCell w5 _ _ k (by simpa using h2))
  have hzz : ((w5.setCell ⟨b1, 9, none⟩ (.slice (some ⟨w5.heap.size, 0, none⟩) 1 1)).alloc (.cells (rlA ⟨0, 1, -1, 0⟩) 61)).heap.size = w5.heap.size + 1 := by simp [World.setCell]
  have HX4 := Lib.hid (show Ix ((w5.setCell ⟨b1, 9, none⟩ (.slice (some ⟨w5.heap.size, 0, none⟩) 1 1)).alloc (.cells (rlA ⟨0, 1, -1, 0⟩) 61)) b4 p4 leastI from ⟨(hset b4 hlt4 hne).trans HX5.out.bx⟩)
  have HRB := Lib.hid (show Bx ((w5.setCell ⟨b1, 9, none⟩ (.slice (some ⟨w5.heap.size, 0, none⟩) 1 1)).alloc (.cells (rlA ⟨0, 1, -1, 0⟩) 61)) w5.heap.size (rlA ⟨0, 1, -1, 0⟩) 61 from by
    have := Bx.new (w5.setCell ⟨b1, 9, none⟩ (.slice (some ⟨w5.heap.size, 0, none⟩) 1 1)) (rlA ⟨0, 1, -1, 0⟩) 61
    rwa [show (w5.setCell ⟨b1, 9, none⟩ (.slice (some ⟨w5.heap.size, 0, none⟩) 1 1)).heap.size = w5.heap.size by simp [World.setCell]] at this)
  have HPW := Lib.hid (wrong_in ((HP5.out.keep (w' := (w5.setCell ⟨b1, 9, none⟩ (.slice (some ⟨w5.heap.size, 0, none⟩) 1 1)).alloc (.cells (rlA ⟨0, 1, -1, 0⟩) 61)) fun k hk hl => hset k hl (by omega)).weak (Q := fun k => k < w5.heap.size + 1) fun k hk => by omega) HRB.out (by omega))
  have HIS := Lib.hid (HI5.out.keep (w' := (w5.setCell ⟨b1, 9, none⟩ (.slice (some ⟨w5.heap.size, 0, none⟩) 1 1)).alloc (.cells (rlA ⟨0, 1, -1, 0⟩) 61)) fun k hk hl => hset k hl (by omega))
  have HBW := Lib.hid ((HB5.out.setCell (p := ⟨b1, 9, none⟩) HWB.out (.slice (some ⟨w5.heap.size, 0, none⟩) 1 1)).alloc (by have := HB5.out.size; simpa [World.setCell] using this) (.cells (rlA ⟨0, 1, -1, 0⟩) 61))
  clear hset HX1 HX5 HI5 HP5 HRB c9 f9
  change Code.wp _ _ _ _ ((w5.setCell ⟨b1, 9, none⟩ (.slice (some ⟨w5.heap.size, 0, none⟩) 1 1)).alloc (.cells (rlA ⟨0, 1, -1, 0⟩) 61))
  generalize hw7 : (w5.setCell ⟨b1, 9, none⟩ (.slice (some ⟨w5.heap.size, 0, none⟩) 1 1)).alloc (.cells (rlA ⟨0, 1, -1, 0⟩) 61) = w7 at *
  generalize w5.heap.size = rb at *
  have HZZ := Lib.hid hzz
  have HM0 := Lib.hid (may_im_any zeroP zeroI w7 (zero_in _ _) zero_fit)
  rw [zero_may, ← zero_val] at HM0
  have hsg := HIS.out.segs
  obtain ⟨hsl, SB, hse, hsb⟩ := hsg
  obtain ⟨sg, hsg⟩ : ∃ sg, p4.sg.1 = some sg := by
    cases hp : p4.sg.1 with
    | none => have := (hse.nil hp).1; simp [leastI] at this
    | some sg => exact ⟨sg, rfl⟩
  rw [hsg] at hse
  obtain ⟨sb, so, rfl⟩ := hse.plain (by simp [leastI]) rfl
  have hel := hse.get 0 (by simp [leastI]) 3 (.int .i64 5) rfl
  have HEL := Lib.hid (show w7.cell? ⟨sb, so + 3, none⟩ = some (.int .i64 5) by simpa using hel)
  have hq : w7.cell? ⟨b4, 2, none⟩ = some (.slice p4.sg.1 1 p4.sg.2) := HX4.out.bx.c 2
  rw [hsg] at hq
  have HQ := Lib.hid hq
  clear hsl hse hsb hel hq hzz hw7
  go_wp2_with fail
  (with_reducible refine (HM0.out).mono ?_)
  rintro en w8 ⟨rfl, hb8⟩
  have HX8 := Lib.hid (HXW.out.below hb8)
  have hq := cell_below hb8 HQ.out
  have hel := cell_below hb8 HEL.out
  obtain ⟨c0, c1, c2, c3, c4, c5, c6, c7, c8, c9, c10, c11, c12, c13, c14⟩ := HX8.out.cells
  have HM1 := may_im_any (wrongP p rb) wrongI w8 ((HPW.out.keep fun k hk hl => hb8.block k hl).weak fun k hk => by have := hb8.size; have := HZZ.out; omega) wrong_fit
  rw [wrong_may] at HM1
  have HM1 := Lib.hid HM1
  have HB8 := Lib.hid (HBW.out.trans (hb8.mono HBW.out.size))
  clear hb8
  go_wp2_with fail
  (with_reducible refine (HM1.out).mono ?_)
  rintro en w9 ⟨rfl, hb9⟩
  have HB9 := Lib.hid (HB8.out.trans (hb9.mono HB8.out.size))
  clear hb9
  go_wp2_with fail
  go_ret
  exact ⟨rfl, HB9.out⟩
end Go.Proofs.YtacknedekhpklaaGreat

namespace Go.Proofs.YtacknedekhpklaaGreat
set_option maxRecDepth 100000
set_option linter.unusedSimpArgs false
set_option linter.unusedVariables false
open Go.RowKit

/-- A reading that ends without an error does the same on longer bytes, and leaves more behind. -/
def Ey {α : Type} (q : St → α × St) : Prop := (∀ s, s.1 ≠ 0 → (q s).2 = s) ∧ ∀ b t, (q (0, b)).2.1 = 0 → q (0, b ++ t) = ((q (0, b)).1, (0, (q (0, b)).2.2 ++ t))
def Ex {α : Type} (r : St → α × Bool × St) : Prop := (∀ s, s.1 ≠ 0 → (r s).2.2 = s) ∧ ∀ b t, (r (0, b)).2.2.1 = 0 → r (0, b ++ t) = ((r (0, b)).1, (r (0, b)).2.1, (0, (r (0, b)).2.2.2 ++ t))
theorem eyNum (size : Int) : Ey (rNum size) := by
  refine ⟨fun s h => rNum_stick _ s h, fun b t h => ?_⟩
  unfold rNum at h ⊢
  by_cases hs : sized size = true
  · rw [if_pos hs] at h ⊢
    rw [if_pos hs]
    unfold rTake at h ⊢
    simp only [if_true] at h ⊢
    by_cases hn : size.toNat ≤ b.length
    · rw [if_pos hn, if_pos (by rw [List.length_append]; omega), List.take_append_of_le_length hn, List.drop_append_of_le_length hn]
    · rw [if_neg hn] at h
      exact absurd h (show ¬ ((11 : Int) = 0) by decide)
  · rw [if_neg hs] at h
    exact absurd h (by simp)
theorem eyMeas (size most : Nat) : Ey (rMeas size most) := by
  refine ⟨fun s h => by unfold rMeas; rw [if_neg h], fun b t h => ?_⟩
  unfold rMeas at h ⊢
  simp only [if_true] at h ⊢
  by_cases h1 : b.length < size
  · rw [if_pos h1] at h
    exact absurd h (show ¬ ((11 : Int) = 0) by decide)
  rw [if_neg h1] at h ⊢
  rw [if_neg (by rw [List.length_append]; omega), List.take_append_of_le_length (by omega), List.drop_append_of_le_length (by omega)]
  by_cases h2 : most < valN (b.take size)
  · rw [if_pos h2] at h
    exact absurd h (show ¬ ((2 : Int) = 0) by decide)
  rw [if_neg h2] at h ⊢
  rw [if_neg h2]
  by_cases h3 : b.length - size < valN (b.take size)
  · rw [if_pos h3] at h
    exact absurd h (show ¬ ((11 : Int) = 0) by decide)
  have hd : valN (b.take size) ≤ (b.drop size).length := by rw [List.length_drop]; omega
  rw [if_neg h3, if_neg (by rw [List.length_append]; omega), List.take_append_of_le_length hd, List.drop_append_of_le_length hd]
section
variable {α β : Type}
theorem Ey.ex {q : St → α × St} (h : Ey q) (f : α → β) (g : α → Bool) : Ex (fun s => (f (q s).1, g (q s).1, (q s).2)) := by
  refine ⟨h.1, fun b t h0 => ?_⟩
  have := h.2 b t h0
  simp only [this]
theorem Ex.map {r : St → α × Bool × St} (h : Ex r) (f : α → β) : Ex (fun s => (f (r s).1, (r s).2)) := by
  refine ⟨h.1, fun b t h0 => ?_⟩
  have := h.2 b t h0
  simp only [this]
theorem Ex.at_ {r : St → α × Bool × St} (h : Ex r) {s : St} (h0 : (r s).2.2.1 = 0) : s = (0, s.2) := by
  refine st_eta s (Decidable.byContradiction fun e => ?_)
  rw [h.1 s e] at h0
  exact e h0
theorem Ex.pair {r : St → α × Bool × St} {r2 : St → β × Bool × St} (h : Ex r) (h2 : Ex r2) : Ex (rdPair r r2) := by
  refine ⟨fun s hs => ?_, fun b t h0 => ?_⟩
  · show (r2 (r s).2.2).2.2 = s
    rw [h.1 s hs, h2.1 s hs]
  · have h0' : (r2 (r (0, b)).2.2).2.2.1 = 0 := h0
    have e1 := h2.at_ h0'
    have q1 := h.2 b t (by rw [e1])
    rw [e1] at h0'
    have q2 := h2.2 (r (0, b)).2.2.2 t h0'
    unfold rdPair
    rw [q1]
    simp only
    rw [q2, ← e1]
theorem Ex.many {r : St → α × Bool × St} (h : Ex r) : ∀ n, Ex (rdMany r n)
  | 0 => ⟨fun _ _ => rfl, fun _ _ _ => rfl⟩
  | n + 1 => by
    have ih := Ex.many h n
    refine ⟨fun s hs => ?_, fun b t h0 => ?_⟩
    · show (rdMany r n (r s).2.2).2.2 = s
      rw [h.1 s hs, ih.1 s hs]
    · have h0' : (rdMany r n (r (0, b)).2.2).2.2.1 = 0 := h0
      have e1 := ih.at_ h0'
      have q1 := h.2 b t (by rw [e1])
      rw [e1] at h0'
      have q2 := ih.2 (r (0, b)).2.2.2 t h0'
      show ((r (0, b ++ t)).1 :: (rdMany r n (r (0, b ++ t)).2.2).1, (r (0, b ++ t)).2.1 || (rdMany r n (r (0, b ++ t)).2.2).2.1, (rdMany r n (r (0, b ++ t)).2.2).2.2) = ((r (0, b)).1 :: (rdMany r n (r (0, b)).2.2).1, (r (0, b)).2.1 || (rdMany r n (r (0, b)).2.2).2.1, (0, (rdMany r n (r (0, b)).2.2).2.2.2 ++ t))
      rw [q1]
      simp only
      rw [q2, ← e1]
theorem Ex.list {r : St → α × Bool × St} (h : Ex r) (size : Int) : Ex (rdList size r) := by
  refine ⟨fun s hs => ?_, fun b t h0 => ?_⟩
  · show (rdMany r _ (rNum size s).2).2.2 = s
    rw [(eyNum size).1 s hs, (h.many _).1 s hs]
  · have h0' : (rdMany r (rNum size (0, b)).1.toNat (rNum size (0, b)).2).2.2.1 = 0 := h0
    have e1 := (h.many _).at_ h0'
    have q1 := (eyNum size).2 b t (by rw [e1])
    rw [e1] at h0'
    have q2 := (h.many _).2 (rNum size (0, b)).2.2 t h0'
    unfold rdList
    rw [q1]
    simp only
    rw [q2, ← e1]
end
theorem exNum (size : Int) : Ex (rdNum size) := (eyNum size).ex id fun _ => false
theorem exText : Ex rdText := (eyMeas 2 4096).ex id fun _ => false
theorem exBlock : Ex rdBlock := (eyMeas 4 1048576).ex id fun _ => false
theorem exBit : Ex rdBit := (eyNum 1).ex bitOf bitBad
theorem exWd : Ex rdWd := (eyNum 8).ex toU fun _ => false
theorem exMark : Ex rdMark := by
  have := (eyMeas 2 4096).ex (fun _ => ()) (fun l => !decide (l = mark))
  exact this
theorem exSg : Ex rdSg := ((exNum 4).pair ((exNum 4).pair ((exNum 1).pair exBlock))).map mkSg
theorem exTx : Ex rdTx := exText.list 1
theorem exNd : Ex rdNd := (exText.pair exTx).map mkNd
theorem exSym : Ex rdSym := (exText.pair (exText.pair ((exNum 1).pair ((exNum 1).pair (exBit.pair (exBit.pair (exBit.pair ((exNum 8).pair (exNum 8))))))))).map mkSym
theorem exRow : Ex rdRow := (exNum 2).list 2
theorem exRuns : Ex rdRuns := (exNum 4).list 1
theorem exRl : Ex rdRl := ((exNum 1).pair ((exNum 8).pair ((exNum 8).pair (exNum 8)))).map mkRl
theorem exSl : Ex rdSl := ((exNum 4).pair ((exNum 4).pair (exNum 4))).map mkSl
theorem exIm : Ex rdIm := (exMark.pair (exText.pair ((exNum 1).pair ((exSg.list 1).pair ((exNd.list 1).pair (exTx.pair ((exSym.list 2).pair ((exRow.list 2).pair ((exNum 1).pair ((exWd.list 1).pair ((exRl.list 2).pair ((exSl.list 2).pair (exRuns.pair (exRuns.pair ((exNum 2).pair exBlock))))))))))))))).map mkIm

/-- An image's bytes with some missing are none. -/
theorem dec_less {x : Im} (h : mayE x = 0) (hf : Fit x) {n : Nat} (hn : n < (formL x).length) : decE ((formL x).take n) = 98 := by
  refine Decidable.byContradiction fun hd => ?_
  have hg : ¬ ((rdIm (0, (formL x).take n)).2.1 = true ∨ (rdIm (0, (formL x).take n)).2.2.1 ≠ 0 ∨ (rdIm (0, (formL x).take n)).2.2.2 ≠ []) := fun e => hd (dec_bad e)
  have h0 : (rdIm (0, (formL x).take n)).2.2.1 = 0 := Decidable.byContradiction fun e => hg (.inr (.inl e))
  have h1 : (rdIm (0, (formL x).take n)).2.2.2 = [] := Decidable.byContradiction fun e => hg (.inr (.inr e))
  have q := exIm.2 ((formL x).take n) ((formL x).drop n) h0
  rw [List.take_append_drop, h1] at q
  obtain ⟨_, h2, _⟩ := form_ok h hf
  have h3 := h2 []
  rw [List.append_nil, q] at h3
  have h4 : (formL x).drop n = [] := by simpa using congrArg (fun r => r.2.2.2) h3
  have := congrArg List.length h4
  rw [List.length_drop, List.length_nil] at this
  omega
/-- An image's bytes with more behind them are none. -/
theorem dec_more {x : Im} (h : mayE x = 0) (hf : Fit x) {t : Str} (ht : t ≠ []) : decE (formL x ++ t) = 98 := by
  obtain ⟨_, h2, _⟩ := form_ok h hf
  refine dec_bad (.inr (.inr ?_))
  rw [h2 t]
  exact ht
end Go.Proofs.YtacknedekhpklaaGreat

namespace Go.Proofs.YtacknedekhpklaaGreat
set_option maxRecDepth 100000
set_option linter.unusedSimpArgs false
set_option linter.unusedVariables false
open Go.RowKit

theorem form_some {x : Im} (h : mayE x = 0) (hf : Fit x) : 0 < (formL x).length := by
  have h2 := (dec_form h hf).2
  cases hl : formL x with
  | nil =>
    rw [hl] at h2
    exact absurd h2 (by decide +kernel)
  | cons a l => simp
set_option maxHeartbeats 8000000 in
theorem cuts_no (p : Pl) (x : Im) (a1 : UInt16) (A2 : Option Addr) (c2 : Nat) (b2 : Str) (w : World) (h : ImIn w (fun k => k < w.heap.size) p x) (hf : Fit x) (hm : mayE x ≠ 0) :
    Calls Tryz.prog 7 #[imV p x, .int .u16 (a1.toNat : Int), .slice A2 b2.length c2] w fun e w' => e = .returned (.bool true) ∧ Below w.heap.size w w' := by
  have HS0 := Lib.hid (show Below w.heap.size w (w.alloc (.cells (imA p x) 38)) ∧ Ix (w.alloc (.cells (imA p x) 38)) w.heap.size p x from ⟨ibox_below _ _ _, Ix.new _ _ _⟩)
  have HEN := Lib.hid (fun (X : World) (hX : Below w.heap.size w X) => encode_no p x X (h.lt hX) hf hm)
  have hm0 : (mayE x == 0) = false := by simpa using hm
  have hm1 : (mayE x != 0) = true := by simpa using hm
  clear h hf hm
  generalize mayE x = m at *
  go_enter Tryz.func7, Tryz.ntmps7
  go_upto_region 1 with (fail)
  change Code.wp _ _ _ _ (w.alloc (.cells (imA p x) 38))
  generalize w.alloc (.cells (imA p x) 38) = w1 at *
  go_upto_region 2 with (go_at_call 10; (with_reducible refine (iawake_any _).mono ?_); rintro en w2 ⟨rfl, hb2⟩; have HX2 := Lib.hid (HS0.out.2.below hb2); have HB2 := Lib.hid (HS0.out.1.trans (hb2.mono HS0.out.1.size)); clear hb2)
  have HE2 := Lib.hid (HEN.out w2 HB2.out)
  refine wp_region_lit ?_
  refine wpl_load_im HX2.out rfl ?_
  go_wp2_with (go_at_call 13; (with_reducible refine (HE2.out).mono ?_); rintro en w3 ⟨rfl, hb3⟩; have HB3 := Lib.hid (HB2.out.trans (hb3.mono HB2.out.size)); clear hb3)
  go_ret
  exact ⟨rfl, HB3.out⟩
set_option maxHeartbeats 8000000 in
theorem cuts_yes (p : Pl) (x : Im) (a1 : UInt16) (A2 : Option Addr) (c2 : Nat) (b2 : Str) (w : World) (h : ImIn w (fun k => k < w.heap.size) p x) (hf : Fit x) (hm : mayE x = 0) (h2 : Src w (fun k => k < w.heap.size) A2 b2.length c2 (cells b2)) (hl2 : b2.length ≤ 1048576) :
    Calls Tryz.prog 7 #[imV p x, .int .u16 (a1.toNat : Int), .slice A2 b2.length c2] w fun e w' => e = .returned (.bool true) ∧ Below w.heap.size w w' := by
  obtain ⟨i0, hi, hz0, hz1, hz2⟩ := info_parts Tryz.info_byte
  have HS0 := Lib.hid (show Below w.heap.size w (w.alloc (.cells (imA p x) 38)) ∧ Ix (w.alloc (.cells (imA p x) 38)) w.heap.size p x from ⟨ibox_below _ _ _, Ix.new _ _ _⟩)
  have HEN := Lib.hid (fun (X : World) (hX : Below w.heap.size w X) => encode_yes p x X (h.lt hX) hf hm)
  have HL := Lib.hid (form_ok hm hf).2.2
  have HL0 := Lib.hid (form_some hm hf)
  have HLS := Lib.hid (fun (n : Nat) (hn : n < (formL x).length) => dec_less hm hf hn)
  have HMR := Lib.hid (fun (t : Str) (ht : t ≠ []) => dec_more hm hf ht)
  have HSR := Lib.hid h2
  clear h hf hm h2
  generalize formL x = l at *
  have hl0 := HL0.out
  have hl1 := HL.out
  have ha := a1.toNat_lt
  have hnn : a1.toNat % l.length < l.length := Nat.mod_lt _ hl0
  have hrm : (a1.toNat : Int).tmod (l.length : Int) = ((a1.toNat % l.length : Nat) : Int) := by
    rw [Int.tmod_eq_emod_of_nonneg (by omega)]
    rfl
  have hne : ((l.length : Int) == 0) = false := by rw [beq_eq_false_iff_ne]; omega
  have H98 := Lib.hid (HLS.out _ hnn)
  have hcut : (l.take (a1.toNat % l.length)).length = a1.toNat % l.length := by rw [List.length_take]; omega
  generalize a1.toNat % l.length = k at *
  have hw64 : wrap64 (k : Int) = (k : Int) := wrap_in (by omega) (by omega)
  have hwn : wrap64 (a1.toNat : Int) = (a1.toNat : Int) := wrap_in (by omega) (by omega)
  go_enter Tryz.func7, Tryz.ntmps7
  go_upto_region 1 with (fail)
  change Code.wp _ _ _ _ (w.alloc (.cells (imA p x) 38))
  generalize w.alloc (.cells (imA p x) 38) = w1 at *
  go_upto_region 2 with (go_at_call 10; (with_reducible refine (iawake_any _).mono ?_); rintro en w2 ⟨rfl, hb2⟩; have HX2 := Lib.hid (HS0.out.2.below hb2); have HB2 := Lib.hid (HS0.out.1.trans (hb2.mono HS0.out.1.size)); clear hb2)
  have HE2 := Lib.hid (HEN.out w2 HB2.out)
  refine wp_region_lit ?_
  refine wpl_load_im HX2.out rfl ?_
  go_upto_region 5 with (go_at_call 13; (with_reducible refine (HE2.out).mono ?_); rintro en w3 ⟨A3, c3, rfl, ho3, hb3⟩; have HB3 := Lib.hid (HB2.out.trans (hb3.mono HB2.out.size)); have HO3 := Lib.hid (own_more ho3 HB2.out.size); clear hb3 ho3)
  obtain ⟨g, rfl, hg1, hg2⟩ := Siv.own_some HO3.out hl0
  have hcap := (Src.of_own HO3.out).cap
  have hfr := (Src.of_own HO3.out).front k (by omega)
  rw [hcut] at hfr
  have HDC := decode_any _ _ k c3 (l.take k) w3 hfr (by omega)
  unfold Dec at HDC
  rw [H98.out] at HDC
  have HDC := Lib.hid HDC
  have hk0 : (0 : Int) ≤ (k : Int) := by omega
  clear hfr HE2 HX2 HS0
  go_upto_region 6 with (go_at_call 17; (with_reducible refine (HDC.out).mono ?_); rintro en w4 (⟨-, rfl, hb4⟩ | ⟨hd, -⟩); rotate_left; (exact absurd hd (by decide)); have HB4 := Lib.hid (HB3.out.trans (hb4.mono HB3.out.size)); have HO4 := Lib.hid (Siv.own_below HO3.out hb4); clear hb4)
  have hbx : Below w4.heap.size w4 (w4.alloc (.cells zIm 38)) := (Below.refl _ _).alloc (Nat.le_refl _) _
  have HB5 := Lib.hid (HB4.out.trans (hbx.mono HB4.out.size))
  have HO5 := Lib.hid (Siv.own_below HO4.out hbx)
  clear hbx HO3 HO4 HB3 HB4 HB2 HEN HDC
  change Code.wp _ _ _ _ (w4.alloc (.cells zIm 38))
  generalize w4.alloc (.cells zIm 38) = w5 at *
  have h1 := cells_one l
  have h12 := cells_one b2
  have m1 : 0 + l.length ≤ maxLen := by simp only [maxLen]; omega
  have m2 : (0 + l.length) * 1 ≤ 140737488355328 := by omega
  have n1 : l.length + b2.length ≤ maxLen := by simp only [maxLen]; omega
  have n2 : (l.length + b2.length) * 1 ≤ 140737488355328 := by omega
  go_upto_region 8 with (at_builtin; refine wpList_append_src rfl (.tmp 44) (.tmp 45) 36 rfl w.heap.size 5 i0 _ 1 Tryz.underlying36 hi hz0 hz1 hz2 rfl (.slice none 0 0) 0 [] rfl (World.ownsRow_nil _ _ _ _) _ _ _ _ (cells l) rfl (Src.of_own HO5.out) h1 m1 m2 HB5.out.size ?_; intro v' w6 hown hg hat; obtain ⟨A6, c6, rfl⟩ := own_slice hown; have HB6 := Lib.hid (HB5.out.grown hg HB5.out.size (fun k hk => by cases hk)); simp only [Nat.zero_add, List.nil_append] at hown; have HO6 := Lib.hid hown; clear hown hg hat)
  have hs6 := HSR.out.below HB6.out (fun _ h => h)
  go_upto_region 9 with (at_builtin; refine wpList_append_src rfl (.tmp 47) (.tmp 48) 36 rfl w.heap.size 5 i0 _ 1 Tryz.underlying36 hi hz0 hz1 hz2 rfl (.slice A6 l.length c6) l.length (cells l) rfl HO6.out _ _ _ _ (cells b2) rfl hs6 h12 n1 n2 HB6.out.size ?_; intro v' w7 hown hg hat; obtain ⟨A7, c7, rfl⟩ := own_slice hown; have HB7 := Lib.hid (HB6.out.grown hg HB6.out.size (fun k hk => (HO6.out.lt k hk).1)); have HO7 := Lib.hid hown; clear hown hg hat)
  have ho7 := HO7.out
  rw [← cells_app] at ho7
  have hl7 : (l ++ b2).length = l.length + b2.length := List.length_append
  have HDD := decode_any _ A7 (l.length + b2.length) c7 (l ++ b2) w7 (Src.of_own ho7) (by omega)
  clear ho7 hs6 HO7 HO6 HO5 HB5 HB6 hi hz0 hz1 hz2 m1 m2 n1 n2 h1 h12
  by_cases hb : b2 = []
  · have hb1 : ((b2.length : Int) == 0) = true := by rw [hb]; rfl
    clear hb
    have HDD := Lib.hid HDD
    go_wp2_with (go_at_call 17; (with_reducible refine (HDD.out).mono ?_); rintro en w8 (⟨hd, rfl, hb8⟩ | ⟨hd, p8, rfl, h8, hb8⟩))
    all_goals
      have HB8 := Lib.hid (HB7.out.trans (hb8.mono HB7.out.size))
      clear hb8
      go_wp2_with fail
      go_ret
      exact ⟨rfl, HB8.out.alloc HB8.out.size _⟩
  · have hm98 := HMR.out _ hb
    unfold Dec at HDD
    rw [hm98] at HDD
    have HDD := Lib.hid HDD
    have hb0 : 0 < b2.length := List.length_pos_iff.2 hb
    have hb1 : ((b2.length : Int) == 0) = false := by rw [beq_eq_false_iff_ne]; omega
    go_wp2_with (go_at_call 17; (with_reducible refine (HDD.out).mono ?_); rintro en w8 (⟨-, rfl, hb8⟩ | ⟨hd, -⟩); rotate_left; (exact absurd hd (by decide)); have HB8 := Lib.hid (HB7.out.trans (hb8.mono HB7.out.size)); clear hb8)
    go_ret
    exact ⟨rfl, HB8.out.alloc HB8.out.size _⟩
theorem cuts_any (p : Pl) (x : Im) (a1 : UInt16) (A2 : Option Addr) (c2 : Nat) (b2 : Str) (w : World) (h : ImIn w (fun k => k < w.heap.size) p x) (hf : Fit x) (h2 : Src w (fun k => k < w.heap.size) A2 b2.length c2 (cells b2)) (hl2 : b2.length ≤ 1048576) :
    Calls Tryz.prog 7 #[imV p x, .int .u16 (a1.toNat : Int), .slice A2 b2.length c2] w fun e w' => e = .returned (.bool true) ∧ Below w.heap.size w w' := by
  by_cases hm : mayE x = 0
  · exact cuts_yes p x a1 A2 c2 b2 w h hf hm h2 hl2
  · exact cuts_no p x a1 A2 c2 b2 w h hf hm
end Go.Proofs.YtacknedekhpklaaGreat

namespace Go.Proofs.YtacknedekhpklaaGreat
set_option maxRecDepth 100000
set_option linter.unusedSimpArgs false
set_option linter.unusedVariables false
open Go.ChangeShapes Go.WideShapes Go.ChangeAt Go.RowKit Go.Deep

section
variable {H : Type} {enc : TypeId × Value → H} {W : World}
/-- A text of a length that may come in. -/
def Small (s : Sym) : Prop := s.name.length ≤ 140737488351232 ∧ s.ver.length ≤ 140737488351232
end
end Go.Proofs.YtacknedekhpklaaGreat

namespace Go.Proofs.YtacknedekhpklaaGreat
set_option maxRecDepth 100000
set_option linter.unusedSimpArgs false
set_option linter.unusedVariables false
open Go.ChangeShapes Go.WideShapes Go.ChangeAt Go.RowKit Go.Deep

section
variable {H : Type} {enc : TypeId × Value → H} {W : World}
theorem open_ws {a : Option Addr} {n c : Nat} {d : DataW H} {p : List MemPlace} (h : DataW.Trod enc Tryz.prog W 0 (fun _ => true) true 28 (.slice a n c) d p) (hs : Sized 28 d) :
    ∃ ws : List UInt64, ws.length = n ∧ Src W (fun k => k < W.heap.size) a n c (Siv.wds ws) ∧ n * 8 ≤ 140737488351232 := by
  obtain ⟨zs, h1, h2, h3, _⟩ := open_nums Tryz.underlying28 Tryz.underlying67 (by kernel_rfl) h
  have e : zs.map (Value.int .u64) = Siv.wds (zs.map fun z => UInt64.ofNat z.toNat) := by
    simp only [Siv.wds, List.map_map]
    apply List.map_congr_left
    intro z hz
    have := u64_of_wf (h2 z hz)
    simp only [Function.comp, Siv.u64v]
    rw [← this]
  refine ⟨zs.map fun z => UInt64.ofNat z.toNat, by simpa using h1.len, e ▸ h1, sized_len hs Tryz.underlying28 (by kernel_rfl) h3⟩
end
end Go.Proofs.YtacknedekhpklaaGreat
