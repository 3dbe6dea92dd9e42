/-
  The law of what is put into a filter, walked.
-/
import Derived.Test.YtmpciigebjiehaaN
import Derived.Test.YtmpciigebjiehaaMMakes
namespace Go.Proofs.Ytmpciigebjiehaa
open Go.RowKit

theorem form_two (k y : Nat) (hk : k < 7) (hy : y < 31) : formB ((2 ^ k : Nat) : Int) ((1 + y : Nat) : Int) = true := by
  have h1 : pow7 ((2 ^ k : Nat) : Int) = true := by
    have : k = 0 ∨ k = 1 ∨ k = 2 ∨ k = 3 ∨ k = 4 ∨ k = 5 ∨ k = 6 := by omega
    rcases this with rfl | rfl | rfl | rfl | rfl | rfl | rfl <;> rfl
  have h2 : decide (1 ≤ ((1 + y : Nat) : Int)) = true := by simp; omega
  have h3 : decide (((1 + y : Nat) : Int) ≤ 31) = true := by simp; omega
  simp only [formB, h1, h2, h3, Bool.and_self]
/-- What the walk makes of 1 << (words % 7) and 1 + int(shift % 31). -/
theorem two_args (a b : UInt8) : ∃ k y n s : Nat, (a.toNat : Int) % 7 = (k : Int) ∧ (b.toNat : Int) % 31 = (y : Int) ∧ k < 7 ∧ y < 31 ∧ IntKind.i64.wrap (2 ^ k) = (n : Int) ∧ 1 + (y : Int) = (s : Int) ∧ formB n s = true ∧ s = 1 + y ∧ 1 ≤ s ∧ s ≤ 31 := by
  refine ⟨a.toNat % 7, b.toNat % 31, 2 ^ (a.toNat % 7), 1 + b.toNat % 31, by simp, by simp, Nat.mod_lt _ (by omega), Nat.mod_lt _ (by omega), ?_, by simp, form_two _ _ (Nat.mod_lt _ (by omega)) (Nat.mod_lt _ (by omega)), rfl, by omega, by omega⟩
  generalize hk : a.toNat % 7 = k
  have hk7 : k < 7 := by omega
  have : k = 0 ∨ k = 1 ∨ k = 2 ∨ k = 3 ∨ k = 4 ∨ k = 5 ∨ k = 6 := by omega
  rcases this with rfl | rfl | rfl | rfl | rfl | rfl | rfl <;> rfl

theorem own_bx_ne {w : World} {B : Nat} {v : Value} {n : Nat} {xs : List Value} (h : w.ownsRow B 53 1 v n xs) {g : Nat} {A : Option Addr} {m c : Nat} {s : Int} (hb : Bx w g A m c s) : v.ownBlock ≠ some g := by
  intro e
  rcases h.2 with ⟨rfl, _⟩ | ⟨g', cap, cur, rfl, _, hh, _⟩
  · cases e
  · injection e with e
    have e' : g' = g := e
    subst e'
    have hb' : w.heap[g']? = _ := hb
    rw [hh] at hb'
    injection hb' with h1
    injection h1 with _ h2
    cases h2
/-- What is known behind the store of a second filter. -/
structure Fin (w W : World) (q r n : Nat) (s : Int) (l : List UInt64) (A2 : Option Addr) (c2 : Nat) (A5 : Option Addr) (c5 B1 : Nat) : Prop where
  below : Below w.heap.size w W
  one : Bx W q A2 n c2 s
  two : Bx W r A5 n c5 s
  own1 : W.ownsRow B1 53 1 (.slice A2 n c2) n (wds l)
  src2 : Src W (fun _ => True) A5 n c5 (wds l)
theorem fin_alloc {w w5 : World} {q n : Nat} {s : Int} {l : List UInt64} {A2 : Option Addr} {c2 : Nat} {A5 : Option Addr} {c5 B1 B2 : Nat} (hb : Below w.heap.size w w5) (h1 : Bx w5 q A2 n c2 s) (o1 : w5.ownsRow B1 53 1 (.slice A2 n c2) n (wds l)) (o2 : w5.ownsRow B2 53 1 (.slice A5 n c5) n (wds l)) :
    Fin w (w5.alloc (.cells #[.slice A5 n c5, .int .i64 s] 30)) q w5.heap.size n s l A2 c2 A5 c5 B1 :=
  ⟨hb.alloc hb.size _, h1.below ((Below.refl _ _).alloc (Nat.le_refl _) _), Bx.new _ _ _ _ _, o1.alloc _, (Src.of_own (o2.alloc _)).weak (fun _ _ => trivial)⟩
theorem fin_set {w w5 : World} {q r n : Nat} {s : Int} {l : List UInt64} {A2 : Option Addr} {c2 : Nat} {A5 : Option Addr} {c5 B1 B2 : Nat} (hb : Below w.heap.size w w5) (h1 : Bx w5 q A2 n c2 s) (o1 : w5.ownsRow B1 53 1 (.slice A2 n c2) n (wds l)) (o2 : w5.ownsRow B2 53 1 (.slice A5 n c5) n (wds l))
    (h2 : Bx w5 r none 0 0 0) (hqr : q ≠ r) (hr : w.heap.size ≤ r) :
    Fin w ((w5.setCell ⟨r, 0, none⟩ (.slice A5 n c5)).setCell ⟨r, 1, none⟩ (.int .i64 s)) q r n s l A2 c2 A5 c5 B1 :=
  ⟨(hb.setCell (p := ⟨r, 0, none⟩) hr _).setCell (p := ⟨r, 1, none⟩) hr _, (h1.setCell (a := ⟨r, 0, none⟩) hqr _).setCell (a := ⟨r, 1, none⟩) hqr _, h2.over A5 n c5 s,
    ownsRow_setCell_other (ownsRow_setCell_other o1 (own_bx_ne o1 h2) _) (own_bx_ne o1 h2) _, (Src.of_own (ownsRow_setCell_other (ownsRow_setCell_other o2 (own_bx_ne o2 h2) _) (own_bx_ne o2 h2) _)).weak (fun _ _ => trivial)⟩

set_option maxHeartbeats 4000000 in
theorem holds_any (a b : UInt8) (A : Option Addr) (c : Nat) (hs : List UInt32) (w : World) (hx : Src w (fun k => k < w.heap.size) A hs.length c (hsh hs)) (hm : hs.length ≤ 4611686018427387904) :
    Calls Try.prog 9 #[.int .u8 a.toNat, .int .u8 b.toNat, .slice A hs.length c] w fun e w' => e = .returned (.bool true) ∧ Below w.heap.size w w' := by
  obtain ⟨k, y, n, s, hk, hy, hk7, hy31, hn, hs1, hf, hse, hsl, hsu⟩ := two_args a b
  have ha := a.toNat_lt
  have hb := b.toNat_lt
  obtain ⟨p0, p1, p2, p3⟩ := form_pos hf
  have hsl2 : (setAll s (blank n) hs).length = n := (setAll_len _ _ _).trans (by simp [blank])
  have HX := Lib.hid hx
  have HM := Lib.hid (fun (w1 : World) (hb : Below w.heap.size w w1) => (make_ok n s A c hs w1 hf ((hx.below hb (fun _ h => h)).weak (fun k hk => Nat.lt_of_lt_of_le hk hb.size)) hm).mono (R' := fun e w' => ∃ A c, e = .returned (.tuple #[flt A n c s, .int .i64 0]) ∧ w'.ownsRow w1.heap.size 53 1 (.slice A n c) n (wds (setAll s (blank n) hs)) ∧ Below w1.heap.size w1 w') (fun e w' hm => made_len hm n hsl2))
  have HL := Lib.hid (fun (h : UInt32) (hh : h ∈ hs) => lacks_put s (blank n) hs h hh (by simp [blank]; omega))
  have HA := Lib.hid (fun (h : UInt32) (hh : h ∈ hs) => setAll_again s (blank n) hs h hh)
  have HF := Lib.hid hf
  have HSL := Lib.hid hsl2
  generalize setAll s (blank n) hs = l at HM HL HA HSL
  clear hx hf hsl2 hse
  go_enter Try.func9, Try.ntmps9
  go_wp2_with (fail)
  refine (awake_any _).mono ?_
  rintro e w1 ⟨rfl, hb1⟩
  have HB1 := Lib.hid hb1
  clear hb1
  go_wp2_with (fail)
  refine (HM.out w1 HB1.out).mono ?_
  rintro e w2 ⟨A2, c2, rfl, ho2, hb2⟩
  have hb2' := HB1.out.trans (hb2.mono HB1.out.size)
  have HB2 := Lib.hid (hb2'.alloc hb2'.size (.cells #[.slice A2 n c2, .int .i64 (s : Int)] 30))
  have HO2 := Lib.hid (ho2.alloc (.cells #[.slice A2 n c2, .int .i64 (s : Int)] 30))
  have HQ := Lib.hid (Bx.new w2 A2 n c2 s)
  clear hb2 ho2 hb2' HM HB1
  go_wp2_with (fail)
  generalize w2.alloc (.cells #[.slice A2 n c2, .int .i64 (s : Int)] 30) = w3 at HB2 HO2 HQ ⊢
  generalize w1.heap.size = B1 at HO2
  generalize w2.heap.size = q at HQ ⊢
  clear hk hy hn hs1 hk7 hy31 ha hb
  go_loopw [10] (fun i wr => ∃ k : Nat, k ≤ hs.length ∧ i = .int .i64 k ∧ Below w.heap.size w wr ∧ Bx wr q A2 n c2 s ∧ wr.ownsRow B1 53 1 (.slice A2 n c2) n (wds l)) (fun i _ => hs.length - (intOf i).toNat)
  case atStart => exact ⟨0, Nat.zero_le _, rfl, HB2.out, HQ.out, HO2.out⟩
  clear HB2 HQ HO2
  case round =>
    obtain ⟨k, hk, rfl, hb, hq, ho⟩ := hrel
    by_cases hlt : k < hs.length
    · cases A with
      | none => have := (HX.out.nil rfl).1; omega
      | some ad =>
        have hc := (HX.out.below hb (fun _ h => h)).at_ ad rfl k _ (hsh_get hs k hlt)
        have HMEM := Lib.hid (List.getElem_mem hlt)
        generalize hs[k] = h at hc HMEM
        have k0 := hq.c0
        have k1 := hq.c1
        have HCL := Lib.hid ((lacks_n _ A2 n c2 l s h wr.drew (Src.of_own (own_below ho (drew_below wr))) (by omega)).mono (R' := fun e w' => e = .returned (.bool false) ∧ Below wr.heap.size wr w') (fun e w' h' => ⟨by have := h'.1; rw [HL.out h HMEM.out] at this; exact this, (drew_below wr).trans h'.2⟩))
        have HC := Lib.hid hc
        have HB := Lib.hid hb
        have HQ := Lib.hid hq
        have HO := Lib.hid ho
        clear hb hq ho
        go_wp2
        go_still_tail 5, (by kernel_rfl)
        change wpList _ _ _ _ _ wr.drew
        go_wp2_with (fail)
        refine HCL.out.mono ?_
        rintro e w4 ⟨rfl, hb4⟩
        have hc := cell_below hb4 HC.out
        have hq4 := HQ.out.below hb4
        have k0 := hq4.c0
        have k1 := hq4.c1
        have HB4 := Lib.hid (HB.out.trans (hb4.mono HB.out.size))
        have HQ4 := Lib.hid hq4
        have HO4 := Lib.hid (own_below HO.out hb4)
        clear hb4 hq4 HC HB HQ HO
        go_wp2_with (fail)
        have HS1 := Lib.hid (src_lit w4 h _ rfl)
        have hadd : ∀ (W : World) (blk : Nat), Below w4.heap.size w4 W → Src W (fun z => z < W.heap.size) (some ⟨blk, 0, none⟩) 1 1 (hsh [h]) → Calls Try.prog 22 #[flt A2 n c2 s, .slice (some ⟨blk, 0, none⟩) 1 1] W (fun e w' => ∃ A c, e = .returned (.tuple #[flt A n c s, .int .i64 0]) ∧ w'.ownsRow W.heap.size 53 1 (.slice A n c) n (wds l) ∧ Below W.heap.size W w') := fun W blk hb hsrc =>
          (add_ok _ A2 n c2 s l (some ⟨blk, 0, none⟩) 1 [h] W (Src.of_own (own_below HO4.out hb)) HF.out hsrc (by simp)).mono (fun e w' hm => by
            rw [HA.out h HMEM.out] at hm
            exact made_len hm n HSL.out)
        have hb1 := ((Below.refl w4.heap.size w4).alloc (Nat.le_refl _) (.cells #[u32v h] 22)).drew
        have hb2 := (((Below.refl w4.heap.size w4).alloc (Nat.le_refl _) (.cells #[.slice none 0 0, .int .i64 0] 30)).alloc (by simp) (.cells #[u32v h] 22)).drew
        have hb3 := (((Below.refl w4.heap.size w4).alloc (Nat.le_refl _) (.cells #[u32v h] 22)).alloc (by simp) (.cells #[.slice none 0 0, .int .i64 0] 30)).drew
        have hz1 : Src (w4.alloc (.cells #[u32v h] 22)).drew (fun z => z < (w4.alloc (.cells #[u32v h] 22)).drew.heap.size) (some ⟨w4.heap.size, 0, none⟩) 1 1 (hsh [h]) := (src_lit w4 h _ rfl).below (drew_below _) (fun _ h => h)
        have hz2 : Src ((w4.alloc (.cells #[.slice none 0 0, .int .i64 0] 30)).alloc (.cells #[u32v h] 22)).drew (fun z => z < ((w4.alloc (.cells #[.slice none 0 0, .int .i64 0] 30)).alloc (.cells #[u32v h] 22)).drew.heap.size) (some ⟨w4.heap.size + 1, 0, none⟩) 1 1 (hsh [h]) := by
          have := (src_lit (w4.alloc (.cells #[.slice none 0 0, .int .i64 0] 30)) h _ rfl).below (drew_below _) (fun _ h => h)
          have e : (w4.alloc (.cells #[.slice none 0 0, .int .i64 0] 30)).heap.size = w4.heap.size + 1 := by simp
          rw [e] at this
          exact this
        have hz3 : Src ((w4.alloc (.cells #[u32v h] 22)).alloc (.cells #[.slice none 0 0, .int .i64 0] 30)).drew (fun z => z < ((w4.alloc (.cells #[u32v h] 22)).alloc (.cells #[.slice none 0 0, .int .i64 0] 30)).drew.heap.size) (some ⟨w4.heap.size, 0, none⟩) 1 1 (hsh [h]) := (((src_lit w4 h _ rfl).below ((Below.refl _ _).alloc (Nat.le_refl _) _) (fun _ h => h)).below (drew_below _) (fun k hk => by simp at hk ⊢; omega)).weak (fun k hk => by simp at hk ⊢; omega)
        have hbx3 : Bx ((w4.alloc (.cells #[u32v h] 22)).alloc (.cells #[.slice none 0 0, .int .i64 0] 30)).drew (w4.heap.size + 1) none 0 0 0 := by
          have e : (w4.alloc (.cells #[u32v h] 22)).heap.size = w4.heap.size + 1 := by simp
          have h' := (Bx.new (w4.alloc (.cells #[u32v h] 22)) none 0 0 0).below (drew_below _)
          rw [e] at h'
          exact h'
        have HBX3 := Lib.hid hbx3
        clear hbx3
        have HC1 := Lib.hid (hadd _ _ hb1 hz1)
        have HC2 := Lib.hid (hadd _ _ hb2 hz2)
        have HC3 := Lib.hid (hadd _ _ hb3 hz3)
        have HBB1 := Lib.hid hb1
        have HBB2 := Lib.hid hb2
        have HBB3 := Lib.hid hb3
        have q0 := fun o : Obj => cell_alloc hc o
        have q1 := fun o : Obj => cell_alloc k0 o
        have q2 := fun o : Obj => cell_alloc k1 o
        have q3 := fun o o' : Obj => cell_alloc (q1 o) o'
        have q4 := fun o o' : Obj => cell_alloc (q2 o) o'
        clear hb1 hb2 hb3 hz1 hz2 hz3 hadd
        have HNE := Lib.hid (show q ≠ w4.heap.size ∧ w.heap.size ≤ w4.heap.size ∧ q ≠ w4.heap.size + 1 ∧ w.heap.size ≤ w4.heap.size + 1 by
          have h1 := HQ4.out.lt
          have h2 := HB4.out.size
          omega)
        go_region_with (first
          | (go_at_call 22; with_reducible refine HC1.out.mono ?_; rintro e w5 ⟨A5, c5, rfl, ho5, hb5⟩; have hbb := HBB1.out.trans (hb5.mono HBB1.out.size); have hbw := HB4.out.trans (hbb.mono HB4.out.size); have hq5 := HQ4.out.below hbb; have hf5 := own_below HO4.out hbb; obtain ⟨W, hW, hfin⟩ : ∃ W : World, W = w5.alloc (.cells #[.slice A5 n c5, .int .i64 (s : Int)] 30) ∧ Fin w W q w5.heap.size n s l A2 c2 A5 c5 B1 := ⟨_, rfl, fin_alloc hbw hq5 hf5 ho5⟩; have HW := Lib.hid hW; have HFIN := Lib.hid hfin; clear ho5 hb5 hbb hbw hq5 hf5 hW hfin)
          | (go_at_call 22; with_reducible refine HC2.out.mono ?_; rintro e w5 ⟨A5, c5, rfl, ho5, hb5⟩; have hbb := HBB2.out.trans (hb5.mono HBB2.out.size); have hbw := HB4.out.trans (hbb.mono HB4.out.size); have hq5 := HQ4.out.below hbb; have hf5 := own_below HO4.out hbb; have HG5 := Lib.hid (((Bx.new w4 none 0 0 0).below ((Below.refl _ _).alloc (Nat.le_refl _) (.cells #[u32v h] 22)).drew).below hb5); have j0 := HG5.out.c0; have j1 := HG5.out.c1; have j2 := HG5.out.f0 0; have j3 := HG5.out.f0 1; obtain ⟨W, hW, hfin⟩ : ∃ W : World, W = (w5.setCell ⟨w4.heap.size, 0, none⟩ (.slice A5 n c5)).setCell ⟨w4.heap.size, 1, none⟩ (.int .i64 (s : Int)) ∧ Fin w W q w4.heap.size n s l A2 c2 A5 c5 B1 := ⟨_, rfl, fin_set hbw hq5 hf5 ho5 HG5.out HNE.out.1 HNE.out.2.1⟩; have HW := Lib.hid hW; have HFIN := Lib.hid hfin; clear ho5 hb5 hbb hbw hq5 hf5 hW hfin)
          | (go_at_call 22; with_reducible refine HC3.out.mono ?_; rintro e w5 ⟨A5, c5, rfl, ho5, hb5⟩; have hbb := HBB3.out.trans (hb5.mono HBB3.out.size); have hbw := HB4.out.trans (hbb.mono HB4.out.size); have hq5 := HQ4.out.below hbb; have hf5 := own_below HO4.out hbb; have HG5 := Lib.hid (HBX3.out.below hb5); have j0 := HG5.out.c0; have j1 := HG5.out.c1; have j2 := HG5.out.f0 0; have j3 := HG5.out.f0 1; obtain ⟨W, hW, hfin⟩ : ∃ W : World, W = (w5.setCell ⟨w4.heap.size + 1, 0, none⟩ (.slice A5 n c5)).setCell ⟨w4.heap.size + 1, 1, none⟩ (.int .i64 (s : Int)) ∧ Fin w W q (w4.heap.size + 1) n s l A2 c2 A5 c5 B1 := ⟨_, rfl, fin_set hbw hq5 hf5 ho5 HG5.out HNE.out.2.2.1 HNE.out.2.2.2⟩; have HW := Lib.hid hW; have HFIN := Lib.hid hfin; clear ho5 hb5 hbb hbw hq5 hf5 hW hfin))
        all_goals
          rw [← HW.out]
          obtain ⟨f1, f2, f3, f4, f5⟩ := HFIN.out
          clear q0 q1 q2 q3 q4 hc k0 k1
          have g0 := f2.c0
          have g1 := f2.c1
          have g2 := f3.c0
          have g3 := f3.c1
          have HSM := Lib.hid (same_n _ _ A2 A5 c2 c5 n l s W (Src.of_own f4) f5 (by omega))
          have F1 := Lib.hid f1
          have F2 := Lib.hid f2
          have HOF := Lib.hid f4
          clear f1 f2 f3 f4 f5
          go_wp2_with (go_at_call 21; refine HSM.out.mono ?_; rintro e w6 ⟨rfl, hb6⟩; have HB6 := Lib.hid hb6; clear hb6)
          go_roundw
          case rel => exact ⟨k + 1, by omega, by go_num, F1.out.trans (HB6.out.mono F1.out.size), F2.out.below HB6.out, own_below HOF.out HB6.out⟩
          case measure => simp [intOf]; omega
    · obtain rfl : k = hs.length := by omega
      have HB := Lib.hid hb
      clear hb hq ho
      go_wp2
      go_ret
      exact ⟨rfl, HB.out⟩
end Go.Proofs.Ytmpciigebjiehaa
