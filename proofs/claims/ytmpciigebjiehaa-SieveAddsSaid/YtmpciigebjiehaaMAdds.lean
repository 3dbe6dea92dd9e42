/-
  The law of filters with any hashes besides, walked.
-/
import Derived.Test.YtmpciigebjiehaaMMakes
namespace Go.Proofs.Ytmpciigebjiehaa
open Go.RowKit

theorem adds_no (A : Option Addr) (n c : Nat) (s : Int) (l : List UInt64) (Ah : Option Addr) (ch : Nat) (hs : List UInt32) (w : World) (hx : Src w (fun k => k < w.heap.size) A n c (wds l)) (hn : n * 8 ≤ 140737488351232) (hf : formB n s = false) :
    Calls Try.prog 5 #[flt A n c s, .slice Ah hs.length ch] w fun e w' => e = .returned (.bool true) ∧ Below w.heap.size w w' := by
  have HF := Lib.hid hf
  have HX := Lib.hid hx
  have HB0 := Lib.hid ((Below.refl w.heap.size w).alloc (Nat.le_refl _) (.cells #[.slice A n c, .int .i64 s] 30))
  have HB := Lib.hid (Bx.new w A n c s)
  clear hf hx
  go_enter Try.func5, Try.ntmps5
  go_wp2_with (fail)
  refine (awake_any _).mono ?_
  rintro e w1 ⟨rfl, hb1⟩
  have HB1 := Lib.hid (HB0.out.trans (hb1.mono HB0.out.size))
  have HF1 := Lib.hid (HB.out.below hb1)
  have k0 := HF1.out.c0
  have k1 := HF1.out.c1
  clear hb1 HB HB0
  go_wp2_with (fail)
  refine (radd_nil _ A n c s l w1 (HX.out.below HB1.out (fun _ h => h)) (by omega)).mono ?_
  rintro e w2 ⟨A2, c2, rfl, ho2, hb2⟩
  have bl2 := (Below.refl w2.heap.size w2).alloc (Nat.le_refl _) (.cells #[.slice A2 n c2, .int .i64 s] 30)
  have e2 := hb2.trans (bl2.mono hb2.size)
  have HB2 := Lib.hid (HB1.out.trans (e2.mono HB1.out.size))
  have HF2 := Lib.hid (HF1.out.below e2)
  clear hb2 ho2 bl2 e2 HB1 HF1 k0 k1
  go_wp2_with (fail)
  generalize w2.alloc (.cells #[.slice A2 n c2, .int .i64 s] 30) = v2 at HB2 HF2 ⊢
  refine (add_no A2 n c2 s _ v2 (by omega) HF.out).mono ?_
  rintro e w3 ⟨rfl, hb3⟩
  have bl3 := (Below.refl w3.heap.size w3).alloc (Nat.le_refl _) (.cells #[.slice none 0 0, .int .i64 0] 30)
  have e3 := hb3.trans (bl3.mono hb3.size)
  have HB3 := Lib.hid (HB2.out.trans (e3.mono HB2.out.size))
  have HF3 := Lib.hid (HF2.out.below e3)
  have HG3 := Lib.hid (Bx.new w3 none 0 0 0)
  have k0 := HF3.out.c0
  have k1 := HF3.out.c1
  clear hb3 bl3 e3 HB2 HF2
  go_wp2_with (fail)
  generalize w3.alloc (.cells #[.slice none 0 0, .int .i64 0] 30) = v3 at HB3 HF3 HG3 k0 k1 ⊢
  refine (rRight_any A n c s v3).mono ?_
  rw [HF.out]
  rintro e w4 ⟨rfl, hb4⟩
  have HB4 := Lib.hid (HB3.out.trans (hb4.mono HB3.out.size))
  have HF4 := HF3.out.below hb4
  have HG4 := HG3.out.below hb4
  have j0 := HF4.c0
  have j1 := HF4.c1
  have j2 := HG4.c0
  have j3 := HG4.c1
  clear hb4 HF4 HG4 HB3 HF3 HG3 k0 k1
  go_wp2_with (fail)
  refine (right_any A n c s w4 (by omega)).mono ?_
  rw [HF.out]
  rintro e w5 ⟨rfl, hb5⟩
  have HB5 := Lib.hid (HB4.out.trans (hb5.mono HB4.out.size))
  clear hb5
  go_wp2_with (fail)
  go_ret
  exact ⟨rfl, HB5.out⟩

theorem adds_ok (A : Option Addr) (n c s : Nat) (l : List UInt64) (Ah : Option Addr) (ch : Nat) (hs : List UInt32) (w : World) (hx : Src w (fun k => k < w.heap.size) A n c (wds l)) (hh : Src w (fun k => k < w.heap.size) Ah hs.length ch (hsh hs)) (hn : n * 8 ≤ 140737488351232) (hm : hs.length ≤ 4611686018427387904) (hf : formB n s = true) :
    Calls Try.prog 5 #[flt A n c s, .slice Ah hs.length ch] w fun e w' => e = .returned (.bool true) ∧ Below w.heap.size w w' := by
  obtain ⟨p0, p1, p2, p3⟩ := form_pos hf
  have hll : l.length = n := by simpa [wds_len] using hx.len
  have hla : (setAll s l hs).length = n := (setAll_len _ _ _).trans hll
  have HADD := Lib.hid (fun (w1 : World) (hb : Below w.heap.size w w1) (P : Nat → Prop) (A1 : Option Addr) (c1 : Nat) (hx1 : Src w1 P A1 n c1 (wds l)) => (add_ok P A1 n c1 s l Ah ch hs w1 hx1 hf ((hh.below hb (fun _ h => h)).weak (fun k hk => Nat.lt_of_lt_of_le hk hb.size)) hm).mono (R' := fun e w' => ∃ A c, e = .returned (.tuple #[flt A n c s, .int .i64 0]) ∧ w'.ownsRow w1.heap.size 53 1 (.slice A n c) n (wds (setAll s l hs)) ∧ Below w1.heap.size w1 w') (fun e w' hm => made_len hm n hla))
  have HR := Lib.hid (fun (w1 : World) (hb : Below w.heap.size w w1) => radd_any _ A n c s l Ah ch hs w1 (hx.below hb (fun _ h => h)) ((hh.below hb (fun _ h => h)).weak (fun k hk => Nat.lt_of_lt_of_le hk hb.size)) hm (by omega) (.inr ⟨p0, by omega, by omega⟩))
  rw [show ((s : Int).toNat) = s by simp] at HR
  have HF := Lib.hid hf
  have HX := Lib.hid hx
  generalize setAll s l hs = m at HADD HR
  have HB0 := Lib.hid ((Below.refl w.heap.size w).alloc (Nat.le_refl _) (.cells #[.slice A n c, .int .i64 (s : Int)] 30))
  have HB := Lib.hid (Bx.new w A n c s)
  clear hf hx hh hll hla
  go_enter Try.func5, Try.ntmps5
  go_wp2_with (fail)
  refine (awake_any _).mono ?_
  rintro e w1 ⟨rfl, hb1⟩
  have HB1 := Lib.hid (HB0.out.trans (hb1.mono HB0.out.size))
  have HF1 := Lib.hid (HB.out.below hb1)
  have k0 := HF1.out.c0
  have k1 := HF1.out.c1
  clear hb1 HB HB0
  go_wp2_with (fail)
  refine (radd_nil _ A n c s l w1 (HX.out.below HB1.out (fun _ h => h)) (by omega)).mono ?_
  rintro e w2 ⟨A2, c2, rfl, ho2, hb2⟩
  have bl2 := (Below.refl w2.heap.size w2).alloc (Nat.le_refl _) (.cells #[.slice A2 n c2, .int .i64 (s : Int)] 30)
  have e2 := hb2.trans (bl2.mono hb2.size)
  have HB2 := Lib.hid (HB1.out.trans (e2.mono HB1.out.size))
  have HF2 := Lib.hid (HF1.out.below e2)
  have HQ2 := Lib.hid (Bx.new w2 A2 n c2 s)
  have HO2 := Lib.hid (own_below ho2 bl2)
  have HRL := Lib.hid (fun k hk => (ho2.lt k hk).2)
  clear hb2 ho2 bl2 e2 HB1 HF1 k0 k1
  have hz2 : (w2.alloc (.cells #[.slice A2 n c2, .int .i64 (s : Int)] 30)).heap.size = w2.heap.size + 1 := by simp
  have HZ2 := Lib.hid hz2
  clear hz2
  go_wp2_with (fail)
  generalize w2.alloc (.cells #[.slice A2 n c2, .int .i64 (s : Int)] 30) = v2 at HB2 HF2 HQ2 HO2 HZ2 ⊢
  have HFL := Lib.hid HF2.out.lt
  refine (HADD.out v2 HB2.out _ _ _ (Src.of_own HO2.out)).mono ?_
  rintro e w3 ⟨A3, c3, rfl, ho3, hb3⟩
  have bl3 := (Below.refl w3.heap.size w3).alloc (Nat.le_refl _) (.cells #[.slice A3 n c3, .int .i64 (s : Int)] 30)
  have e3 := hb3.trans (bl3.mono hb3.size)
  have HB3 := Lib.hid (HB2.out.trans (e3.mono HB2.out.size))
  have HF3 := Lib.hid (HF2.out.below e3)
  have HQ3 := Lib.hid (HQ2.out.below e3)
  have HO3 := Lib.hid (own_below HO2.out e3)
  have HG3 := Lib.hid (Bx.new w3 A3 n c3 s)
  have HOG3 := Lib.hid (own_below ho3 bl3)
  have k0 := HF3.out.c0
  have k1 := HF3.out.c1
  clear hb3 ho3 bl3 e3 HB2 HF2 HQ2 HO2
  go_wp2_with (fail)
  generalize w3.alloc (.cells #[.slice A3 n c3, .int .i64 (s : Int)] 30) = v3 at HB3 HF3 HG3 HQ3 HO3 HOG3 k0 k1 ⊢
  refine (rRight_any A n c s v3).mono ?_
  rw [HF.out]
  rintro e w4 ⟨rfl, hb4⟩
  have HB4 := Lib.hid (HB3.out.trans (hb4.mono HB3.out.size))
  have HF4 := Lib.hid (HF3.out.below hb4)
  have HG4 := Lib.hid (HG3.out.below hb4)
  have HQ4 := Lib.hid (HQ3.out.below hb4)
  have HO4 := Lib.hid (own_below HO3.out hb4)
  have HOG4 := Lib.hid (own_below HOG3.out hb4)
  have k0 := HF4.out.c0
  have k1 := HF4.out.c1
  clear hb4 HB3 HF3 HG3 HQ3 HO3 HOG3
  go_wp2_with (fail)
  refine (HR.out w4 HB4.out).mono ?_
  rintro e w5 ⟨A5, c5, rfl, ho5, hb5⟩
  have bl5 := (Below.refl w5.heap.size w5).alloc (Nat.le_refl _) (.cells #[.slice A5 n c5, .int .i64 (s : Int)] 30)
  have e5 := hb5.trans (bl5.mono hb5.size)
  have HB5 := Lib.hid (HB4.out.trans (e5.mono HB4.out.size))
  have HF5 := Lib.hid (HF4.out.below e5)
  have HG5 := Lib.hid (HG4.out.below e5)
  have HQ5 := Lib.hid (HQ4.out.below e5)
  have HO5 := Lib.hid (own_below HO4.out e5)
  have HOG5 := Lib.hid (own_below HOG4.out e5)
  have HW5 := Lib.hid (Bx.new w5 A5 n c5 s)
  have HOW5 := Lib.hid (own_below ho5 bl5)
  have k0 := HF5.out.c0
  have k1 := HF5.out.c1
  have k2 := HQ5.out.c0
  have k3 := HQ5.out.c1
  clear hb5 ho5 bl5 e5 HB4 HF4 HG4 HQ4 HO4 HOG4
  go_wp2_with (fail)
  generalize w5.alloc (.cells #[.slice A5 n c5, .int .i64 (s : Int)] 30) = v5 at HB5 HF5 HG5 HQ5 HO5 HOG5 HW5 HOW5 k0 k1 k2 k3 ⊢
  refine (same_n _ _ A2 A c2 c n l s _ (Src.of_own HO5.out) (HX.out.below HB5.out (fun _ h => h)) (by omega)).mono ?_
  rintro e w6 ⟨rfl, hb6⟩
  have HB6 := Lib.hid (HB5.out.trans (hb6.mono HB5.out.size))
  have HF6 := Lib.hid (HF5.out.below hb6)
  have HG6 := Lib.hid (HG5.out.below hb6)
  have HQ6 := Lib.hid (HQ5.out.below hb6)
  have HW6 := Lib.hid (HW5.out.below hb6)
  have HO6 := Lib.hid (own_below HO5.out hb6)
  have HOG6 := Lib.hid (own_below HOG5.out hb6)
  have HOW6 := Lib.hid (own_below HOW5.out hb6)
  have k0 := HG6.out.c0
  have k1 := HG6.out.c1
  have k2 := HW6.out.c0
  have k3 := HW6.out.c1
  clear hb6 HB5 HF5 HG5 HQ5 HW5 HO5 HOG5 HOW5
  go_wp2_with (fail)
  refine (same_n _ _ A3 A5 c3 c5 n m s _ (Src.of_own HOG6.out) (Src.of_own HOW6.out) (by omega)).mono ?_
  rintro e w7 ⟨rfl, hb7⟩
  have HB7 := Lib.hid (HB6.out.trans (hb7.mono HB6.out.size))
  have HF7 := Lib.hid (HF6.out.below hb7)
  have HG7 := Lib.hid (HG6.out.below hb7)
  have HQ7 := Lib.hid (HQ6.out.below hb7)
  have HO7 := Lib.hid (own_below HO6.out hb7)
  have HOG7 := Lib.hid (own_below HOG6.out hb7)
  have k0 := HG7.out.c0
  have k1 := HG7.out.c1
  clear hb7 HB6 HF6 HG6 HQ6 HW6 HO6 HOG6 HOW6 k2 k3
  go_wp2_with (fail)
  refine (spoil_any _ A3 c3 n s _ _ HOG7.out (by omega)).mono ?_
  rintro e w8 ⟨rfl, hg8⟩
  have hrg : ∀ k, row A3 = some k → v2.heap.size ≤ k := fun k hk => (HOG7.out.lt k (by rw [row_own]; exact hk)).1
  have hz := HZ2.out
  have hfl := HFL.out
  have HB8 := Lib.hid (HB7.out.grown hg8 HB7.out.size (fun k hk => by have := hrg k hk; omega))
  have HF8 := Lib.hid (HF7.out.grown hg8 (by intro e; have := hrg _ e.symm; omega))
  have HQ8 := Lib.hid (HQ7.out.grown hg8 (by intro e; have := hrg _ e.symm; omega))
  have HO8 := Lib.hid (HO7.out.kept hg8 (by
    rcases Option.eq_none_or_eq_some (Value.slice A2 n c2).ownBlock with h | ⟨k, h⟩
    · exact .inl h
    · right
      intro e
      have h1 := HRL.out k h
      have h2 := hrg k (e.symm.trans h)
      omega))
  have k0 := HF8.out.c0
  have k1 := HF8.out.c1
  have k2 := HQ8.out.c0
  have k3 := HQ8.out.c1
  clear hg8 hrg hz hfl HB7 HF7 HG7 HQ7 HO7 HOG7
  go_wp2_with (fail)
  refine (same_n _ _ A2 A c2 c n l s _ (Src.of_own HO8.out) (HX.out.below HB8.out (fun _ h => h)) (by omega)).mono ?_
  rintro e w9 ⟨rfl, hb9⟩
  have HB9 := Lib.hid (HB8.out.trans (hb9.mono HB8.out.size))
  have HF9 := HF8.out.below hb9
  have j0 := HF9.c0
  have j1 := HF9.c1
  clear hb9 HF9 HB8 HF8 HQ8 HO8
  go_wp2_with (fail)
  refine (right_any A n c s w9 (by omega)).mono ?_
  rw [HF.out]
  rintro e w10 ⟨rfl, hb10⟩
  have HB10 := Lib.hid (HB9.out.trans (hb10.mono HB9.out.size))
  clear hb10
  go_wp2_with (fail)
  go_ret
  exact ⟨rfl, HB10.out⟩

theorem adds_any (A : Option Addr) (n c : Nat) (s : Int) (l : List UInt64) (Ah : Option Addr) (ch : Nat) (hs : List UInt32) (w : World) (hx : Src w (fun k => k < w.heap.size) A n c (wds l)) (hh : Src w (fun k => k < w.heap.size) Ah hs.length ch (hsh hs)) (hn : n * 8 ≤ 140737488351232) (hm : hs.length ≤ 4611686018427387904) :
    Calls Try.prog 5 #[flt A n c s, .slice Ah hs.length ch] w fun e w' => e = .returned (.bool true) ∧ Below w.heap.size w w' := by
  cases hf : formB n s
  · exact adds_no A n c s l Ah ch hs w hx hn hf
  · have h0 := (form_pos hf).2.2.1
    obtain ⟨s, rfl⟩ : ∃ k : Nat, s = k := ⟨s.toNat, by omega⟩
    exact adds_ok A n c s l Ah ch hs w hx hh hn hm hf
end Go.Proofs.Ytmpciigebjiehaa
