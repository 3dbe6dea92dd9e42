/-
  The law of filters that are made, walked.
-/
import Derived.Test.YtmpciigebjiehaaL
namespace Go.Proofs.Ytmpciigebjiehaa
open Go.RowKit

theorem grown_below' {w w' : World} {r : Option Nat} {B : Nat} (h : w.grownBy w' r) (hB : B ≤ w.heap.size) (hr : ∀ k, r = some k → B ≤ k) : Below B w w' := (Below.refl B w).grown h hB hr

theorem makes_no (n s : Int) (A : Option Addr) (c : Nat) (hs : List UInt32) (w : World) (hn : I64 n) (hf : formB n s = false) :
    Calls Try.prog 4 #[.int .i64 n, .int .i64 s, .slice A hs.length c] w fun e w' => e = .returned (.bool true) ∧ Below w.heap.size w w' := by
  have HN := Lib.hid hn
  have HF := Lib.hid hf
  have hcase : pow7 n = false ∨ (pow7 n = true ∧ s < 1) ∨ (pow7 n = true ∧ 1 ≤ s ∧ 31 < s) := by
    cases hp : pow7 n
    · exact .inl rfl
    · by_cases h1 : 1 ≤ s
      · by_cases h2 : s ≤ 31
        · simp [formB, hp, h1, h2] at hf
        · exact .inr (.inr ⟨rfl, h1, by omega⟩)
      · exact .inr (.inl ⟨rfl, by omega⟩)
  clear hn hf
  go_enter Try.func4, Try.ntmps4
  go_wp2_with (fail)
  refine (awake_any _).mono ?_
  rintro e w1 ⟨rfl, hb1⟩
  have HB1 := Lib.hid hb1
  clear hb1
  go_wp2_with (fail)
  refine (make_no n s _ _ HN.out HF.out).mono ?_
  rintro e w2 ⟨rfl, hb2⟩
  have HB2 := Lib.hid (HB1.out.trans (hb2.mono HB1.out.size))
  clear hb2
  go_wp2_with (fail)
  refine (make_no n s _ _ HN.out HF.out).mono ?_
  rintro e w3 ⟨rfl, hb3⟩
  have HF3 := Lib.hid ((Bx.new w2 none 0 0 0).below hb3)
  have HB3 := Lib.hid ((HB2.out.alloc HB2.out.size (.cells #[.slice none 0 0, .int .i64 0] 30)).trans (hb3.mono (by have := HB2.out.size; simp; omega)))
  clear hb3
  have k0 := cell_alloc HF3.out.c0 (.cells #[.slice none 0 0, .int .i64 0] 30)
  have k1 := cell_alloc HF3.out.c1 (.cells #[.slice none 0 0, .int .i64 0] 30)
  have HF4 := Lib.hid (Bx.new w3 none 0 0 0)
  have HB4 := Lib.hid (HB3.out.alloc HB3.out.size (.cells #[.slice none 0 0, .int .i64 0] 30))
  go_wp2_with (fail)
  refine (spoil_any 0 none 0 0 0 [] _ (World.ownsRow_nil _ _ _ _) (by omega)).mono ?_
  rintro e w4 ⟨rfl, hg4⟩
  have HG := Lib.hid (HF4.out.grown hg4 (by simp [row]))
  have HB5 := Lib.hid (HB4.out.grown hg4 HB4.out.size (by intro k hk; cases hk))
  have j0 := HG.out.c0
  have j1 := HG.out.c1
  clear hg4 k0 k1
  rcases hcase with hp | ⟨hp, h1⟩ | ⟨hp, h1, h2⟩
  all_goals
    have HP := Lib.hid hp
    clear hp
    go_wp2_with (go_at_call 19; refine (rWords_any n _).mono ?_; rw [HP.out]; rintro e w' ⟨rfl, rfl⟩)
    go_ret
    exact ⟨rfl, HB5.out⟩

theorem copied_of {w : World} {n : Nat} {l : List UInt64} {s : Int} {e : Ending} {w' : World} (h : Copied w n l s e w') : ∃ A c, e = .returned (flt A n c s) ∧ w'.ownsRow w.heap.size 53 1 (.slice A n c) n (wds l) ∧ Below w.heap.size w w' := h
theorem same_n (P Q : Nat → Prop) (A A' : Option Addr) (c c' n : Nat) (l : List UInt64) (s : Int) (w : World) (hx : Src w P A n c (wds l)) (hy : Src w Q A' n c' (wds l)) (hn : n ≤ 4611686018427387904) :
    Calls Try.prog 21 #[flt A n c s, flt A' n c' s] w fun e w' => e = .returned (.bool true) ∧ Below w.heap.size w w' :=
  (same_len P Q A A' c c' n l l s w hx hy hn).mono fun e w' h => ⟨by have := h.1; simpa [sameB] using this, h.2⟩

theorem makes_ok (n s : Nat) (A : Option Addr) (c : Nat) (hs : List UInt32) (w : World) (hf : formB n s = true) (hx : Src w (fun k => k < w.heap.size) A hs.length c (hsh hs)) (hm : hs.length ≤ 4611686018427387904) :
    Calls Try.prog 4 #[.int .i64 n, .int .i64 s, .slice A hs.length c] w fun e w' => e = .returned (.bool true) ∧ Below w.heap.size w w' := by
  obtain ⟨p0, p1, p2, p3⟩ := form_pos hf
  obtain ⟨i0, hi, hz0, hz1, hz2⟩ := info_parts Try.info_word
  have m3 : n ≤ maxLen := by simp only [maxLen]; omega
  have hp : pow7 n = true := by
    simp only [formB, Bool.and_eq_true] at hf
    exact hf.1
  have hsl : (setAll s (blank n) hs).length = n := (setAll_len _ _ _).trans (by simp [blank])
  have HP := Lib.hid hp
  have HX := Lib.hid hx
  have hbl : (blank n).length = n := by simp [blank]
  have HM := Lib.hid (fun (w1 : World) (hb : Below w.heap.size w w1) => (make_ok n s A c hs w1 hf ((hx.below hb (fun _ h => h)).weak (fun k hk => Nat.lt_of_lt_of_le hk hb.size)) hm).mono (R' := fun e w' => ∃ A c, e = .returned (.tuple #[flt A n c s, .int .i64 0]) ∧ w'.ownsRow w1.heap.size 53 1 (.slice A n c) n (wds (setAll s (blank n) hs)) ∧ Below w1.heap.size w1 w') (fun e w' hm => made_len hm n hsl))
  have HR := Lib.hid (fun (w1 : World) (hb : Below w.heap.size w w1) (P : Nat → Prop) (A1 : Option Addr) (c1 : Nat) (h1 : Src w1 P A1 n c1 (wds (blank n))) => radd_any P A1 n c1 s (blank n) A c hs w1 h1 ((hx.below hb (fun _ h => h)).weak (fun k hk => Nat.lt_of_lt_of_le hk hb.size)) hm (by omega) (.inr ⟨p0, by omega, by omega⟩))
  have HBL := Lib.hid (made_blank n)
  rw [show ((s : Int).toNat) = s by simp] at HR
  generalize setAll s (blank n) hs = l at HM HR
  generalize blank n = bl at HR HBL
  clear hp hf hx hsl hbl
  go_enter Try.func4, Try.ntmps4
  go_wp2_with (fail)
  refine (awake_any _).mono ?_
  rintro e w1 ⟨rfl, hb1⟩
  have HB1 := Lib.hid hb1
  clear hb1
  go_wp2_with (fail)
  refine (HM.out w1 HB1.out).mono ?_
  rintro e w2 ⟨A2, c2, rfl, ho2, hb2⟩
  have HB2 := Lib.hid (HB1.out.trans (hb2.mono HB1.out.size))
  have HO2 := Lib.hid ho2
  clear hb2 ho2
  go_wp2_with (fail)
  have hb2a := HB2.out.alloc HB2.out.size (.cells #[.slice A2 n c2, .int .i64 (s : Int)] 30)
  refine (HM.out _ hb2a).mono ?_
  rintro e w3 ⟨A3, c3, rfl, ho3, hb3⟩
  have HB3 := Lib.hid (hb2a.trans (hb3.mono hb2a.size))
  have HF3 := Lib.hid ((Bx.new w2 A2 n c2 s).below hb3)
  have HO2' := Lib.hid (own_below (HO2.out.alloc (.cells #[.slice A2 n c2, .int .i64 (s : Int)] 30)) hb3)
  have HO3 := Lib.hid ho3
  have hlt2 := HO2.out.lt
  have hlt3 := HO3.out.lt
  clear hb2a hb3 ho3
  have k0 := cell_alloc HF3.out.c0 (.cells #[.slice A3 n c3, .int .i64 (s : Int)] 30)
  have k1 := cell_alloc HF3.out.c1 (.cells #[.slice A3 n c3, .int .i64 (s : Int)] 30)
  have HG3 := Lib.hid (Bx.new w3 A3 n c3 s)
  have HB3a := Lib.hid (HB3.out.alloc HB3.out.size (.cells #[.slice A3 n c3, .int .i64 (s : Int)] 30))
  have HO3a := Lib.hid (HO3.out.alloc (.cells #[.slice A3 n c3, .int .i64 (s : Int)] 30))
  have HO2a := Lib.hid (HO2'.out.alloc (.cells #[.slice A3 n c3, .int .i64 (s : Int)] 30))
  have hq3 : w3.heap.size < (w3.alloc (.cells #[.slice A3 n c3, .int .i64 (s : Int)] 30)).heap.size := by simp
  have hne1 : ∀ k, row A2 = some k → w.heap.size ≤ k ∧ k < w2.heap.size := by
    intro k hk
    have := hlt2 k (by rw [row_own]; exact hk)
    have := HB1.out.size
    omega
  have hne2 : ∀ k, row A3 = some k → w2.heap.size < k := by
    intro k hk
    have := hlt3 k (by rw [row_own]; exact hk)
    simp at this
    omega
  have HNE1 := Lib.hid hne1
  have HNE2 := Lib.hid hne2
  have hs3 : w2.heap.size < w3.heap.size := by
    have := HF3.out.lt
    exact this
  clear hlt2 hlt3 hne1 hne2 HO2 HO2' HO3 HF3 HB3
  go_wp2_with (fail)
  refine (spoil_any _ A2 c2 n s _ _ HO2a.out (by omega)).mono ?_
  rintro e w4 ⟨rfl, hg4⟩
  have HG4 := Lib.hid (HG3.out.grown hg4 (by intro e; have := (HNE1.out _ e.symm).2; omega))
  have HO4 := Lib.hid (HO3a.out.kept hg4 (by
    right
    rw [row_own]
    intro e
    cases hA : row A3 with
    | none =>
      cases A3 with
      | none => exact absurd (own_some HO3a.out p0) (by simp)
      | some _ => cases hA
    | some k =>
      have h1 := HNE2.out k hA
      rw [hA] at e
      have h2 := (HNE1.out k e.symm).2
      omega))
  have HB4 := Lib.hid (HB3a.out.grown hg4 HB3a.out.size (fun k hk => (HNE1.out k hk).1))
  have hs4 := hg4.size
  clear hg4 k0 k1 HO2a HG3 HO3a HB3a
  go_wp2_with (first
    | (go_at_call 19; refine (rWords_any n _).mono ?_; rw [HP.out]; rintro e w' ⟨rfl, rfl⟩)
    | (at_make; refine wpList_make_full _ rfl _ _ _ rfl (w4.heap.size) 53 i0 _ 1 Try.underlying28 hi hz0 hz1 .i64 .i64 _ _ n rfl rfl rfl rfl (by rw [hz2]; omega) m3 (Nat.le_refl _) ?_; intro w5 hown hg5; have HO5 := Lib.hid hown; have HG5 := Lib.hid hg5; clear hown hg5))
  have ho5 : w5.ownsRow w4.heap.size 53 1 (.slice (some ⟨w4.heap.size, 0, none⟩) n n) n (wds bl) := by
    have h := HO5.out
    rw [HBL.out] at h
    exact h
  have hb5 := HB4.out.grown HG5.out HB4.out.size (by intro k hk; cases hk)
  refine (HR.out w5 hb5 _ _ n (Src.of_own ho5)).mono ?_
  rintro e w6 ⟨A6, c6, rfl, ho6, hb6⟩
  have HB6 := Lib.hid (hb5.trans (hb6.mono hb5.size))
  have HF6 := Lib.hid ((HG4.out.grown HG5.out (by intro e; cases e)).below hb6)
  have HO4' := Lib.hid (own_below (HO4.out.kept HG5.out (by
    rcases Option.eq_none_or_eq_some (Value.slice A3 n c3).ownBlock with h | ⟨k, h⟩
    · exact .inl h
    · right; rw [h]; simp)) hb6)
  have HO6 := Lib.hid ho6
  clear ho5 hb5 ho6 hb6
  have k0 := cell_alloc HF6.out.c0 (.cells #[.slice A6 n c6, .int .i64 (s : Int)] 30)
  have k1 := cell_alloc HF6.out.c1 (.cells #[.slice A6 n c6, .int .i64 (s : Int)] 30)
  go_wp2_with (fail)
  refine (same_n _ _ A3 A6 c3 c6 n l s _ (Src.of_own (HO4'.out.alloc _)) (Src.of_own (HO6.out.alloc _)) (by omega)).mono ?_
  rintro e w7 ⟨rfl, hb7⟩
  have HB7 := Lib.hid ((HB6.out.alloc HB6.out.size (.cells #[.slice A6 n c6, .int .i64 (s : Int)] 30)).trans (hb7.mono (by have := HB6.out.size; simp; omega)))
  clear hb7
  go_wp2_with (fail)
  go_ret
  exact ⟨rfl, HB7.out⟩

theorem makes_any (n s : Int) (A : Option Addr) (c : Nat) (hs : List UInt32) (w : World) (hn : I64 n) (_hs : I64 s) (hx : Src w (fun k => k < w.heap.size) A hs.length c (hsh hs)) (hm : hs.length ≤ 4611686018427387904) :
    Calls Try.prog 4 #[.int .i64 n, .int .i64 s, .slice A hs.length c] w fun e w' => e = .returned (.bool true) ∧ Below w.heap.size w w' := by
  cases hf : formB n s
  · exact makes_no n s A c hs w hn hf
  · have h0 : 0 ≤ n ∧ 0 ≤ s := by
      simp only [formB, pow7, Bool.and_eq_true, decide_eq_true_eq] at hf
      omega
    obtain ⟨n, rfl⟩ : ∃ k : Nat, n = k := ⟨n.toNat, by omega⟩
    obtain ⟨s, rfl⟩ : ∃ k : Nat, s = k := ⟨s.toNat, by omega⟩
    exact makes_ok n s A c hs w hf hx hm
end Go.Proofs.Ytmpciigebjiehaa
