/-
  The document's examples.
-/
import Derived.Test.YtmpciigebjiehaaJ
namespace Go.Proofs.Ytmpciigebjiehaa
open Go.RowKit

theorem src_lit (w : World) (h : UInt32) (n : Int) (hn : n = (h.toNat : Int)) : Src (w.alloc (.cells #[.int .u32 n] 22)) (fun k => k < (w.alloc (.cells #[.int .u32 n] 22)).heap.size) (some ⟨w.heap.size, 0, none⟩) 1 1 (hsh [h]) := by
  subst hn
  refine ⟨rfl, (by intro h; cases h), Nat.le_refl _, (by intro ad h _; cases h; show w.heap.size < _; simp), ?_⟩
  intro ad h j u hj
  cases h
  exact cell_one_new w _ 22 j u hj

theorem made_len {w : World} {l : List UInt64} {s : Int} {e : Ending} {w' : World} (h : Made w l s e w') (n : Nat) (hn : l.length = n) : ∃ A c, e = .returned (.tuple #[flt A n c s, .int .i64 0]) ∧ w'.ownsRow w.heap.size 53 1 (.slice A n c) n (wds l) ∧ Below w.heap.size w w' := by
  subst hn
  exact h

def exF : List UInt64 := setAll 6 (blank 1) [0]
theorem exF_len : exF.length = 1 := by decide
theorem exF_64 : lacksB exF 6 64 = true := by decide +kernel
theorem exF_0 : lacksB exF 6 0 = false := by decide +kernel
theorem hash_a : hashFrom 5381 (⟨#[97]⟩ : ByteArray).data.toList = 177670 := by decide +kernel

theorem lacks_n (P : Nat → Prop) (A : Option Addr) (n c : Nat) (l : List UInt64) (s : Int) (h : UInt32) (w : World) (hx : Src w P A n c (wds l)) (hn : n ≤ 9223372036854775807) :
    Calls Try.prog 25 #[flt A n c s, u32v h] w fun e w' => e = .returned (.bool (lacksB l s h)) ∧ Below w.heap.size w w' := by
  obtain rfl : l.length = n := by simpa [wds_len] using hx.len
  exact lacks_any P A c l s h w hx hn

theorem ex_make (w : World) (P : Nat → Prop) (A : Option Addr) (h : Src w P A 1 1 (hsh [0])) : Calls Try.prog 17 #[.int .i64 1, .int .i64 6, .slice A 1 1] w fun e w' => ∃ A c, e = .returned (.tuple #[flt A 1 c 6, .int .i64 0]) ∧ w'.ownsRow w.heap.size 53 1 (.slice A 1 c) 1 (wds exF) ∧ Below w.heap.size w w' :=
  (make_ok 1 6 A 1 [0] w (by decide) h.lt (by decide)).mono fun e w' hm => made_len hm 1 exF_len
theorem ex_bad (w : World) : Calls Try.prog 17 #[.int .i64 3, .int .i64 6, .slice none 0 0] w (NoF w) :=
  make_no 3 6 (.slice none 0 0) w (by decide) (by decide)
theorem ex_hash (w : World) : Calls Try.prog 13 #[.string ⟨#[97]⟩] w fun e w' => e = .returned (.int .u32 177670) ∧ w = w' :=
  (hash_any ⟨#[97]⟩ w (by decide)).mono fun e w' h => by rw [hash_a] at h; exact h
theorem ex_64 (w : World) (P : Nat → Prop) (A : Option Addr) (c : Nat) (h : Src w P A 1 c (wds exF)) : Calls Try.prog 25 #[flt A 1 c 6, .int .u32 64] w fun e w' => e = .returned (.bool true) ∧ Below w.heap.size w w' :=
  (lacks_n P A 1 c exF 6 64 w h (by decide)).mono fun e w' h => by rw [exF_64] at h; exact h
theorem ex_0 (w : World) (P : Nat → Prop) (A : Option Addr) (c : Nat) (h : Src w P A 1 c (wds exF)) : Calls Try.prog 25 #[flt A 1 c 6, .int .u32 0] w fun e w' => e = .returned (.bool false) ∧ Below w.heap.size w w' :=
  (lacks_n P A 1 c exF 6 0 w h (by decide)).mono fun e w' h => by rw [exF_0] at h; exact h

theorem awake_any (w : World) : Calls Try.prog 12 #[] w fun e w' => e = .returned (.bool true) ∧ Below w.heap.size w w' := by
  have HS := Lib.hid (src_lit w 0 0 rfl)
  go_enter Try.func12, Try.ntmps12
  go_wp2_with (fail)
  refine (ex_make _ _ _ HS.out).mono ?_
  rintro e w1 ⟨A1, c1, rfl, ho1, hb1⟩
  have hb1' := ((Below.refl w.heap.size w).alloc (Nat.le_refl _) (.cells #[.int .u32 0] 22)).trans (hb1.mono (by simp))
  have HB1 := Lib.hid hb1'
  have HO1 := Lib.hid ho1
  clear hb1 hb1' ho1 HS
  go_wp2_with (fail)
  refine (ex_bad _).mono ?_
  rintro e w2 ⟨rfl, hb2⟩
  have HF := Lib.hid ((Bx.new w1 A1 1 c1 6).below hb2)
  have HO2 := Lib.hid (own_below (HO1.out.alloc (.cells #[.slice A1 1 c1, .int .i64 6] 30)) hb2)
  have HB2 := Lib.hid ((HB1.out.alloc HB1.out.size (.cells #[.slice A1 1 c1, .int .i64 6] 30)).trans (hb2.mono (by have := HB1.out.size; simp; omega)))
  clear hb2
  go_wp2_with (fail)
  refine (ex_hash _).mono ?_
  rintro e w3 ⟨rfl, rfl⟩
  have k0 := cell_alloc HF.out.c0 (.cells #[.slice none 0 0, .int .i64 0] 30)
  have k1 := cell_alloc HF.out.c1 (.cells #[.slice none 0 0, .int .i64 0] 30)
  go_wp2_with (fail)
  refine (ex_64 _ _ _ _ (Src.of_own (HO2.out.alloc (.cells #[.slice none 0 0, .int .i64 0] 30)))).mono ?_
  rintro e w4 ⟨rfl, hb4⟩
  have j0 := cell_below hb4 k0
  have j1 := cell_below hb4 k1
  have HO4 := Lib.hid (own_below (HO2.out.alloc (.cells #[.slice none 0 0, .int .i64 0] 30)) hb4)
  have HB4 := Lib.hid ((HB2.out.alloc HB2.out.size (.cells #[.slice none 0 0, .int .i64 0] 30)).trans (hb4.mono (by have := HB2.out.size; simp; omega)))
  clear hb4 k0 k1
  go_wp2_with (fail)
  refine (ex_0 _ _ _ _ (Src.of_own HO4.out)).mono ?_
  rintro e w5 ⟨rfl, hb5⟩
  have HB5 := Lib.hid (HB4.out.trans (hb5.mono HB4.out.size))
  clear hb5
  go_wp2_with (fail)
  go_ret
  exact ⟨rfl, HB5.out⟩
end Go.Proofs.Ytmpciigebjiehaa
