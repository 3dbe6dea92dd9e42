/-
  The document's own union of filters.
-/
import Derived.Test.YtmpciigebjiehaaH
namespace Go.Proofs.Ytmpciigebjiehaa
open Go.RowKit

/-- The lowest bits of y put into x. -/
def lowOr (x y : UInt64) : Nat → UInt64
  | 0 => x
  | b + 1 => if has y b = true then lowOr x y b ||| bit b else lowOr x y b
theorem lowOr_bit (x y : UInt64) (b : Nat) (hb : b ≤ 64) (i : Nat) : (lowOr x y b).toNat.testBit i = (x.toNat.testBit i || (y.toNat.testBit i && decide (i < b))) := by
  induction b with
  | zero => simp [lowOr]
  | succ b ih =>
    have h := ih (by omega)
    unfold lowOr
    split
    · rename_i hy
      rw [UInt64.toNat_or, Nat.testBit_or, h, testBit_bit _ _ (by omega)]
      by_cases e : b = i
      · subst e
        have hy' : y.toNat.testBit b = true := hy
        simp [hy']
      · have e2 : decide (i < b + 1) = decide (i < b) := by
          rw [decide_eq_decide]
          omega
        simp [e, e2]
    · rename_i hy
      rw [h]
      by_cases e : b = i
      · subst e
        have hy' : y.toNat.testBit b = false := by simpa [has] using hy
        simp [hy']
      · have e2 : decide (i < b + 1) = decide (i < b) := by
          rw [decide_eq_decide]
          omega
        rw [e2]
theorem lowOr_all (x y : UInt64) : lowOr x y 64 = x ||| y := by
  apply UInt64.toNat_inj.1
  apply Nat.eq_of_testBit_eq
  intro i
  rw [lowOr_bit x y 64 (Nat.le_refl _), UInt64.toNat_or, Nat.testBit_or]
  by_cases hi : i < 64
  · simp [hi]
  · have hy : y.toNat.testBit i = false := Nat.testBit_lt_two_pow (Nat.lt_of_lt_of_le y.toNat_lt (Nat.pow_le_pow_right (by omega) (by omega)))
    simp [hy]

theorem radd_nil (P : Nat → Prop) (A : Option Addr) (n c : Nat) (s : Int) (l : List UInt64) (w : World) (hx : Src w P A n c (wds l)) (hn : n * 8 ≤ 140737488355328) :
    Calls Try.prog 20 #[flt A n c s, .slice none 0 0] w (Copied w n l s) :=
  radd_any P A n c s l none 0 [] w hx ⟨rfl, fun _ => ⟨rfl, rfl⟩, Nat.le_refl _, (by intro ad h; cases h), (by intro ad h; cases h)⟩ (by simp) hn (.inl rfl)

/-- No union. -/
def NoU (w : World) (e : Ending) (w' : World) : Prop := e = .returned (.tuple #[flt none 0 0 0, .bool false]) ∧ Below w.heap.size w w'
/-- A union. -/
def MadeU (w : World) (l : List UInt64) (s : Int) (e : Ending) (w' : World) : Prop :=
  ∃ A c, e = .returned (.tuple #[flt A l.length c s, .bool true]) ∧ w'.ownsRow w.heap.size 53 1 (.slice A l.length c) l.length (wds l) ∧ Below w.heap.size w w'

theorem noU_end (w w1 : World) (hb : Below w.heap.size w w1) (hx : Bx w1 w.heap.size none 0 0 0) : Bx ((w1.setCell ⟨w.heap.size, 0, none⟩ (.slice none 0 0)).setCell ⟨w.heap.size, 1, none⟩ (.int .i64 0)) w.heap.size none 0 0 0 ∧ Below w.heap.size w ((w1.setCell ⟨w.heap.size, 0, none⟩ (.slice none 0 0)).setCell ⟨w.heap.size, 1, none⟩ (.int .i64 0)) :=
  ⟨hx.over none 0 0 0, (hb.setCell (p := ⟨w.heap.size, 0, none⟩) (Nat.le_refl _) (.slice none 0 0)).setCell (p := ⟨w.heap.size, 1, none⟩) (Nat.le_refl _) (.int .i64 0)⟩

theorem runion_nil (A : Option Addr) (c : Nat) (w : World) : Calls Try.prog 28 #[.slice A 0 c] w (NoU w) := by
  go_enter Try.func28, Try.ntmps28
  go_wp2
  exact bodyPost_ret (v := .tuple #[flt none 0 0 0, .bool false]) (by simp [results, Try.results28, go_sem]) rfl ⟨rfl, (Below.refl _ _).alloc (Nat.le_refl _) _⟩

theorem runion_bad (P : Nat → Prop) (A : Option Addr) (c : Nat) (f : Fi) (r : List Fi) (w : World) (h : Fls w P A (r.length + 1) c (f :: r)) (hn : r.length + 1 ≤ 4611686018427387904) (hf : formB f.ws.length f.s = false) :
    Calls Try.prog 28 #[.slice A (r.length + 1) c] w (NoU w) := by
  cases A with
  | none => have := (h.nil rfl).1; omega
  | some ad =>
    obtain ⟨b, o, rfl⟩ := h.plain (by omega)
    obtain ⟨A0, c0, hs0, k0, k1⟩ := h.get 0 (by simp)
    simp only [List.getElem_cons_zero, Nat.zero_mul, Nat.add_zero] at hs0 k0 k1
    have HF := Lib.hid hf
    have HB := Lib.hid (Bx.new w none 0 0 0)
    have hz : (r.length + 1 == 0) = false := by simp
    have j0 := cell_alloc k0 (.cells #[.slice none 0 0, .int .i64 0] 30)
    have j1 := cell_alloc k1 (.cells #[.slice none 0 0, .int .i64 0] 30)
    clear h hf k0 k1 hs0
    go_enter Try.func28, Try.ntmps28
    go_wp2_with (go_at_call 23; refine (rRight_any A0 _ c0 f.s _).mono ?_; rw [HF.out]; rintro e w1 ⟨rfl, hb1⟩; have HB1 := Lib.hid hb1; have HBX := Lib.hid (HB.out.below hb1); have k0 := HBX.out.c0; have k1 := HBX.out.c1; have k2 := HBX.out.f0 0; have k3 := HBX.out.f0 1; clear hb1)
    have hq := noU_end w w1 (((Below.refl w.heap.size w).alloc (Nat.le_refl _) (.cells #[.slice none 0 0, .int .i64 0] 30)).trans (HB1.out.mono (by simp))) HBX.out
    generalize (w1.setCell ⟨w.heap.size, 0, none⟩ (.slice none 0 0)).setCell ⟨w.heap.size, 1, none⟩ (.int .i64 0) = w3 at hq ⊢
    obtain ⟨q, hbw⟩ := hq
    have q0 := q.c0
    have q1 := q.c1
    exact bodyPost_ret (v := .tuple #[flt none 0 0 0, .bool false]) (by simp [results, Try.results28, go_sem, q0, q1]) rfl ⟨rfl, hbw⟩
end Go.Proofs.Ytmpciigebjiehaa
