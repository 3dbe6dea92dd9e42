/-
  Filters that are read: whether they are right, which bits a hash has, what a filter lacks: the program's functions and the document's own answers.
-/
import Derived.Test.YtpcgedngikpnoaaCom
import Derived.Test.YtpcgedngikpnoaaFA
import Derived.Laws.Bits64b
namespace Go.Proofs.Ytpcgedngikpnoaa.Siv
set_option maxRecDepth 100000
set_option linter.unusedSimpArgs false
set_option linter.unusedVariables false
open Go.RowKit

/-- A filter. -/
abbrev flt (A : Option Addr) (n c : Nat) (s : Int) : Value := .agg #[.slice A n c, .int .i64 s]
def wds (l : List UInt64) : List Value := l.map u64v
def hsh (l : List UInt32) : List Value := l.map u32v

/-- A filter in a block of its own. -/
def Bx (w : World) (g : Nat) (A : Option Addr) (n c : Nat) (s : Int) : Prop := w.heap[g]? = some (.cells #[.slice A n c, .int .i64 s] 55 (0, 0))
section
variable {w w' : World} {g : Nat} {A : Option Addr} {n c : Nat} {s : Int}
theorem Bx.new (w : World) (A : Option Addr) (n c : Nat) (s : Int) : Bx (w.alloc (.cells #[.slice A n c, .int .i64 s] 55)) w.heap.size A n c s := heap_alloc_new _ _
theorem Bx.c0 (h : Bx w g A n c s) : w.cell? ⟨g, 0, none⟩ = some (.slice A n c) := cell_of_row w g 0 _ _ _ h
theorem Bx.c1 (h : Bx w g A n c s) : w.cell? ⟨g, 1, none⟩ = some (.int .i64 s) := cell_of_row w g 1 _ _ _ h
theorem Bx.f0 (h : Bx w g A n c s) (j : Nat) : w.frozen? ⟨g, j, none⟩ = false := frozen_of_row w g j _ _ h
theorem Bx.lt (h : Bx w g A n c s) : g < w.heap.size := by
  rcases Nat.lt_or_ge g w.heap.size with hlt | hge
  · exact hlt
  · have h' : w.heap[g]? = _ := h
    rw [Array.getElem?_eq_none hge] at h'; cases h'
theorem Bx.below (h : Bx w g A n c s) (hb : Below w.heap.size w w') : Bx w' g A n c s := (hb.block g h.lt).trans h
end
theorem cell_below {w w' : World} (hb : Below w.heap.size w w') {a : Addr} {u : Value} (h : w.cell? a = some u) : w'.cell? a = some u := (hb.cell (World.block_lt_of_cell? w _ h)).trans h
theorem cell_alloc {w : World} {a : Addr} {u : Value} (h : w.cell? a = some u) (o : Obj) : (w.alloc o).cell? a = some u := by
  rw [World.cell?_alloc_lt w _ _ (World.block_lt_of_cell? w _ h)]; exact h

theorem right_any (A : Option Addr) (n c : Nat) (s : Int) (w : World) (hn : n ≤ 9223372036854775807) :
    Calls Try.prog 59 #[flt A n c s] w fun e w' => e = .returned (.int .i64 (if formB n s then 0 else 20)) ∧ Below w.heap.size w w' := by
  cases hf : formB n s
  all_goals
    have HF := Lib.hid hf
    clear hf
    go_enter Try.func59, Try.ntmps59
    go_wp2_with (go_at_call 64; refine (isForm_any n s _ (by omega)).mono ?_; rw [HF.out]; rintro e w' ⟨rfl, rfl⟩)
    go_ret
    exact ⟨rfl, (Below.refl _ _).alloc (Nat.le_refl _) _⟩

def idx (n : Nat) (h : UInt32) : Nat := h.toNat / 64 % n
def msk (s : Nat) (h : UInt32) : UInt64 := bit (h.toNat % 64) ||| bit (h.toNat / 2 ^ s % 64)
theorem bit_wrap (a : Nat) (h : a < 64) : IntKind.u64.wrap (2 ^ a) = ((bit a).toNat : Int) := by
  rw [bit_val a h, IntKind.wrap_u64]
  have := pow64 a h
  exact Int.emod_eq_of_lt (by omega) this.1
theorem or_bits (a b : Nat) (ha : a < 64) (hb : b < 64) : bits .or .u64 (IntKind.u64.wrap (2 ^ a)) (IntKind.u64.wrap (2 ^ b)) = ((bit a ||| bit b).toNat : Int) := by
  rw [bit_wrap a ha, bit_wrap b hb, bits_or_u64_nat _ _ (UInt64.toNat_lt _) (UInt64.toNat_lt _), UInt64.toNat_or]
theorem bitsOf_any (A : Option Addr) (n c s : Nat) (h : UInt32) (w : World) (h0 : 0 < n) (hn : n ≤ 9223372036854775807) (hs : s ≤ 31) :
    Calls Try.prog 60 #[flt A n c s, u32v h] w fun e w' => e = .returned (.tuple #[.int .i64 (idx n h : Nat), u64v (msk s h)]) ∧ Below w.heap.size w w' := by
  have h32 := h.toNat_lt
  have hq : (h.toNat : Int) / 2 ^ s = ((h.toNat / 2 ^ s : Nat) : Int) := by simp
  generalize hx : h.toNat / 2 ^ s = x at hq
  have HX := Lib.hid hx
  clear hx
  go_enter Try.func60, Try.ntmps60
  go_wp2
  go_region
  go_wp2
  go_ret2
  rw [or_bits _ _ (Nat.mod_lt _ (by omega)) (Nat.mod_lt _ (by omega)), ← HX.out]
  exact ⟨by simp [idx, msk], ((Below.refl _ _).alloc (Nat.le_refl _) _).drew⟩

theorem wds_len (l : List UInt64) : (wds l).length = l.length := by simp [wds]
/-- The word at a place. -/
def wd (l : List UInt64) (i : Nat) : UInt64 := l.getD i 0
theorem wds_get (l : List UInt64) (i : Nat) (hi : i < l.length) : (wds l)[i]? = some (u64v (wd l i)) := by
  simp [wds, wd, hi]
theorem wds_one (l : List UInt64) : ∀ u ∈ wds l, u.oneCell' = true := by
  intro u hu
  simp only [wds, List.mem_map] at hu
  obtain ⟨b, _, rfl⟩ := hu
  rfl
theorem idx_lt (n : Nat) (h : UInt32) (h0 : 0 < n) : idx n h < n := Nat.mod_lt _ h0
theorem form_pos {n : Nat} {s : Int} (h : formB n s = true) : 0 < n ∧ n ≤ 64 ∧ 1 ≤ s ∧ s ≤ 31 := by
  simp only [formB, pow7, Bool.and_eq_true, decide_eq_true_eq] at h
  omega
def lacksB (l : List UInt64) (s : Int) (h : UInt32) : Bool := formB l.length s && ((wd l (idx l.length h) &&& msk s.toNat h) != msk s.toNat h)
theorem and_ne (x m : UInt64) : (bits .and .u64 (x.toNat : Int) (m.toNat : Int) != (m.toNat : Int)) = ((x &&& m) != m) := by
  have h1 := x.toNat_lt
  have h2 := m.toNat_lt
  rw [bits_and_u64_nat _ _ h1 h2, ← UInt64.toNat_and, Bool.eq_iff_iff]
  simp only [bne_iff_ne, ne_eq, ← UInt64.toNat_inj]
  omega

theorem lacks_any (P : Nat → Prop) (A : Option Addr) (c : Nat) (l : List UInt64) (s : Int) (h : UInt32) (w : World) (hx : Src w P A l.length c (wds l)) (hn : l.length ≤ 9223372036854775807) :
    Calls Try.prog 46 #[flt A l.length c s, u32v h] w fun e w' => e = .returned (.bool (lacksB l s h)) ∧ Below w.heap.size w w' := by
  cases hf : formB l.length s
  · have HF := Lib.hid hf
    clear hf
    go_enter Try.func46, Try.ntmps46
    go_wp2_with (go_at_call 59; refine (right_any A _ c s _ hn).mono ?_; rw [HF.out]; rintro e w1 ⟨rfl, hb1⟩)
    go_ret
    have hl : lacksB l s h = false := by simp [lacksB, HF.out]
    rw [hl]
    exact ⟨rfl, ((Below.refl _ _).alloc (Nat.le_refl _) _).trans (hb1.mono (by simp))⟩
  · obtain ⟨p0, p1, p2, p3⟩ := form_pos hf
    obtain ⟨s, rfl⟩ : ∃ k : Nat, s = k := ⟨s.toNat, by omega⟩
    have HF := Lib.hid hf
    have HX := Lib.hid hx.lt
    clear hf hx
    have hi := idx_lt l.length h p0
    cases A with
    | none => have := (HX.out.nil rfl).1; omega
    | some ad =>
      have hc0 := HX.out.at_ ad rfl _ _ (wds_get l _ hi)
      have HBX := Lib.hid (Bx.new w (some ad) l.length c s)
      have HC := Lib.hid (hc0)
      clear hc0
      go_enter Try.func46, Try.ntmps46
      go_wp2_with (first
        | (go_at_call 59; refine (right_any (some ad) _ c s _ hn).mono ?_; rw [HF.out]; rintro e w1 ⟨rfl, hb1⟩; have HB1 := Lib.hid hb1; have HBX1 := Lib.hid (HBX.out.below hb1); have k0 := HBX1.out.c0; have k1 := HBX1.out.c1; clear hb1)
        | (go_at_call 60; refine (bitsOf_any (some ad) l.length c s h _ p0 hn (by omega)).mono ?_; rintro e w2 ⟨rfl, hb2⟩; have HB2 := Lib.hid hb2; have HBX2 := Lib.hid (HBX1.out.below hb2); have k2 := HBX2.out.c0; have k3 := HBX2.out.c1; have k4 := (((cell_below hb2 (cell_below HB1.out (cell_alloc HC.out _))))); clear hb2 k0 k1))
      go_ret
      rw [and_ne]
      have hl : lacksB l s h = ((wd l (idx l.length h) &&& msk s h) != msk s h) := by simp [lacksB, HF.out]
      rw [hl]
      exact ⟨rfl, (((Below.refl _ _).alloc (Nat.le_refl _) _).trans (HB1.out.mono (by simp))).trans (HB2.out.mono (by have := HB1.out.size; simp at this; omega))⟩

theorem rRight_any (A : Option Addr) (n c : Nat) (s : Int) (w : World) :
    Calls Try.prog 42 #[flt A n c s] w fun e w' => e = .returned (.bool (formB n s)) ∧ Below w.heap.size w w' := by
  cases hp : pow7 n
  · have HP := Lib.hid hp
    have hf : formB n s = false := by simp [formB, hp]
    rw [hf]
    clear hp hf
    go_enter Try.func42, Try.ntmps42
    go_wp2_with (go_at_call 56; refine (rWords_any n _).mono ?_; rw [HP.out]; rintro e w' ⟨rfl, rfl⟩)
    go_ret
    exact ⟨rfl, (Below.refl _ _).alloc (Nat.le_refl _) _⟩
  · have HP := Lib.hid hp
    have hf : formB n s = (decide (1 ≤ s) && decide (s ≤ 31)) := by simp [formB, hp]
    rw [hf]
    clear hp hf
    by_cases h1 : 1 ≤ s
    · go_enter Try.func42, Try.ntmps42
      go_wp2_with (go_at_call 56; refine (rWords_any n _).mono ?_; rw [HP.out]; rintro e w' ⟨rfl, rfl⟩)
      go_ret
      exact ⟨by simp [h1], (Below.refl _ _).alloc (Nat.le_refl _) _⟩
    · go_enter Try.func42, Try.ntmps42
      go_wp2_with (go_at_call 56; refine (rWords_any n _).mono ?_; rw [HP.out]; rintro e w' ⟨rfl, rfl⟩)
      go_ret
      have h3 : decide (1 ≤ s) = false := by simpa using h1
      rw [h3]
      exact ⟨rfl, (Below.refl _ _).alloc (Nat.le_refl _) _⟩

theorem testBit_bit (a i : Nat) (ha : a < 64) : (bit a).toNat.testBit i = decide (a = i) := by
  rw [bit_nat a ha, Nat.testBit_two_pow]
theorem lacks_two (x : UInt64) (a b : Nat) (ha : a < 64) (hb : b < 64) : ((x &&& (bit a ||| bit b)) != (bit a ||| bit b)) = (!has x a || !has x b) := by
  have e : ((x &&& (bit a ||| bit b)) == (bit a ||| bit b)) = (has x a && has x b) := by
    rw [Bool.eq_iff_iff]
    simp only [beq_iff_eq, Bool.and_eq_true, ← UInt64.toNat_inj, UInt64.toNat_and, UInt64.toNat_or, has]
    constructor
    · intro h
      have h1 := congrArg (fun z => z.testBit a) h
      have h2 := congrArg (fun z => z.testBit b) h
      simp only [Nat.testBit_and, Nat.testBit_or, testBit_bit _ _ ha, testBit_bit _ _ hb, decide_true, Bool.true_or, Bool.or_true, Bool.and_true] at h1 h2
      exact ⟨h1, h2⟩
    · rintro ⟨h1, h2⟩
      apply Nat.eq_of_testBit_eq
      intro i
      simp only [Nat.testBit_and, Nat.testBit_or, testBit_bit _ _ ha, testBit_bit _ _ hb]
      by_cases e1 : a = i
      · subst e1; simp [h1]
      · by_cases e2 : b = i
        · subst e2; simp [h2]
        · simp [e1, e2]
  rw [bne, e]
  cases has x a <;> cases has x b <;> rfl

theorem rshifted_nat (h : UInt32) (s x : Nat) (w : World) (hs : s ≤ 31) (hx : h.toNat / 2 ^ s = x) :
    Calls Try.prog 44 #[u32v h, .int .i64 (s : Int)] w fun e w' => e = .returned (u32n x) ∧ w = w' := by
  have := rshifted_any h (s : Int) w (by omega) (by omega)
  rw [show ((s : Int).toNat) = s by simp, hx] at this
  exact this
theorem rLacks_any (P : Nat → Prop) (A : Option Addr) (c : Nat) (l : List UInt64) (s : Int) (h : UInt32) (w : World) (hx : Src w P A l.length c (wds l)) (hn : l.length ≤ 9223372036854775807) :
    Calls Try.prog 28 #[flt A l.length c s, u32v h] w fun e w' => e = .returned (.bool (lacksB l s h)) ∧ Below w.heap.size w w' := by
  cases hf : formB l.length s
  · have HF := Lib.hid hf
    clear hf
    go_enter Try.func28, Try.ntmps28
    go_wp2_with (go_at_call 42; refine (rRight_any A _ c s _).mono ?_; rw [HF.out]; rintro e w1 ⟨rfl, hb1⟩)
    go_ret
    have hl : lacksB l s h = false := by simp [lacksB, HF.out]
    rw [hl]
    exact ⟨rfl, ((Below.refl _ _).alloc (Nat.le_refl _) _).trans (hb1.mono (by simp))⟩
  · obtain ⟨p0, p1, p2, p3⟩ := form_pos hf
    obtain ⟨s, rfl⟩ : ∃ k : Nat, s = k := ⟨s.toNat, by omega⟩
    have HF := Lib.hid hf
    have HX := Lib.hid hx.lt
    clear hf hx
    have hi := idx_lt l.length h p0
    have h32 := h.toNat_lt
    have hma : (h.toNat : Int) % 64 = ((h.toNat % 64 : Nat) : Int) := by simp
    generalize hxa : h.toNat % 64 = a at hma
    have ha : a < 64 := by omega
    have hx2 : h.toNat / 2 ^ s ≤ h.toNat := Nat.div_le_self _ _
    generalize hxx : h.toNat / 2 ^ s = x at hx2
    have hmb : (x : Int) % 64 = ((x % 64 : Nat) : Int) := by simp
    generalize hxb : x % 64 = b at hmb
    have hb : b < 64 := by omega
    have HS := Lib.hid (fun w : World => rshifted_nat h s x w (by omega) hxx)
    have HXX := Lib.hid hxx
    clear hxx
    have HXA := Lib.hid hxa
    have HXB := Lib.hid hxb
    clear hxa hxb
    have hix : (h.toNat : Int) / 64 % (l.length : Int) = (idx l.length h : Nat) := by simp [idx]
    cases A with
    | none => have := (HX.out.nil rfl).1; omega
    | some ad =>
      have hc0 := HX.out.at_ ad rfl _ _ (wds_get l _ hi)
      have HBX := Lib.hid (Bx.new w (some ad) l.length c s)
      have HC := Lib.hid (hc0)
      clear hc0
      go_enter Try.func28, Try.ntmps28
      go_wp2_with (first
        | (go_at_call 42; refine (rRight_any (some ad) _ c s _).mono ?_; rw [HF.out]; rintro e w1 ⟨rfl, hb1⟩; have HB1 := Lib.hid hb1; have HBX1 := Lib.hid (HBX.out.below hb1); have k0 := HBX1.out.c0; have k1 := HBX1.out.c1; have k4 := cell_below HB1.out (cell_alloc HC.out _); clear hb1))
      go_region
      clear hix k4 HC
      go_wp2_with (first
        | (go_at_call 43; refine (rhas_any (wd l (idx l.length h)) _ _ (by assumption)).mono ?_; rintro e w' ⟨rfl, rfl⟩)
        | (go_at_call 44; refine (HS.out _).mono ?_; rintro e w' ⟨rfl, rfl⟩))
      all_goals
        go_ret
        have hl : lacksB l s h = (!has (wd l (idx l.length h)) a || !has (wd l (idx l.length h)) b) := by
          have e : msk (s : Int).toNat h = bit a ||| bit b := by
            rw [← HXA.out, ← HXB.out, ← HXX.out]
            rfl
          rw [← lacks_two _ _ _ ha hb, lacksB, HF.out, e]
          rfl
        refine ⟨?_, (((Below.refl _ _).alloc (Nat.le_refl _) _).trans (HB1.out.mono (by simp))).drew⟩
      · have h1 : has (wd l (idx l.length h)) a = true := by assumption
        rw [hl, h1]
        rfl
      · have h1 : has (wd l (idx l.length h)) a = false := by have h1 : ¬has (wd l (idx l.length h)) a = true := by assumption
                                                              simpa using h1
        rw [hl, h1]
        rfl
end Go.Proofs.Ytpcgedngikpnoaa.Siv
