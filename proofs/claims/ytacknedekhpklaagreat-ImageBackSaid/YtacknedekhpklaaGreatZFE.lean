/-
  What hashes are, and the leaf functions of package sieve and of the document's own answer that hash names.
  Filters that are read: whether they are right, which bits a hash has, what a filter lacks: the program's functions and the document's own answers.
  Filters that are written: set, spoil, and what filters are the same.
  Filters that are made: Make, clone, Add, and the document's own Add.
  Copies of filters: slices.Clone, clone, Add.
-/
import Derived.Test.YtacknedekhpklaaGreatRows
import Derived.WalkKit
import Derived.Lib.Hide
import Derived.WalkSpells
import Derived.Deep.Draws
import Derived.Deep.QuietTactic
import Derived.BigQuiet
import Derived.Laws.BitsAllLaws
import Derived.Laws.Bits64
import Derived.Test.YtacknedekhpklaaGreatZCA
import Derived.Laws.Bits64b
namespace Go.Proofs.YtacknedekhpklaaGreat.Siv
set_option maxRecDepth 100000
set_option linter.unusedSimpArgs false
set_option linter.unusedVariables false
open Go.RowKit

abbrev u32v (x : UInt32) : Value := .int .u32 (x.toNat : Int)
abbrev u32n (k : Nat) : Value := .int .u32 (k : Int)
abbrev u64v (x : UInt64) : Value := .int .u64 (x.toNat : Int)
def step (h : UInt32) (b : UInt8) : UInt32 := h * 33 + b.toUInt32
def hashFrom (h : UInt32) (l : List UInt8) : UInt32 := l.foldl step h
theorem hashFrom_take (h : UInt32) (l : List UInt8) (k : Nat) (hk : k < l.length) : hashFrom h (l.take (k + 1)) = step (hashFrom h (l.take k)) l[k] := by
  unfold hashFrom
  rw [List.take_succ_eq_append_getElem hk, List.foldl_append]
  rfl
theorem step_val (h : UInt32) (b : UInt8) : ((step h b).toNat : Int) = (((h.toNat : Int) * 33 % 4294967296 + (b.toNat : Int) % 4294967296) % 4294967296) := by
  simp [step]
theorem step_eq (h : UInt32) (b : UInt8) : Value.int .u32 (((h.toNat : Int) * 33 % 4294967296 + (b.toNat : Int) % 4294967296) % 4294967296) = u32v (step h b) := by rw [u32v, step_val]
theorem more_any (h : UInt32) (s : ByteArray) (w : World) (hs : s.size ≤ 9223372036854775807) :
    Calls Tryz.prog 207 #[u32v h, .string s] w fun e w' => e = .returned (u32v (hashFrom h s.data.toList)) ∧ w = w' := by
  go_enter Tryz.func207, Tryz.ntmps207
  go_wp2
  go_loop [0, 5, 8] (fun t _ i => ∃ k : Nat, k ≤ s.size ∧ i = .int .i64 k ∧ t = u32v (hashFrom h (s.data.toList.take k))) (fun _ _ i => s.size - (intOf i).toNat)
  case atStart => exact ⟨0, Nat.zero_le _, rfl, rfl⟩
  case round =>
    obtain ⟨k, hk, rfl, rfl⟩ := hrel
    go_wp2
    · have hlt : k < s.size := by assumption
      go_round
      case rel => exact ⟨k + 1, by omega, by go_num, by rw [hashFrom_take h _ k (by simpa using hlt)]; exact step_eq _ _⟩
      case measure => simp [intOf]; omega
    · obtain rfl : k = s.size := by omega
      go_ret
      rw [List.take_of_length_le (by simp)]
      exact ⟨rfl, rfl⟩

theorem hash_any (s : ByteArray) (w : World) (hs : s.size ≤ 9223372036854775807) :
    Calls Tryz.prog 160 #[.string s] w fun e w' => e = .returned (u32v (hashFrom 5381 s.data.toList)) ∧ w = w' := by
  go_enter Tryz.func160, Tryz.ntmps160
  go_wp2_with (go_at_call 207; refine (more_any 5381 s _ hs).mono ?_; rintro e w' ⟨rfl, rfl⟩)
  go_ret
  exact ⟨rfl, rfl⟩

theorem rmore_any (h : UInt32) (s : ByteArray) (w : World) (hs : s.size ≤ 9223372036854775807) :
    Calls Tryz.prog 171 #[u32v h, .string s] w fun e w' => e = .returned (u32v (hashFrom h s.data.toList)) ∧ w = w' := by
  have h0 := h.toNat_lt
  go_enter Tryz.func171, Tryz.ntmps171
  go_wp2
  go_loop [5, 6] (fun t i => ∃ k : Nat, k ≤ s.size ∧ i = .int .i64 k ∧ t = .int .u64 ((hashFrom h (s.data.toList.take k)).toNat : Int)) (fun _ i => s.size - (intOf i).toNat)
  case atStart => exact ⟨0, Nat.zero_le _, rfl, by simp [hashFrom]⟩
  case round =>
    obtain ⟨k, hk, rfl, rfl⟩ := hrel
    have h32 := (hashFrom h (s.data.toList.take k)).toNat_lt
    have h8 : ∀ hk : k < s.size, s[k].toNat < 256 := fun hk => s[k].toNat_lt
    go_wp2
    · have hlt : k < s.size := by assumption
      go_round
      case rel => exact ⟨k + 1, by omega, by go_num, by rw [hashFrom_take h _ k (by simpa using hlt), step_val]; have := h8 hlt; have e : s.data.toList[k]'(by simpa using hlt) = s[k] := rfl; rw [e]; congr 1; rw [IntKind.wrap_u64, IntKind.wrap_u64, tmod_of_emod]; omega⟩
      case measure => simp [intOf]; omega
    · obtain rfl : k = s.size := by omega
      go_ret
      rw [List.take_of_length_le (by simp)]
      exact ⟨rfl, rfl⟩

theorem rhash_any (s : ByteArray) (w : World) (hs : s.size ≤ 9223372036854775807) :
    Calls Tryz.prog 92 #[.string s] w fun e w' => e = .returned (u32v (hashFrom 5381 s.data.toList)) ∧ w = w' := by
  go_enter Tryz.func92, Tryz.ntmps92
  go_wp2_with (go_at_call 171; refine (rmore_any 5381 s _ hs).mono ?_; rintro e w' ⟨rfl, rfl⟩)
  go_ret
  exact ⟨rfl, rfl⟩

/-! Bits of words. -/
def bit (k : Nat) : UInt64 := UInt64.ofNat (2 ^ k)
theorem pow64 (k : Nat) (hk : k < 64) : (2 : Int) ^ k < 18446744073709551616 ∧ 1 ≤ (2 : Int) ^ k := by
  have h1 : (2 : Nat) ^ k < 2 ^ 64 := Nat.pow_lt_pow_right (by omega) hk
  have h2 : 1 ≤ (2 : Nat) ^ k := Nat.one_le_two_pow
  have e : ((2 ^ k : Nat) : Int) = (2 : Int) ^ k := by simp
  omega
theorem bit_val (k : Nat) (hk : k < 64) : ((bit k).toNat : Int) = 2 ^ k := by
  have : (2 : Nat) ^ k < 2 ^ 64 := Nat.pow_lt_pow_right (by omega) hk
  have e : ((2 ^ k : Nat) : Int) = (2 : Int) ^ k := by simp
  rw [← e, bit, UInt64.toNat_ofNat', Nat.mod_eq_of_lt this]
theorem power_any (k : Nat) (w : World) (hk : k < 64) :
    Calls Tryz.prog 141 #[u32n k] w fun e w' => e = .returned (u64v (bit k)) ∧ w = w' := by
  go_enter Tryz.func141, Tryz.ntmps141
  go_wp2
  go_loop [3, 4] (fun t i => ∃ j : Nat, j ≤ k ∧ i = .int .u32 (j : Int) ∧ t = u64v (bit j)) (fun _ i => k - (intOf i).toNat)
  case atStart => exact ⟨0, Nat.zero_le _, rfl, rfl⟩
  case round =>
    obtain ⟨j, hj, rfl, rfl⟩ := hrel
    go_wp2
    · have hlt : j < k := by assumption
      go_round
      case rel => exact ⟨j + 1, by omega, by go_num, by rw [u64v, bit_val (j + 1) (by omega), bit_val j (by omega), IntKind.wrap_u64]; have := pow64 (j + 1) (by omega); congr 1; omega⟩
      case measure => simp [intOf]; omega
    · obtain rfl : j = k := by omega
      go_ret
      exact ⟨rfl, rfl⟩

theorem bit_nat (k : Nat) (hk : k < 64) : (bit k).toNat = 2 ^ k := by
  have := bit_val k hk
  have e : ((2 ^ k : Nat) : Int) = (2 : Int) ^ k := by simp
  omega
def has (x : UInt64) (k : Nat) : Bool := x.toNat.testBit k
theorem has_val (x : UInt64) (k : Nat) (hk : k < 64) : ((IntKind.u64.wrap ((x.toNat : Int) / ((bit k).toNat : Int))).tmod 2 == 1) = has x k := by
  rw [bit_nat k hk, IntKind.wrap_u64, tmod_of_emod, has, Nat.testBit_eq_decide_div_mod_eq]
  have h := x.toNat_lt
  have hd : x.toNat / 2 ^ k ≤ x.toNat := Nat.div_le_self _ _
  have e : (x.toNat : Int) / ((2 ^ k : Nat) : Int) = ((x.toNat / 2 ^ k : Nat) : Int) := by simp
  rw [e, Bool.eq_iff_iff]
  simp only [beq_iff_eq, decide_eq_true_eq]
  omega
theorem rhas_any (x : UInt64) (k : Nat) (w : World) (hk : k < 64) :
    Calls Tryz.prog 140 #[u64v x, u32n k] w fun e w' => e = .returned (.bool (has x k)) ∧ w = w' := by
  have hb := Lib.hid (has_val x k hk)
  have h1 : (1 : Int) ≤ ((bit k).toNat : Int) := by rw [bit_val k hk]; exact (pow64 _ hk).2
  have h2 := x.toNat_lt
  go_enter Tryz.func140, Tryz.ntmps140
  go_wp2_with (go_at_call 141; refine (power_any k _ hk).mono ?_; rintro e w' ⟨rfl, rfl⟩)
  go_ret
  rw [← hb.out]
  exact ⟨rfl, rfl⟩

theorem or_bit (x : UInt64) (k : Nat) (hk : k < 64) (h : has x k = true) : x ||| bit k = x := by
  apply UInt64.toNat_inj.1
  rw [UInt64.toNat_or, bit_nat k hk]
  apply Nat.eq_of_testBit_eq
  intro i
  rw [Nat.testBit_or, Nat.testBit_two_pow]
  by_cases hi : k = i
  · subst hi; rw [show x.toNat.testBit k = true from h]; rfl
  · simp [hi]
theorem add_bit (x : UInt64) (k : Nat) (hk : k < 64) (h : has x k = false) : x ||| bit k = x + bit k := by
  apply UInt64.toBitVec_inj.1
  rw [UInt64.toBitVec_or, UInt64.toBitVec_add, BitVec.add_eq_or_of_and_eq_zero]
  apply BitVec.eq_of_toNat_eq
  rw [BitVec.toNat_and]
  show x.toNat &&& (bit k).toNat = 0
  rw [bit_nat k hk, nat_bit]
  rw [has, Nat.testBit_eq_decide_div_mod_eq] at h
  have : ¬ (x.toNat / 2 ^ k % 2 = 1) := by simpa using h
  have : x.toNat / 2 ^ k % 2 = 0 := by omega
  rw [this]
  simp
theorem rwith_any (x : UInt64) (k : Nat) (w : World) (hk : k < 64) :
    Calls Tryz.prog 54 #[u64v x, u32n k] w fun e w' => e = .returned (u64v (x ||| bit k)) ∧ w = w' := by
  by_cases h : has x k = true
  · have H := Lib.hid h
    go_enter Tryz.func54, Tryz.ntmps54
    go_wp2_with (go_at_call 140; refine (rhas_any x k _ hk).mono ?_; rw [H.out]; rintro e w' ⟨rfl, rfl⟩)
    go_ret
    rw [or_bit x _ hk h]
    exact ⟨rfl, rfl⟩
  · have h' : has x k = false := by simpa using h
    have H := Lib.hid h'
    clear h h'
    go_enter Tryz.func54, Tryz.ntmps54
    go_wp2_with (first
      | (go_at_call 140; refine (rhas_any x k _ hk).mono ?_; rw [H.out]; rintro e w' ⟨rfl, rfl⟩)
      | (go_at_call 141; refine (power_any k _ hk).mono ?_; rintro e w' ⟨rfl, rfl⟩))
    go_ret
    have e : u64v (x + bit k) = Value.int .u64 (IntKind.u64.wrap ((x.toNat : Int) + ((bit k).toNat : Int))) := by
      rw [u64v, IntKind.wrap_u64, UInt64.toNat_add]
      congr 1
    rw [add_bit x _ hk H.out, e]
    exact ⟨rfl, rfl⟩

theorem half {a b : Nat} (hx : a / 2 ^ b < 4294967296) : Value.int .u32 (((a : Int) / 2 ^ b).tdiv 2 % 4294967296) = .int .u32 ((a / 2 ^ b / 2 : Nat) : Int) := by
  have e : (a : Int) / 2 ^ b = ((a / 2 ^ b : Nat) : Int) := by simp
  rw [e, Int.tdiv_eq_ediv_of_nonneg (Int.natCast_nonneg _)]
  generalize a / 2 ^ b = z at hx ⊢
  congr 1
  omega
theorem rshifted_any (h : UInt32) (s : Int) (w : World) (hs : 0 ≤ s) (hs2 : s ≤ 31) :
    Calls Tryz.prog 55 #[u32v h, .int .i64 s] w fun e w' => e = .returned (.int .u32 ((h.toNat / 2 ^ s.toNat : Nat) : Int)) ∧ w = w' := by
  have h32 := h.toNat_lt
  go_enter Tryz.func55, Tryz.ntmps55
  go_wp2
  go_loop [0, 5] (fun t i => ∃ j : Nat, j ≤ s.toNat ∧ i = .int .i64 (j : Int) ∧ t = .int .u32 ((h.toNat / 2 ^ j : Nat) : Int)) (fun _ i => s.toNat - (intOf i).toNat)
  case atStart => exact ⟨0, Nat.zero_le _, rfl, by simp⟩
  case round =>
    obtain ⟨j, hj, rfl, rfl⟩ := hrel
    have hd : h.toNat / 2 ^ j ≤ h.toNat := Nat.div_le_self _ _
    have hd' : h.toNat / 2 ^ j < 4294967296 := by omega
    have hn : (h.toNat / 2 ^ (j + 1) : Nat) = (h.toNat / 2 ^ j) / 2 := by rw [Nat.pow_succ, ← Nat.div_div_eq_div_mul]
    have HN := Lib.hid hn
    clear hn
    go_wp2
    · have hlt : (j : Int) < s := by assumption
      go_round
      case rel => exact ⟨j + 1, by omega, by go_num, by rw [HN.out]; exact half hd'⟩
      case measure => simp [intOf]; omega
    · obtain rfl : j = s.toNat := by omega
      go_ret
      exact ⟨rfl, rfl⟩

def pow7 (n : Int) : Bool := decide (n = 1 ∨ n = 2 ∨ n = 4 ∨ n = 8 ∨ n = 16 ∨ n = 32 ∨ n = 64)
def formB (n s : Int) : Bool := pow7 n && (decide (1 ≤ s) && decide (s ≤ 31))
theorem pow_all : ∀ k : Fin 65, 0 < k.val → (bits .and .i64 (k.val : Int) ((k.val : Int) - 1) == 0) = pow7 (k.val : Int) := by decide +kernel
theorem pow_and (n : Int) (h0 : 0 < n) (h1 : n ≤ 64) : (bits .and .i64 n (n - 1) == 0) = pow7 n := by
  have := pow_all ⟨n.toNat, by omega⟩ (by simp; omega)
  simpa [show ((n.toNat : Nat) : Int) = n by omega] using this
theorem pow_big (n : Int) (h : ¬ (0 < n ∧ n ≤ 64)) : pow7 n = false := by
  simp [pow7]
  omega
theorem isForm_any (n s : Int) (w : World) (hn : -9223372036854775808 ≤ n ∧ n ≤ 9223372036854775807) : Calls Tryz.prog 203 #[.int .i64 n, .int .i64 s] w fun e w' => e = .returned (.bool (formB n s)) ∧ w = w' := by
  by_cases h0 : 0 < n
  · by_cases h1 : n ≤ 64
    · have hb : (bits .and .i64 n (n - 1) == 0) = pow7 n := pow_and n h0 h1
      cases hp : pow7 n
      · rw [hp] at hb
        go_enter Tryz.func203, Tryz.ntmps203
        go_wp2
        go_ret
        simp [formB, hp]
      · rw [hp] at hb
        by_cases h2 : 1 ≤ s
        · go_enter Tryz.func203, Tryz.ntmps203
          go_wp2
          go_ret
          simp [formB, hp, h2]
        · go_enter Tryz.func203, Tryz.ntmps203
          go_wp2
          go_ret
          have h3 : decide (1 ≤ s) = false := by simpa using h2
          simp only [formB, h3]
          simp
    · have hp := Lib.hid (pow_big n (by omega))
      go_enter Tryz.func203, Tryz.ntmps203
      go_wp2
      all_goals
        go_ret
        simp [formB, hp.out]
  · have hp := Lib.hid (pow_big n (by omega))
    go_enter Tryz.func203, Tryz.ntmps203
    go_wp2
    go_ret
    simp [formB, hp.out]

theorem rWords_any (n : Int) (w : World) : Calls Tryz.prog 169 #[.int .i64 n] w fun e w' => e = .returned (.bool (pow7 n)) ∧ w = w' := by
  go_enter Tryz.func169, Tryz.ntmps169
  go_wp2
  go_loop [3] (fun t => (t = .int .i64 1) ∨ (t = .int .i64 2 ∧ n ≠ 1) ∨ (t = .int .i64 4 ∧ n ≠ 1 ∧ n ≠ 2) ∨ (t = .int .i64 8 ∧ n ≠ 1 ∧ n ≠ 2 ∧ n ≠ 4) ∨ (t = .int .i64 16 ∧ n ≠ 1 ∧ n ≠ 2 ∧ n ≠ 4 ∧ n ≠ 8) ∨ (t = .int .i64 32 ∧ n ≠ 1 ∧ n ≠ 2 ∧ n ≠ 4 ∧ n ≠ 8 ∧ n ≠ 16) ∨ (t = .int .i64 64 ∧ n ≠ 1 ∧ n ≠ 2 ∧ n ≠ 4 ∧ n ≠ 8 ∧ n ≠ 16 ∧ n ≠ 32) ∨ (t = .int .i64 128 ∧ n ≠ 1 ∧ n ≠ 2 ∧ n ≠ 4 ∧ n ≠ 8 ∧ n ≠ 16 ∧ n ≠ 32 ∧ n ≠ 64)) (fun t => 128 - (intOf t).toNat)
  case atStart => exact .inl rfl
  case round =>
    rcases hrel with rfl | ⟨rfl, n1⟩ | ⟨rfl, n1, n2⟩ | ⟨rfl, n1, n2, n4⟩ | ⟨rfl, n1, n2, n4, n8⟩ | ⟨rfl, n1, n2, n4, n8, n16⟩ | ⟨rfl, n1, n2, n4, n8, n16, n32⟩ | ⟨rfl, n1, n2, n4, n8, n16, n32, n64⟩
    · by_cases hp : n = 1
      · subst hp
        go_wp2
        go_ret
        exact ⟨rfl, rfl⟩
      · go_wp2
        go_round
        case rel => simp [hp]
        case measure => simp [intOf]
    · by_cases hp : n = 2
      · subst hp
        go_wp2
        go_ret
        exact ⟨rfl, rfl⟩
      · go_wp2
        go_round
        case rel => simp [hp, n1]
        case measure => simp [intOf]
    · by_cases hp : n = 4
      · subst hp
        go_wp2
        go_ret
        exact ⟨rfl, rfl⟩
      · go_wp2
        go_round
        case rel => simp [hp, n1, n2]
        case measure => simp [intOf]
    · by_cases hp : n = 8
      · subst hp
        go_wp2
        go_ret
        exact ⟨rfl, rfl⟩
      · go_wp2
        go_round
        case rel => simp [hp, n1, n2, n4]
        case measure => simp [intOf]
    · by_cases hp : n = 16
      · subst hp
        go_wp2
        go_ret
        exact ⟨rfl, rfl⟩
      · go_wp2
        go_round
        case rel => simp [hp, n1, n2, n4, n8]
        case measure => simp [intOf]
    · by_cases hp : n = 32
      · subst hp
        go_wp2
        go_ret
        exact ⟨rfl, rfl⟩
      · go_wp2
        go_round
        case rel => simp [hp, n1, n2, n4, n8, n16]
        case measure => simp [intOf]
    · by_cases hp : n = 64
      · subst hp
        go_wp2
        go_ret
        exact ⟨rfl, rfl⟩
      · go_wp2
        go_round
        case rel => simp [hp, n1, n2, n4, n8, n16, n32]
        case measure => simp [intOf]
    · go_wp2
      go_ret
      have : pow7 n = false := by simp [pow7, n1, n2, n4, n8, n16, n32, n64]
      rw [this]
      exact ⟨rfl, rfl⟩

end Go.Proofs.YtacknedekhpklaaGreat.Siv

namespace Go.Proofs.YtacknedekhpklaaGreat.Siv
set_option maxRecDepth 100000
set_option linter.unusedSimpArgs false
set_option linter.unusedVariables false
open Go.RowKit

/-- A filter. -/
abbrev flt (A : Option Addr) (n c : Nat) (s : Int) : Value := .agg #[.slice A n c, .int .i64 s]
def wds (l : List UInt64) : List Value := l.map u64v
def hsh (l : List UInt32) : List Value := l.map u32v

/-- A filter in a block of its own. -/
def Bx (w : World) (g : Nat) (A : Option Addr) (n c : Nat) (s : Int) : Prop := w.heap[g]? = some (.cells #[.slice A n c, .int .i64 s] 30 (0, 0))
section
variable {w w' : World} {g : Nat} {A : Option Addr} {n c : Nat} {s : Int}
theorem Bx.new (w : World) (A : Option Addr) (n c : Nat) (s : Int) : Bx (w.alloc (.cells #[.slice A n c, .int .i64 s] 30)) w.heap.size A n c s := heap_alloc_new _ _
theorem Bx.c0 (h : Bx w g A n c s) : w.cell? ⟨g, 0, none⟩ = some (.slice A n c) := cell_of_row w g 0 _ _ _ h
theorem Bx.c1 (h : Bx w g A n c s) : w.cell? ⟨g, 1, none⟩ = some (.int .i64 s) := cell_of_row w g 1 _ _ _ h
theorem Bx.f0 (h : Bx w g A n c s) (j : Nat) : w.frozen? ⟨g, j, none⟩ = false := frozen_of_row w g j _ _ h
theorem Bx.lt (h : Bx w g A n c s) : g < w.heap.size := by
  rcases Nat.lt_or_ge g w.heap.size with hlt | hge
  · exact hlt
  · have h' : w.heap[g]? = _ := h
    rw [Array.getElem?_eq_none hge] at h'; cases h'
theorem Bx.below (h : Bx w g A n c s) (hb : Below w.heap.size w w') : Bx w' g A n c s := (hb.block g h.lt).trans h
end
theorem cell_below {w w' : World} (hb : Below w.heap.size w w') {a : Addr} {u : Value} (h : w.cell? a = some u) : w'.cell? a = some u := (hb.cell (World.block_lt_of_cell? w _ h)).trans h
theorem cell_alloc {w : World} {a : Addr} {u : Value} (h : w.cell? a = some u) (o : Obj) : (w.alloc o).cell? a = some u := by
  rw [World.cell?_alloc_lt w _ _ (World.block_lt_of_cell? w _ h)]; exact h

theorem right_any (A : Option Addr) (n c : Nat) (s : Int) (w : World) (hn : n ≤ 9223372036854775807) :
    Calls Tryz.prog 152 #[flt A n c s] w fun e w' => e = .returned (.int .i64 (if formB n s then 0 else 20)) ∧ Below w.heap.size w w' := by
  cases hf : formB n s
  all_goals
    have HF := Lib.hid hf
    clear hf
    go_enter Tryz.func152, Tryz.ntmps152
    go_wp2_with (go_at_call 203; refine (isForm_any n s _ (by omega)).mono ?_; rw [HF.out]; rintro e w' ⟨rfl, rfl⟩)
    go_ret
    exact ⟨rfl, (Below.refl _ _).alloc (Nat.le_refl _) _⟩

def idx (n : Nat) (h : UInt32) : Nat := h.toNat / 64 % n
def msk (s : Nat) (h : UInt32) : UInt64 := bit (h.toNat % 64) ||| bit (h.toNat / 2 ^ s % 64)
theorem bit_wrap (a : Nat) (h : a < 64) : IntKind.u64.wrap (2 ^ a) = ((bit a).toNat : Int) := by
  rw [bit_val a h, IntKind.wrap_u64]
  have := pow64 a h
  exact Int.emod_eq_of_lt (by omega) this.1
theorem or_bits (a b : Nat) (ha : a < 64) (hb : b < 64) : bits .or .u64 (IntKind.u64.wrap (2 ^ a)) (IntKind.u64.wrap (2 ^ b)) = ((bit a ||| bit b).toNat : Int) := by
  rw [bit_wrap a ha, bit_wrap b hb, bits_or_u64_nat _ _ (UInt64.toNat_lt _) (UInt64.toNat_lt _), UInt64.toNat_or]
theorem bitsOf_any (A : Option Addr) (n c s : Nat) (h : UInt32) (w : World) (h0 : 0 < n) (hn : n ≤ 9223372036854775807) (hs : s ≤ 31) :
    Calls Tryz.prog 206 #[flt A n c s, u32v h] w fun e w' => e = .returned (.tuple #[.int .i64 (idx n h : Nat), u64v (msk s h)]) ∧ Below w.heap.size w w' := by
  have h32 := h.toNat_lt
  have hq : (h.toNat : Int) / 2 ^ s = ((h.toNat / 2 ^ s : Nat) : Int) := by simp
  generalize hx : h.toNat / 2 ^ s = x at hq
  have HX := Lib.hid hx
  clear hx
  go_enter Tryz.func206, Tryz.ntmps206
  go_wp2
  go_region
  go_wp2
  go_ret2
  rw [or_bits _ _ (Nat.mod_lt _ (by omega)) (Nat.mod_lt _ (by omega)), ← HX.out]
  exact ⟨by simp [idx, msk], ((Below.refl _ _).alloc (Nat.le_refl _) _).drew⟩

theorem wds_len (l : List UInt64) : (wds l).length = l.length := by simp [wds]
/-- The word at a place. -/
def wd (l : List UInt64) (i : Nat) : UInt64 := l.getD i 0
theorem wds_get (l : List UInt64) (i : Nat) (hi : i < l.length) : (wds l)[i]? = some (u64v (wd l i)) := by
  simp [wds, wd, hi]
theorem wds_one (l : List UInt64) : ∀ u ∈ wds l, u.oneCell' = true := by
  intro u hu
  simp only [wds, List.mem_map] at hu
  obtain ⟨b, _, rfl⟩ := hu
  rfl
theorem idx_lt (n : Nat) (h : UInt32) (h0 : 0 < n) : idx n h < n := Nat.mod_lt _ h0
theorem form_pos {n : Nat} {s : Int} (h : formB n s = true) : 0 < n ∧ n ≤ 64 ∧ 1 ≤ s ∧ s ≤ 31 := by
  simp only [formB, pow7, Bool.and_eq_true, decide_eq_true_eq] at h
  omega
def lacksB (l : List UInt64) (s : Int) (h : UInt32) : Bool := formB l.length s && ((wd l (idx l.length h) &&& msk s.toNat h) != msk s.toNat h)
theorem and_ne (x m : UInt64) : (bits .and .u64 (x.toNat : Int) (m.toNat : Int) != (m.toNat : Int)) = ((x &&& m) != m) := by
  have h1 := x.toNat_lt
  have h2 := m.toNat_lt
  rw [bits_and_u64_nat _ _ h1 h2, ← UInt64.toNat_and, Bool.eq_iff_iff]
  simp only [bne_iff_ne, ne_eq, ← UInt64.toNat_inj]
  omega

theorem lacks_any (P : Nat → Prop) (A : Option Addr) (c : Nat) (l : List UInt64) (s : Int) (h : UInt32) (w : World) (hx : Src w P A l.length c (wds l)) (hn : l.length ≤ 9223372036854775807) :
    Calls Tryz.prog 158 #[flt A l.length c s, u32v h] w fun e w' => e = .returned (.bool (lacksB l s h)) ∧ Below w.heap.size w w' := by
  cases hf : formB l.length s
  · have HF := Lib.hid hf
    clear hf
    go_enter Tryz.func158, Tryz.ntmps158
    go_wp2_with (go_at_call 152; refine (right_any A _ c s _ hn).mono ?_; rw [HF.out]; rintro e w1 ⟨rfl, hb1⟩)
    go_ret
    have hl : lacksB l s h = false := by simp [lacksB, HF.out]
    rw [hl]
    exact ⟨rfl, ((Below.refl _ _).alloc (Nat.le_refl _) _).trans (hb1.mono (by simp))⟩
  · obtain ⟨p0, p1, p2, p3⟩ := form_pos hf
    obtain ⟨s, rfl⟩ : ∃ k : Nat, s = k := ⟨s.toNat, by omega⟩
    have HF := Lib.hid hf
    have HX := Lib.hid hx.lt
    clear hf hx
    have hi := idx_lt l.length h p0
    cases A with
    | none => have := (HX.out.nil rfl).1; omega
    | some ad =>
      have hc0 := HX.out.at_ ad rfl _ _ (wds_get l _ hi)
      have HBX := Lib.hid (Bx.new w (some ad) l.length c s)
      have HC := Lib.hid (hc0)
      clear hc0
      go_enter Tryz.func158, Tryz.ntmps158
      go_wp2_with (first
        | (go_at_call 152; refine (right_any (some ad) _ c s _ hn).mono ?_; rw [HF.out]; rintro e w1 ⟨rfl, hb1⟩; have HB1 := Lib.hid hb1; have HBX1 := Lib.hid (HBX.out.below hb1); have k0 := HBX1.out.c0; have k1 := HBX1.out.c1; clear hb1)
        | (go_at_call 206; refine (bitsOf_any (some ad) l.length c s h _ p0 hn (by omega)).mono ?_; rintro e w2 ⟨rfl, hb2⟩; have HB2 := Lib.hid hb2; have HBX2 := Lib.hid (HBX1.out.below hb2); have k2 := HBX2.out.c0; have k3 := HBX2.out.c1; have k4 := (((cell_below hb2 (cell_below HB1.out (cell_alloc HC.out _))))); clear hb2 k0 k1))
      go_ret
      rw [and_ne]
      have hl : lacksB l s h = ((wd l (idx l.length h) &&& msk s h) != msk s h) := by simp [lacksB, HF.out]
      rw [hl]
      exact ⟨rfl, (((Below.refl _ _).alloc (Nat.le_refl _) _).trans (HB1.out.mono (by simp))).trans (HB2.out.mono (by have := HB1.out.size; simp at this; omega))⟩

theorem rRight_any (A : Option Addr) (n c : Nat) (s : Int) (w : World) :
    Calls Tryz.prog 87 #[flt A n c s] w fun e w' => e = .returned (.bool (formB n s)) ∧ Below w.heap.size w w' := by
  cases hp : pow7 n
  · have HP := Lib.hid hp
    have hf : formB n s = false := by simp [formB, hp]
    rw [hf]
    clear hp hf
    go_enter Tryz.func87, Tryz.ntmps87
    go_wp2_with (go_at_call 169; refine (rWords_any n _).mono ?_; rw [HP.out]; rintro e w' ⟨rfl, rfl⟩)
    go_ret
    exact ⟨rfl, (Below.refl _ _).alloc (Nat.le_refl _) _⟩
  · have HP := Lib.hid hp
    have hf : formB n s = (decide (1 ≤ s) && decide (s ≤ 31)) := by simp [formB, hp]
    rw [hf]
    clear hp hf
    by_cases h1 : 1 ≤ s
    · go_enter Tryz.func87, Tryz.ntmps87
      go_wp2_with (go_at_call 169; refine (rWords_any n _).mono ?_; rw [HP.out]; rintro e w' ⟨rfl, rfl⟩)
      go_ret
      exact ⟨by simp [h1], (Below.refl _ _).alloc (Nat.le_refl _) _⟩
    · go_enter Tryz.func87, Tryz.ntmps87
      go_wp2_with (go_at_call 169; refine (rWords_any n _).mono ?_; rw [HP.out]; rintro e w' ⟨rfl, rfl⟩)
      go_ret
      have h3 : decide (1 ≤ s) = false := by simpa using h1
      rw [h3]
      exact ⟨rfl, (Below.refl _ _).alloc (Nat.le_refl _) _⟩

theorem testBit_bit (a i : Nat) (ha : a < 64) : (bit a).toNat.testBit i = decide (a = i) := by
  rw [bit_nat a ha, Nat.testBit_two_pow]
theorem lacks_two (x : UInt64) (a b : Nat) (ha : a < 64) (hb : b < 64) : ((x &&& (bit a ||| bit b)) != (bit a ||| bit b)) = (!has x a || !has x b) := by
  have e : ((x &&& (bit a ||| bit b)) == (bit a ||| bit b)) = (has x a && has x b) := by
    rw [Bool.eq_iff_iff]
    simp only [beq_iff_eq, Bool.and_eq_true, ← UInt64.toNat_inj, UInt64.toNat_and, UInt64.toNat_or, has]
    constructor
    · intro h
      have h1 := congrArg (fun z => z.testBit a) h
      have h2 := congrArg (fun z => z.testBit b) h
      simp only [Nat.testBit_and, Nat.testBit_or, testBit_bit _ _ ha, testBit_bit _ _ hb, decide_true, Bool.true_or, Bool.or_true, Bool.and_true] at h1 h2
      exact ⟨h1, h2⟩
    · rintro ⟨h1, h2⟩
      apply Nat.eq_of_testBit_eq
      intro i
      simp only [Nat.testBit_and, Nat.testBit_or, testBit_bit _ _ ha, testBit_bit _ _ hb]
      by_cases e1 : a = i
      · subst e1; simp [h1]
      · by_cases e2 : b = i
        · subst e2; simp [h2]
        · simp [e1, e2]
  rw [bne, e]
  cases has x a <;> cases has x b <;> rfl

theorem rshifted_nat (h : UInt32) (s x : Nat) (w : World) (hs : s ≤ 31) (hx : h.toNat / 2 ^ s = x) :
    Calls Tryz.prog 55 #[u32v h, .int .i64 (s : Int)] w fun e w' => e = .returned (u32n x) ∧ w = w' := by
  have := rshifted_any h (s : Int) w (by omega) (by omega)
  rw [show ((s : Int).toNat) = s by simp, hx] at this
  exact this
theorem rLacks_any (P : Nat → Prop) (A : Option Addr) (c : Nat) (l : List UInt64) (s : Int) (h : UInt32) (w : World) (hx : Src w P A l.length c (wds l)) (hn : l.length ≤ 9223372036854775807) :
    Calls Tryz.prog 91 #[flt A l.length c s, u32v h] w fun e w' => e = .returned (.bool (lacksB l s h)) ∧ Below w.heap.size w w' := by
  cases hf : formB l.length s
  · have HF := Lib.hid hf
    clear hf
    go_enter Tryz.func91, Tryz.ntmps91
    go_wp2_with (go_at_call 87; refine (rRight_any A _ c s _).mono ?_; rw [HF.out]; rintro e w1 ⟨rfl, hb1⟩)
    go_ret
    have hl : lacksB l s h = false := by simp [lacksB, HF.out]
    rw [hl]
    exact ⟨rfl, ((Below.refl _ _).alloc (Nat.le_refl _) _).trans (hb1.mono (by simp))⟩
  · obtain ⟨p0, p1, p2, p3⟩ := form_pos hf
    obtain ⟨s, rfl⟩ : ∃ k : Nat, s = k := ⟨s.toNat, by omega⟩
    have HF := Lib.hid hf
    have HX := Lib.hid hx.lt
    clear hf hx
    have hi := idx_lt l.length h p0
    have h32 := h.toNat_lt
    have hma : (h.toNat : Int) % 64 = ((h.toNat % 64 : Nat) : Int) := by simp
    generalize hxa : h.toNat % 64 = a at hma
    have ha : a < 64 := by omega
    have hx2 : h.toNat / 2 ^ s ≤ h.toNat := Nat.div_le_self _ _
    generalize hxx : h.toNat / 2 ^ s = x at hx2
    have hmb : (x : Int) % 64 = ((x % 64 : Nat) : Int) := by simp
    generalize hxb : x % 64 = b at hmb
    have hb : b < 64 := by omega
    have HS := Lib.hid (fun w : World => rshifted_nat h s x w (by omega) hxx)
    have HXX := Lib.hid hxx
    clear hxx
    have HXA := Lib.hid hxa
    have HXB := Lib.hid hxb
    clear hxa hxb
    have hix : (h.toNat : Int) / 64 % (l.length : Int) = (idx l.length h : Nat) := by simp [idx]
    cases A with
    | none => have := (HX.out.nil rfl).1; omega
    | some ad =>
      have hc0 := HX.out.at_ ad rfl _ _ (wds_get l _ hi)
      have HBX := Lib.hid (Bx.new w (some ad) l.length c s)
      have HC := Lib.hid (hc0)
      clear hc0
      go_enter Tryz.func91, Tryz.ntmps91
      go_wp2_with (first
        | (go_at_call 87; refine (rRight_any (some ad) _ c s _).mono ?_; rw [HF.out]; rintro e w1 ⟨rfl, hb1⟩; have HB1 := Lib.hid hb1; have HBX1 := Lib.hid (HBX.out.below hb1); have k0 := HBX1.out.c0; have k1 := HBX1.out.c1; have k4 := cell_below HB1.out (cell_alloc HC.out _); clear hb1))
      go_region
      clear hix k4 HC
      go_wp2_with (first
        | (go_at_call 140; refine (rhas_any (wd l (idx l.length h)) _ _ (by assumption)).mono ?_; rintro e w' ⟨rfl, rfl⟩)
        | (go_at_call 55; refine (HS.out _).mono ?_; rintro e w' ⟨rfl, rfl⟩))
      all_goals
        go_ret
        have hl : lacksB l s h = (!has (wd l (idx l.length h)) a || !has (wd l (idx l.length h)) b) := by
          have e : msk (s : Int).toNat h = bit a ||| bit b := by
            rw [← HXA.out, ← HXB.out, ← HXX.out]
            rfl
          rw [← lacks_two _ _ _ ha hb, lacksB, HF.out, e]
          rfl
        refine ⟨?_, (((Below.refl _ _).alloc (Nat.le_refl _) _).trans (HB1.out.mono (by simp))).drew⟩
      · have h1 : has (wd l (idx l.length h)) a = true := by assumption
        rw [hl, h1]
        rfl
      · have h1 : has (wd l (idx l.length h)) a = false := by have h1 : ¬has (wd l (idx l.length h)) a = true := by assumption
                                                              simpa using h1
        rw [hl, h1]
        rfl
end Go.Proofs.YtacknedekhpklaaGreat.Siv

namespace Go.Proofs.YtacknedekhpklaaGreat.Siv
set_option maxRecDepth 100000
set_option linter.unusedSimpArgs false
set_option linter.unusedVariables false
open Go.RowKit

def setW (s : Nat) (l : List UInt64) (h : UInt32) : List UInt64 := l.set (idx l.length h) (wd l (idx l.length h) ||| msk s h)
def setAll (s : Nat) (l : List UInt64) (hs : List UInt32) : List UInt64 := hs.foldl (setW s) l
theorem setW_len (s : Nat) (l : List UInt64) (h : UInt32) : (setW s l h).length = l.length := by simp [setW]
theorem setAll_len (s : Nat) (l : List UInt64) (hs : List UInt32) : (setAll s l hs).length = l.length := by
  induction hs generalizing l with
  | nil => rfl
  | cons h hs ih => exact (ih (setW s l h)).trans (setW_len s l h)
theorem setAll_take (s : Nat) (l : List UInt64) (hs : List UInt32) (k : Nat) (hk : k < hs.length) : setAll s l (hs.take (k + 1)) = setW s (setAll s l (hs.take k)) hs[k] := by
  unfold setAll
  rw [List.take_succ_eq_append_getElem hk, List.foldl_append]
  rfl
theorem wds_set (l : List UInt64) (i : Nat) (x : UInt64) : wds (l.set i x) = (wds l).set i (u64v x) := by simp [wds]
theorem hsh_get (hs : List UInt32) (k : Nat) (hk : k < hs.length) : (hsh hs)[k]? = some (u32v hs[k]) := by simp [hsh, hk]

theorem own_some {w : World} {B : Nat} {e : TypeId} {A : Option Addr} {n c : Nat} {xs : List Value} (h : w.ownsRow B e 1 (.slice A n c) n xs) (h0 : 0 < n) : ∃ g, A = some ⟨g, 0, none⟩ ∧ B ≤ g ∧ g < w.heap.size := by
  rcases h.2 with ⟨_, hn⟩ | ⟨g, cap, cur, hv, hb, hg, _⟩
  · omega
  · injection hv with h1
    exact ⟨g, h1, hb, (Array.getElem?_eq_some_iff.1 hg).1⟩
theorem own_below {w w' : World} {B : Nat} {e : TypeId} {v : Value} {n : Nat} {xs : List Value} (h : w.ownsRow B e 1 v n xs) (hb : Below w.heap.size w w') : w'.ownsRow B e 1 v n xs :=
  h.kept (row := none) ⟨hb.os, hb.tape, hb.output, hb.size, fun k hk _ => hb.block k hk⟩ (by cases v.ownBlock <;> simp)
theorem Bx.setCell {w : World} {g : Nat} {A : Option Addr} {n c : Nat} {s : Int} (h : Bx w g A n c s) {a : Addr} (ha : g ≠ a.block) (u : Value) : Bx (w.setCell a u) g A n c s := (Below.heap_setCell w a u g ha).trans h

theorem grow_below {a b : World} (h : Below a.heap.size a b) (r : Option Nat) : a.grownBy b r := ⟨h.os, h.tape, h.output, h.size, fun k hk _ => h.block k hk⟩
theorem Bx.grown {w w' : World} {g : Nat} {A : Option Addr} {n c : Nat} {s : Int} {r : Option Nat} (h : Bx w g A n c s) (hg : w.grownBy w' r) (hr : some g ≠ r) : Bx w' g A n c s := (hg.block g h.lt hr).trans h
theorem Bx.over {w : World} {g : Nat} {A : Option Addr} {n c : Nat} {s : Int} (h : Bx w g A n c s) (A' : Option Addr) (n' c' : Nat) (s' : Int) : Bx ((w.setCell ⟨g, 0, none⟩ (.slice A' n' c')).setCell ⟨g, 1, none⟩ (.int .i64 s')) g A' n' c' s' := by
  have h1 := heap_setCell_same w g 0 _ _ (.slice A' n' c') h
  exact heap_setCell_same _ g 1 _ _ (.int .i64 s') h1
/-- Are the filters the same? -/
def sameB (l m : List UInt64) (s t : Int) : Bool := decide (s = t ∧ l = m)
end Go.Proofs.YtacknedekhpklaaGreat.Siv

namespace Go.Proofs.YtacknedekhpklaaGreat.Siv
set_option maxRecDepth 100000
set_option linter.unusedSimpArgs false
set_option linter.unusedVariables false
open Go.RowKit

theorem Tryz.info_word : (Tryz.prog.info? 67).map (fun i => (i.zero, i.size, i.bytes)) = some (some (.int .u64 0), 1, 8) := by kernel_rfl

/-- A new filter with these words. -/
def Made (w : World) (l : List UInt64) (s : Int) (e : Ending) (w' : World) : Prop :=
  ∃ A c, e = .returned (.tuple #[flt A l.length c s, .int .i64 0]) ∧ w'.ownsRow w.heap.size 67 1 (.slice A l.length c) l.length (wds l) ∧ Below w.heap.size w w'
/-- No filter. -/
def NoF (w : World) (e : Ending) (w' : World) : Prop := e = .returned (.tuple #[flt none 0 0 0, .int .i64 20]) ∧ Below w.heap.size w w'
def blank (n : Nat) : List UInt64 := List.replicate n 0
theorem made_blank (n : Nat) : (madeCells (Value.int .u64 0).cells (n * 1)).toList = wds (blank n) := by
  apply List.ext_getElem
  · simp [madeCells, wds, blank]
  · intro i h1 h2
    simp [madeCells, wds, blank, Value.cells, Nat.mod_one]

end Go.Proofs.YtacknedekhpklaaGreat.Siv

namespace Go.Proofs.YtacknedekhpklaaGreat.Siv
set_option maxRecDepth 100000
set_option linter.unusedSimpArgs false
set_option linter.unusedVariables false
open Go.RowKit

/-- A new row with these words; all else is as it was. -/
def Cloned (w : World) (n : Nat) (l : List UInt64) (e : Ending) (w' : World) : Prop :=
  ∃ A' c', e = .returned (.slice A' n c') ∧ w'.ownsRow w.heap.size 67 1 (.slice A' n c') n (wds l) ∧ Below w.heap.size w w'

/-- A new filter with these words, handed back alone. -/
def Copied (w : World) (n : Nat) (l : List UInt64) (s : Int) (e : Ending) (w' : World) : Prop :=
  ∃ A c, e = .returned (flt A n c s) ∧ w'.ownsRow w.heap.size 67 1 (.slice A n c) n (wds l) ∧ Below w.heap.size w w'

/-- An argument's box and a result's. -/
theorem two_boxes (w : World) (A : Option Addr) (n c : Nat) (s : Int) :
    Bx ((w.alloc (.cells #[.slice A n c, .int .i64 s] 30)).alloc (.cells #[.slice none 0 0, .int .i64 0] 30)) w.heap.size A n c s ∧
    Bx ((w.alloc (.cells #[.slice A n c, .int .i64 s] 30)).alloc (.cells #[.slice none 0 0, .int .i64 0] 30)) (w.heap.size + 1) none 0 0 0 ∧
    Below w.heap.size w ((w.alloc (.cells #[.slice A n c, .int .i64 s] 30)).alloc (.cells #[.slice none 0 0, .int .i64 0] 30)) ∧
    ((w.alloc (.cells #[.slice A n c, .int .i64 s] 30)).alloc (.cells #[.slice none 0 0, .int .i64 0] 30)).heap.size = w.heap.size + 2 := by
  refine ⟨(Bx.new w A n c s).below ((Below.refl _ _).alloc (Nat.le_refl _) _), ?_, ((Below.refl _ _).alloc (Nat.le_refl _) _).alloc (by simp) _, by simp⟩
  have := Bx.new (w.alloc (.cells #[.slice A n c, .int .i64 s] 30)) none 0 0 0
  simpa using this

end Go.Proofs.YtacknedekhpklaaGreat.Siv
