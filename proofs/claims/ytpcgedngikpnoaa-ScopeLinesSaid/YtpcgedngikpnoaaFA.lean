/-
  What hashes are, and the leaf functions of package sieve and of the document's own answer that hash names.
-/
import Derived.Test.YtpcgedngikpnoaaRows
import Derived.WalkKit
import Derived.Lib.Hide
import Derived.WalkSpells
import Derived.Deep.Draws
import Derived.Deep.QuietTactic
import Derived.BigQuiet
import Derived.Laws.BitsAllLaws
import Derived.Laws.Bits64
namespace Go.Proofs.Ytpcgedngikpnoaa.Siv
set_option maxRecDepth 100000
set_option linter.unusedSimpArgs false
set_option linter.unusedVariables false
open Go.RowKit

abbrev u32v (x : UInt32) : Value := .int .u32 (x.toNat : Int)
abbrev u32n (k : Nat) : Value := .int .u32 (k : Int)
abbrev u64v (x : UInt64) : Value := .int .u64 (x.toNat : Int)
def step (h : UInt32) (b : UInt8) : UInt32 := h * 33 + b.toUInt32
def hashFrom (h : UInt32) (l : List UInt8) : UInt32 := l.foldl step h
theorem hashFrom_take (h : UInt32) (l : List UInt8) (k : Nat) (hk : k < l.length) : hashFrom h (l.take (k + 1)) = step (hashFrom h (l.take k)) l[k] := by
  unfold hashFrom
  rw [List.take_succ_eq_append_getElem hk, List.foldl_append]
  rfl
theorem hashFrom_app (h : UInt32) (a b : List UInt8) : hashFrom h (a ++ b) = hashFrom (hashFrom h a) b := by
  simp [hashFrom]

theorem step_val (h : UInt32) (b : UInt8) : ((step h b).toNat : Int) = (((h.toNat : Int) * 33 % 4294967296 + (b.toNat : Int) % 4294967296) % 4294967296) := by
  simp [step]
theorem step_eq (h : UInt32) (b : UInt8) : Value.int .u32 (((h.toNat : Int) * 33 % 4294967296 + (b.toNat : Int) % 4294967296) % 4294967296) = u32v (step h b) := by rw [u32v, step_val]
theorem more_any (h : UInt32) (s : ByteArray) (w : World) (hs : s.size ≤ 9223372036854775807) :
    Calls Try.prog 58 #[u32v h, .string s] w fun e w' => e = .returned (u32v (hashFrom h s.data.toList)) ∧ w = w' := by
  go_enter Try.func58, Try.ntmps58
  go_wp2
  go_loop [0, 5, 8] (fun t _ i => ∃ k : Nat, k ≤ s.size ∧ i = .int .i64 k ∧ t = u32v (hashFrom h (s.data.toList.take k))) (fun _ _ i => s.size - (intOf i).toNat)
  case atStart => exact ⟨0, Nat.zero_le _, rfl, rfl⟩
  case round =>
    obtain ⟨k, hk, rfl, rfl⟩ := hrel
    go_wp2
    · have hlt : k < s.size := by assumption
      go_round
      case rel => exact ⟨k + 1, by omega, by go_num, by rw [hashFrom_take h _ k (by simpa using hlt)]; exact step_eq _ _⟩
      case measure => simp [intOf]; omega
    · obtain rfl : k = s.size := by omega
      go_ret
      rw [List.take_of_length_le (by simp)]
      exact ⟨rfl, rfl⟩

theorem hash_any (s : ByteArray) (w : World) (hs : s.size ≤ 9223372036854775807) :
    Calls Try.prog 45 #[.string s] w fun e w' => e = .returned (u32v (hashFrom 5381 s.data.toList)) ∧ w = w' := by
  go_enter Try.func45, Try.ntmps45
  go_wp2_with (go_at_call 58; refine (more_any 5381 s _ hs).mono ?_; rintro e w' ⟨rfl, rfl⟩)
  go_ret
  exact ⟨rfl, rfl⟩

theorem rmore_any (h : UInt32) (s : ByteArray) (w : World) (hs : s.size ≤ 9223372036854775807) :
    Calls Try.prog 41 #[u32v h, .string s] w fun e w' => e = .returned (u32v (hashFrom h s.data.toList)) ∧ w = w' := by
  have h0 := h.toNat_lt
  go_enter Try.func41, Try.ntmps41
  go_wp2
  go_loop [5, 6] (fun t i => ∃ k : Nat, k ≤ s.size ∧ i = .int .i64 k ∧ t = .int .u64 ((hashFrom h (s.data.toList.take k)).toNat : Int)) (fun _ i => s.size - (intOf i).toNat)
  case atStart => exact ⟨0, Nat.zero_le _, rfl, by simp [hashFrom]⟩
  case round =>
    obtain ⟨k, hk, rfl, rfl⟩ := hrel
    have h32 := (hashFrom h (s.data.toList.take k)).toNat_lt
    have h8 : ∀ hk : k < s.size, s[k].toNat < 256 := fun hk => s[k].toNat_lt
    go_wp2
    · have hlt : k < s.size := by assumption
      go_round
      case rel => exact ⟨k + 1, by omega, by go_num, by rw [hashFrom_take h _ k (by simpa using hlt), step_val]; have := h8 hlt; have e : s.data.toList[k]'(by simpa using hlt) = s[k] := rfl; rw [e]; congr 1; rw [IntKind.wrap_u64, IntKind.wrap_u64, tmod_of_emod]; omega⟩
      case measure => simp [intOf]; omega
    · obtain rfl : k = s.size := by omega
      go_ret
      rw [List.take_of_length_le (by simp)]
      exact ⟨rfl, rfl⟩

theorem rhash_any (s : ByteArray) (w : World) (hs : s.size ≤ 9223372036854775807) :
    Calls Try.prog 26 #[.string s] w fun e w' => e = .returned (u32v (hashFrom 5381 s.data.toList)) ∧ w = w' := by
  go_enter Try.func26, Try.ntmps26
  go_wp2_with (go_at_call 41; refine (rmore_any 5381 s _ hs).mono ?_; rintro e w' ⟨rfl, rfl⟩)
  go_ret
  exact ⟨rfl, rfl⟩

/-! Bits of words. -/
def bit (k : Nat) : UInt64 := UInt64.ofNat (2 ^ k)
theorem pow64 (k : Nat) (hk : k < 64) : (2 : Int) ^ k < 18446744073709551616 ∧ 1 ≤ (2 : Int) ^ k := by
  have h1 : (2 : Nat) ^ k < 2 ^ 64 := Nat.pow_lt_pow_right (by omega) hk
  have h2 : 1 ≤ (2 : Nat) ^ k := Nat.one_le_two_pow
  have e : ((2 ^ k : Nat) : Int) = (2 : Int) ^ k := by simp
  omega
theorem bit_val (k : Nat) (hk : k < 64) : ((bit k).toNat : Int) = 2 ^ k := by
  have : (2 : Nat) ^ k < 2 ^ 64 := Nat.pow_lt_pow_right (by omega) hk
  have e : ((2 ^ k : Nat) : Int) = (2 : Int) ^ k := by simp
  rw [← e, bit, UInt64.toNat_ofNat', Nat.mod_eq_of_lt this]
theorem power_any (k : Nat) (w : World) (hk : k < 64) :
    Calls Try.prog 57 #[u32n k] w fun e w' => e = .returned (u64v (bit k)) ∧ w = w' := by
  go_enter Try.func57, Try.ntmps57
  go_wp2
  go_loop [3, 4] (fun t i => ∃ j : Nat, j ≤ k ∧ i = .int .u32 (j : Int) ∧ t = u64v (bit j)) (fun _ i => k - (intOf i).toNat)
  case atStart => exact ⟨0, Nat.zero_le _, rfl, rfl⟩
  case round =>
    obtain ⟨j, hj, rfl, rfl⟩ := hrel
    go_wp2
    · have hlt : j < k := by assumption
      go_round
      case rel => exact ⟨j + 1, by omega, by go_num, by rw [u64v, bit_val (j + 1) (by omega), bit_val j (by omega), IntKind.wrap_u64]; have := pow64 (j + 1) (by omega); congr 1; omega⟩
      case measure => simp [intOf]; omega
    · obtain rfl : j = k := by omega
      go_ret
      exact ⟨rfl, rfl⟩

theorem bit_nat (k : Nat) (hk : k < 64) : (bit k).toNat = 2 ^ k := by
  have := bit_val k hk
  have e : ((2 ^ k : Nat) : Int) = (2 : Int) ^ k := by simp
  omega
def has (x : UInt64) (k : Nat) : Bool := x.toNat.testBit k
theorem has_val (x : UInt64) (k : Nat) (hk : k < 64) : ((IntKind.u64.wrap ((x.toNat : Int) / ((bit k).toNat : Int))).tmod 2 == 1) = has x k := by
  rw [bit_nat k hk, IntKind.wrap_u64, tmod_of_emod, has, Nat.testBit_eq_decide_div_mod_eq]
  have h := x.toNat_lt
  have hd : x.toNat / 2 ^ k ≤ x.toNat := Nat.div_le_self _ _
  have e : (x.toNat : Int) / ((2 ^ k : Nat) : Int) = ((x.toNat / 2 ^ k : Nat) : Int) := by simp
  rw [e, Bool.eq_iff_iff]
  simp only [beq_iff_eq, decide_eq_true_eq]
  omega
theorem rhas_any (x : UInt64) (k : Nat) (w : World) (hk : k < 64) :
    Calls Try.prog 43 #[u64v x, u32n k] w fun e w' => e = .returned (.bool (has x k)) ∧ w = w' := by
  have hb := Lib.hid (has_val x k hk)
  have h1 : (1 : Int) ≤ ((bit k).toNat : Int) := by rw [bit_val k hk]; exact (pow64 _ hk).2
  have h2 := x.toNat_lt
  go_enter Try.func43, Try.ntmps43
  go_wp2_with (go_at_call 57; refine (power_any k _ hk).mono ?_; rintro e w' ⟨rfl, rfl⟩)
  go_ret
  rw [← hb.out]
  exact ⟨rfl, rfl⟩

theorem or_bit (x : UInt64) (k : Nat) (hk : k < 64) (h : has x k = true) : x ||| bit k = x := by
  apply UInt64.toNat_inj.1
  rw [UInt64.toNat_or, bit_nat k hk]
  apply Nat.eq_of_testBit_eq
  intro i
  rw [Nat.testBit_or, Nat.testBit_two_pow]
  by_cases hi : k = i
  · subst hi; rw [show x.toNat.testBit k = true from h]; rfl
  · simp [hi]
theorem add_bit (x : UInt64) (k : Nat) (hk : k < 64) (h : has x k = false) : x ||| bit k = x + bit k := by
  apply UInt64.toBitVec_inj.1
  rw [UInt64.toBitVec_or, UInt64.toBitVec_add, BitVec.add_eq_or_of_and_eq_zero]
  apply BitVec.eq_of_toNat_eq
  rw [BitVec.toNat_and]
  show x.toNat &&& (bit k).toNat = 0
  rw [bit_nat k hk, nat_bit]
  rw [has, Nat.testBit_eq_decide_div_mod_eq] at h
  have : ¬ (x.toNat / 2 ^ k % 2 = 1) := by simpa using h
  have : x.toNat / 2 ^ k % 2 = 0 := by omega
  rw [this]
  simp
theorem rwith_any (x : UInt64) (k : Nat) (w : World) (hk : k < 64) :
    Calls Try.prog 63 #[u64v x, u32n k] w fun e w' => e = .returned (u64v (x ||| bit k)) ∧ w = w' := by
  by_cases h : has x k = true
  · have H := Lib.hid h
    go_enter Try.func63, Try.ntmps63
    go_wp2_with (go_at_call 43; refine (rhas_any x k _ hk).mono ?_; rw [H.out]; rintro e w' ⟨rfl, rfl⟩)
    go_ret
    rw [or_bit x _ hk h]
    exact ⟨rfl, rfl⟩
  · have h' : has x k = false := by simpa using h
    have H := Lib.hid h'
    clear h h'
    go_enter Try.func63, Try.ntmps63
    go_wp2_with (first
      | (go_at_call 43; refine (rhas_any x k _ hk).mono ?_; rw [H.out]; rintro e w' ⟨rfl, rfl⟩)
      | (go_at_call 57; refine (power_any k _ hk).mono ?_; rintro e w' ⟨rfl, rfl⟩))
    go_ret
    have e : u64v (x + bit k) = Value.int .u64 (IntKind.u64.wrap ((x.toNat : Int) + ((bit k).toNat : Int))) := by
      rw [u64v, IntKind.wrap_u64, UInt64.toNat_add]
      congr 1
    rw [add_bit x _ hk H.out, e]
    exact ⟨rfl, rfl⟩

theorem half {a b : Nat} (hx : a / 2 ^ b < 4294967296) : Value.int .u32 (((a : Int) / 2 ^ b).tdiv 2 % 4294967296) = .int .u32 ((a / 2 ^ b / 2 : Nat) : Int) := by
  have e : (a : Int) / 2 ^ b = ((a / 2 ^ b : Nat) : Int) := by simp
  rw [e, Int.tdiv_eq_ediv_of_nonneg (Int.natCast_nonneg _)]
  generalize a / 2 ^ b = z at hx ⊢
  congr 1
  omega
theorem rshifted_any (h : UInt32) (s : Int) (w : World) (hs : 0 ≤ s) (hs2 : s ≤ 31) :
    Calls Try.prog 44 #[u32v h, .int .i64 s] w fun e w' => e = .returned (.int .u32 ((h.toNat / 2 ^ s.toNat : Nat) : Int)) ∧ w = w' := by
  have h32 := h.toNat_lt
  go_enter Try.func44, Try.ntmps44
  go_wp2
  go_loop [0, 5] (fun t i => ∃ j : Nat, j ≤ s.toNat ∧ i = .int .i64 (j : Int) ∧ t = .int .u32 ((h.toNat / 2 ^ j : Nat) : Int)) (fun _ i => s.toNat - (intOf i).toNat)
  case atStart => exact ⟨0, Nat.zero_le _, rfl, by simp⟩
  case round =>
    obtain ⟨j, hj, rfl, rfl⟩ := hrel
    have hd : h.toNat / 2 ^ j ≤ h.toNat := Nat.div_le_self _ _
    have hd' : h.toNat / 2 ^ j < 4294967296 := by omega
    have hn : (h.toNat / 2 ^ (j + 1) : Nat) = (h.toNat / 2 ^ j) / 2 := by rw [Nat.pow_succ, ← Nat.div_div_eq_div_mul]
    have HN := Lib.hid hn
    clear hn
    go_wp2
    · have hlt : (j : Int) < s := by assumption
      go_round
      case rel => exact ⟨j + 1, by omega, by go_num, by rw [HN.out]; exact half hd'⟩
      case measure => simp [intOf]; omega
    · obtain rfl : j = s.toNat := by omega
      go_ret
      exact ⟨rfl, rfl⟩

def pow7 (n : Int) : Bool := decide (n = 1 ∨ n = 2 ∨ n = 4 ∨ n = 8 ∨ n = 16 ∨ n = 32 ∨ n = 64)
def formB (n s : Int) : Bool := pow7 n && (decide (1 ≤ s) && decide (s ≤ 31))
theorem pow_all : ∀ k : Fin 65, 0 < k.val → (bits .and .i64 (k.val : Int) ((k.val : Int) - 1) == 0) = pow7 (k.val : Int) := by decide +kernel
theorem pow_and (n : Int) (h0 : 0 < n) (h1 : n ≤ 64) : (bits .and .i64 n (n - 1) == 0) = pow7 n := by
  have := pow_all ⟨n.toNat, by omega⟩ (by simp; omega)
  simpa [show ((n.toNat : Nat) : Int) = n by omega] using this
theorem pow_big (n : Int) (h : ¬ (0 < n ∧ n ≤ 64)) : pow7 n = false := by
  simp [pow7]
  omega
theorem isForm_any (n s : Int) (w : World) (hn : -9223372036854775808 ≤ n ∧ n ≤ 9223372036854775807) : Calls Try.prog 64 #[.int .i64 n, .int .i64 s] w fun e w' => e = .returned (.bool (formB n s)) ∧ w = w' := by
  by_cases h0 : 0 < n
  · by_cases h1 : n ≤ 64
    · have hb : (bits .and .i64 n (n - 1) == 0) = pow7 n := pow_and n h0 h1
      cases hp : pow7 n
      · rw [hp] at hb
        go_enter Try.func64, Try.ntmps64
        go_wp2
        go_ret
        simp [formB, hp]
      · rw [hp] at hb
        by_cases h2 : 1 ≤ s
        · go_enter Try.func64, Try.ntmps64
          go_wp2
          go_ret
          simp [formB, hp, h2]
        · go_enter Try.func64, Try.ntmps64
          go_wp2
          go_ret
          have h3 : decide (1 ≤ s) = false := by simpa using h2
          simp only [formB, h3]
          simp
    · have hp := Lib.hid (pow_big n (by omega))
      go_enter Try.func64, Try.ntmps64
      go_wp2
      all_goals
        go_ret
        simp [formB, hp.out]
  · have hp := Lib.hid (pow_big n (by omega))
    go_enter Try.func64, Try.ntmps64
    go_wp2
    go_ret
    simp [formB, hp.out]

theorem rWords_any (n : Int) (w : World) : Calls Try.prog 56 #[.int .i64 n] w fun e w' => e = .returned (.bool (pow7 n)) ∧ w = w' := by
  go_enter Try.func56, Try.ntmps56
  go_wp2
  go_loop [3] (fun t => (t = .int .i64 1) ∨ (t = .int .i64 2 ∧ n ≠ 1) ∨ (t = .int .i64 4 ∧ n ≠ 1 ∧ n ≠ 2) ∨ (t = .int .i64 8 ∧ n ≠ 1 ∧ n ≠ 2 ∧ n ≠ 4) ∨ (t = .int .i64 16 ∧ n ≠ 1 ∧ n ≠ 2 ∧ n ≠ 4 ∧ n ≠ 8) ∨ (t = .int .i64 32 ∧ n ≠ 1 ∧ n ≠ 2 ∧ n ≠ 4 ∧ n ≠ 8 ∧ n ≠ 16) ∨ (t = .int .i64 64 ∧ n ≠ 1 ∧ n ≠ 2 ∧ n ≠ 4 ∧ n ≠ 8 ∧ n ≠ 16 ∧ n ≠ 32) ∨ (t = .int .i64 128 ∧ n ≠ 1 ∧ n ≠ 2 ∧ n ≠ 4 ∧ n ≠ 8 ∧ n ≠ 16 ∧ n ≠ 32 ∧ n ≠ 64)) (fun t => 128 - (intOf t).toNat)
  case atStart => exact .inl rfl
  case round =>
    rcases hrel with rfl | ⟨rfl, n1⟩ | ⟨rfl, n1, n2⟩ | ⟨rfl, n1, n2, n4⟩ | ⟨rfl, n1, n2, n4, n8⟩ | ⟨rfl, n1, n2, n4, n8, n16⟩ | ⟨rfl, n1, n2, n4, n8, n16, n32⟩ | ⟨rfl, n1, n2, n4, n8, n16, n32, n64⟩
    · by_cases hp : n = 1
      · subst hp
        go_wp2
        go_ret
        exact ⟨rfl, rfl⟩
      · go_wp2
        go_round
        case rel => simp [hp]
        case measure => simp [intOf]
    · by_cases hp : n = 2
      · subst hp
        go_wp2
        go_ret
        exact ⟨rfl, rfl⟩
      · go_wp2
        go_round
        case rel => simp [hp, n1]
        case measure => simp [intOf]
    · by_cases hp : n = 4
      · subst hp
        go_wp2
        go_ret
        exact ⟨rfl, rfl⟩
      · go_wp2
        go_round
        case rel => simp [hp, n1, n2]
        case measure => simp [intOf]
    · by_cases hp : n = 8
      · subst hp
        go_wp2
        go_ret
        exact ⟨rfl, rfl⟩
      · go_wp2
        go_round
        case rel => simp [hp, n1, n2, n4]
        case measure => simp [intOf]
    · by_cases hp : n = 16
      · subst hp
        go_wp2
        go_ret
        exact ⟨rfl, rfl⟩
      · go_wp2
        go_round
        case rel => simp [hp, n1, n2, n4, n8]
        case measure => simp [intOf]
    · by_cases hp : n = 32
      · subst hp
        go_wp2
        go_ret
        exact ⟨rfl, rfl⟩
      · go_wp2
        go_round
        case rel => simp [hp, n1, n2, n4, n8, n16]
        case measure => simp [intOf]
    · by_cases hp : n = 64
      · subst hp
        go_wp2
        go_ret
        exact ⟨rfl, rfl⟩
      · go_wp2
        go_round
        case rel => simp [hp, n1, n2, n4, n8, n16, n32]
        case measure => simp [intOf]
    · go_wp2
      go_ret
      have : pow7 n = false := by simp [pow7, n1, n2, n4, n8, n16, n32, n64]
      rw [this]
      exact ⟨rfl, rfl⟩

end Go.Proofs.Ytpcgedngikpnoaa.Siv
