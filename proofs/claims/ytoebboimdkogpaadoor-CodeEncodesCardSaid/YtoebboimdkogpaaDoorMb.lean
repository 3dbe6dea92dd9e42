/-
  Bytes as plain functions: what is encoded is decoded as it was, and what is decoded is encoded as it stood.
-/
import Derived.Test.YtoebboimdkogpaaDoorS
import Derived.Test.YtoebboimdkogpaaDoorMa
namespace Go.Proofs.YtoebboimdkogpaaDoor
open Go.RowKit

theorem sum4 (q : Nat) (h : q < 4294967296) : q % 256 + q / 256 % 256 * 256 + q / 65536 % 256 * 65536 + q / 16777216 % 256 * 16777216 = q := by
  have e1 : q / 65536 = q / 256 / 256 := by rw [Nat.div_div_eq_div_mul]
  have e2 : q / 16777216 = q / 256 / 256 / 256 := by rw [Nat.div_div_eq_div_mul, Nat.div_div_eq_div_mul]
  rw [e1, e2]
  have h0 := Nat.div_add_mod q 256
  have h1 := Nat.div_add_mod (q / 256) 256
  have h2 := Nat.div_add_mod (q / 256 / 256) 256
  have h3 : q / 256 / 256 / 256 < 256 := by omega
  rw [Nat.mod_eq_of_lt h3]
  omega
theorem m4_bytes (n : Int) : (m4 (u8i n) (u8i (n % 4294967296 / 256)) (u8i (n % 4294967296 / 65536)) (u8i (n % 4294967296 / 16777216)) : Int) = n % 4294967296 := by
  obtain ⟨q, hq⟩ : ∃ q : Nat, n % 4294967296 = q := ⟨(n % 4294967296).toNat, by have := Int.emod_nonneg n (show (4294967296 : Int) ≠ 0 by decide); omega⟩
  have hlt : q < 4294967296 := by have := Int.emod_lt_of_pos n (show (0 : Int) < 4294967296 by decide); omega
  have h0 : n % 256 = (q : Int) % 256 := by rw [← hq, Int.emod_emod_of_dvd n (show (256 : Int) ∣ 4294967296 by decide)]
  have k0 : (u8i n).toNat = q % 256 := by have := u8i_val n; omega
  rw [hq]
  have k1 : (u8i ((q : Int) / 256)).toNat = q / 256 % 256 := by have := u8i_val ((q : Int) / 256); omega
  have k2 : (u8i ((q : Int) / 65536)).toNat = q / 65536 % 256 := by have := u8i_val ((q : Int) / 65536); omega
  have k3 : (u8i ((q : Int) / 16777216)).toNat = q / 16777216 % 256 := by have := u8i_val ((q : Int) / 16777216); omega
  unfold m4
  rw [k0, k1, k2, k3, sum4 q hlt]
theorem n4_bytes (n : Int) (h1 : -2147483648 ≤ n) (h2 : n ≤ 2147483647) : n4 (u8i n) (u8i (n % 4294967296 / 256)) (u8i (n % 4294967296 / 65536)) (u8i (n % 4294967296 / 16777216)) = n := by
  have h := m4_bytes n
  unfold n4
  generalize m4 (u8i n) (u8i (n % 4294967296 / 256)) (u8i (n % 4294967296 / 65536)) (u8i (n % 4294967296 / 16777216)) = m at *
  split <;> omega
theorem u8i_small (n : Int) (h1 : 0 ≤ n) (h2 : n < 256) : ((u8i n).toNat : Int) = n := by
  rw [u8i_val]
  omega
theorem insOf_bytes (i : Ins) (h : mayB i = true) : insOf (u8i i.op) (u8i i.a) (u8i i.b) (u8i i.c) (u8i i.n) (u8i (i.n % 4294967296 / 256)) (u8i (i.n % 4294967296 / 65536)) (u8i (i.n % 4294967296 / 16777216)) = i := by
  obtain ⟨k, hk, hop, _, ⟨a1, a2⟩, ⟨b1, b2⟩, ⟨c1, c2⟩, ⟨n1, n2⟩, _⟩ := may_parts h
  exact Ins.ext' (u8i_small _ (by omega) (by omega)) (u8i_small _ a1 (by omega)) (u8i_small _ b1 (by omega)) (u8i_small _ c1 (by omega)) (n4_bytes _ n1 n2)
theorem decI_enc : ∀ (is : List Ins), is.all mayB = true → decI (encL is) = is
  | [], _ => rfl
  | i :: is, h => by
    rw [List.all_cons, Bool.and_eq_true] at h
    have e : decI (encL (i :: is)) = insOf (u8i i.op) (u8i i.a) (u8i i.b) (u8i i.c) (u8i i.n) (u8i (i.n % 4294967296 / 256)) (u8i (i.n % 4294967296 / 65536)) (u8i (i.n % 4294967296 / 16777216)) :: decI (encL is) := rfl
    rw [e, insOf_bytes i h.1, decI_enc is h.2]
theorem decB_enc (is : List Ins) (h : is.all mayB = true) : decB (encL is) = true := by
  unfold decB
  rw [decI_enc is h, h, encL_len]
  simp
theorem enc_decI : ∀ (f : Nat) (b : Str), b.length ≤ f → b.length % 8 = 0 → encL (decI b) = b
  | 0, b, h, _ => by
    have : b = [] := List.eq_nil_of_length_eq_zero (by omega)
    subst this; rfl
  | f + 1, b, h, h8 => by
    by_cases hb : b.length = 0
    · have : b = [] := List.eq_nil_of_length_eq_zero hb
      subst this; rfl
    · obtain ⟨x0, x1, x2, x3, x4, x5, x6, x7, r, rfl⟩ := eight_of b (by omega)
      simp only [List.length_cons] at h h8
      have e : encL (decI (x0 :: x1 :: x2 :: x3 :: x4 :: x5 :: x6 :: x7 :: r)) = bytesOf (insOf x0 x1 x2 x3 x4 x5 x6 x7) ++ encL (decI r) := rfl
      rw [e, bytesOf_insOf, enc_decI f r (by omega) (by omega)]
      rfl
/-- What was decoded is encoded as it stood. -/
theorem dec_back (b : Str) (h : decB b = true) : (decI b).all mayB = true ∧ encL (decI b) = b := by
  unfold decB at h
  rw [Bool.and_eq_true, decide_eq_true_eq] at h
  exact ⟨h.2, enc_decI _ b (Nat.le_refl _) h.1⟩
end Go.Proofs.YtoebboimdkogpaaDoor
