/-
  The law CursorForm: plain mathematics, and walked.
-/
import Derived.Test.YtkgkgagnpmhoiaaV
namespace Go.Proofs.Ytkgkgagnpmhoiaa
open Go.RowKit

theorem valN_div (l : List UInt8) : ∀ (i : Nat) (h : i < l.length), valN l / 256 ^ i % 256 = l[i].toNat := by
  induction l with
  | nil => intro i h; simp at h
  | cons b l ih =>
    intro i h
    have hb := b.toNat_lt
    cases i with
    | zero =>
      simp only [valN, Nat.pow_zero, Nat.div_one, List.getElem_cons_zero]
      omega
    | succ i =>
      have e : valN (b :: l) / 256 ^ (i + 1) = valN l / 256 ^ i := by
        rw [Nat.pow_succ, Nat.mul_comm, ← Nat.div_div_eq_div_mul]
        congr 1
        simp only [valN]
        omega
      rw [e, List.getElem_cons_succ]
      exact ih i (by simpa using h)
theorem wrap_div (x : Int) (i : Nat) (h : i < 8) : wrap64 x / 2 ^ (8 * i) % 256 = x / 2 ^ (8 * i) % 256 := by
  have h' : i = 0 ∨ i = 1 ∨ i = 2 ∨ i = 3 ∨ i = 4 ∨ i = 5 ∨ i = 6 ∨ i = 7 := by omega
  unfold wrap64
  rcases h' with rfl | rfl | rfl | rfl | rfl | rfl | rfl | rfl
  all_goals
    simp only [Nat.mul_zero, Nat.reduceMul, Int.reducePow]
    omega
theorem dig_of_val (l : List UInt8) (i : Nat) (h : i < l.length) (h8 : i < 8) : dig (val l) i = l[i] := by
  have h1 := dig_val (val l) i
  unfold val at h1
  rw [wrap_div _ i h8] at h1
  have hp : (2 : Int) ^ (8 * i) = ((256 ^ i : Nat) : Int) := by
    rw [show (256 : Nat) = 2 ^ 8 from rfl, ← Nat.pow_mul]
    simp
  rw [hp] at h1
  have h2 := valN_div l i h
  have h3 : ((valN l : Int) / ((256 ^ i : Nat) : Int)) % 256 = ((valN l / 256 ^ i % 256 : Nat) : Int) := by
    rw [Int.natCast_emod, Int.natCast_ediv]
    rfl
  rw [h3, h2] at h1
  exact UInt8.toNat_inj.1 (by show (dig (wrap64 (valN l)) i).toNat = _; omega)
/-- The bytes of the number of some bytes are these bytes; and it fits. -/
theorem digs_val (l : List UInt8) (size : Nat) (hs : sized size = true) (hl : l.length = size) : digs (val l) size = l ∧ fitB size (val l) = true := by
  have hs' : size = 1 ∨ size = 2 ∨ size = 4 ∨ size = 8 := by simp only [sized, decide_eq_true_eq] at hs; omega
  constructor
  · refine List.ext_getElem (by rw [digs_len, hl]) fun i h1 h2 => ?_
    have hi : i < 8 := by omega
    have e : (digs (val l) size)[i] = dig (val l) i := by simp [digs]
    rw [e]
    exact dig_of_val l i h2 hi
  · have h1 := valN_lt l
    rw [hl] at h1
    rcases hs' with rfl | rfl | rfl | rfl
    · rw [val_small l (by omega)]
      simp at h1
      simp [fitB]
      omega
    · rw [val_small l (by omega)]
      simp at h1
      simp [fitB]
      omega
    · rw [val_small l (by omega)]
      simp at h1
      simp [fitB]
      omega
    · simp [fitB]

/-- A number that was read without a fault is put as it stood. -/
theorem num_form (size : Int) (s : St) (bs : List UInt8) (h : (rNum size s).2.1 = 0) : ∃ d, s.2 = d ++ (rNum size s).2.2 ∧ wNumsA size [(rNum size s).1] (0, bs) = (0, bs ++ d) := by
  by_cases hs : sized size = true
  · obtain ⟨k, rfl⟩ : ∃ k : Nat, size = k := ⟨size.toNat, by simp only [sized, decide_eq_true_eq] at hs; omega⟩
    unfold rNum at h ⊢
    rw [if_pos hs, Int.toNat_natCast] at h ⊢
    simp only at h ⊢
    unfold rTake at h ⊢
    by_cases h0 : s.1 = 0
    · rw [if_pos h0] at h ⊢
      by_cases h1 : k ≤ s.2.length
      · rw [if_pos h1] at h ⊢
        obtain ⟨e1, e2⟩ := digs_val (s.2.take k) k hs (by rw [List.length_take]; omega)
        refine ⟨s.2.take k, (List.take_append_drop k s.2).symm, ?_⟩
        unfold wNumsA
        rw [if_pos hs, Int.toNat_natCast]
        show wNum1 k (val (s.2.take k)) (0, bs) = _
        unfold wNum1
        rw [if_pos rfl, if_pos e2, e1]
      · rw [if_neg h1] at h
        exact absurd h (show ¬ (11 : Int) = 0 by decide)
    · rw [if_neg h0] at h
      exact absurd h h0
  · unfold rNum at h
    rw [if_neg hs] at h
    by_cases h0 : s.1 = 0
    · rw [if_pos h0] at h
      exact absurd h (show ¬ (1 : Int) = 0 by decide)
    · rw [if_neg h0] at h
      exact absurd h h0
theorem meas_form (size most : Nat) (s : St) (bs : List UInt8) (hs : sized size = true) (h4 : size ≤ 4) (h : (rMeas size most s).2.1 = 0) :
    ∃ d, s.2 = d ++ (rMeas size most s).2.2 ∧ wMeas size most (rMeas size most s).1 (0, bs) = (0, bs ++ d) ∧ d.length = size + (rMeas size most s).1.length := by
  unfold rMeas at h ⊢
  by_cases h0 : s.1 = 0
  · rw [if_pos h0] at h ⊢
    by_cases h1 : s.2.length < size
    · rw [if_pos h1] at h
      exact absurd h (show ¬ (11 : Int) = 0 by decide)
    rw [if_neg h1] at h ⊢
    by_cases h2 : most < valN (s.2.take size)
    · rw [if_pos h2] at h
      exact absurd h (show ¬ (2 : Int) = 0 by decide)
    rw [if_neg h2] at h ⊢
    by_cases h3 : s.2.length - size < valN (s.2.take size)
    · rw [if_pos h3] at h
      exact absurd h (show ¬ (11 : Int) = 0 by decide)
    rw [if_neg h3] at h ⊢
    have htl : (s.2.take size).length = size := by rw [List.length_take]; omega
    obtain ⟨e1, _⟩ := digs_val (s.2.take size) size hs htl
    have e2 := val_small (s.2.take size) (by omega)
    rw [e2] at e1
    generalize hN : valN (s.2.take size) = N at *
    have hl : ((s.2.drop size).take N).length = N := by rw [List.length_take, List.length_drop]; omega
    refine ⟨s.2.take size ++ (s.2.drop size).take N, ?_, ?_, ?_⟩
    · show s.2 = _ ++ (s.2.drop size).drop N
      rw [List.append_assoc, List.take_append_drop, List.take_append_drop]
    · show wMeas size most ((s.2.drop size).take N) (0, bs) = _
      unfold wMeas
      rw [if_pos rfl, if_pos (by rw [hl]; omega), hl, e1, List.append_assoc]
    · show (s.2.take size ++ (s.2.drop size).take N).length = size + ((s.2.drop size).take N).length
      rw [List.length_append, htl]
  · rw [if_neg h0] at h
    exact absurd h h0
theorem raw_form (n : Int) (s : St) (h : (rRaw n s).2.1 = 0) : s.2 = (rRaw n s).1 ++ (rRaw n s).2.2 := by
  unfold rRaw at h ⊢
  by_cases h0 : n < 0
  · rw [if_pos h0] at h
    by_cases h1 : s.1 = 0
    · simp only [h1, if_true] at h
      exact absurd h (show ¬ (1 : Int) = 0 by decide)
    · simp only [h1, if_false] at h
  · rw [if_neg h0] at h ⊢
    unfold rTake at h ⊢
    by_cases h1 : s.1 = 0
    · rw [if_pos h1] at h ⊢
      by_cases h2 : n.toNat ≤ s.2.length
      · rw [if_pos h2]
        exact (List.take_append_drop _ _).symm
      · rw [if_neg h2] at h
        exact absurd h (show ¬ (11 : Int) = 0 by decide)
    · rw [if_neg h1] at h
      exact absurd h h1
/-- What fails reads nothing. -/
theorem num_kept (size : Int) (s : St) (h : (rNum size s).2.1 ≠ 0) : (rNum size s).2.2 = s.2 := by
  unfold rNum at h ⊢
  split
  · rename_i hs
    rw [if_pos hs] at h
    simp only at h ⊢
    unfold rTake at h ⊢
    split
    · rename_i h0
      rw [if_pos h0] at h
      split
      · rename_i h1
        rw [if_pos h1] at h
        exact absurd rfl h
      · rfl
    · rfl
  · split <;> rfl
theorem meas_kept (size most : Nat) (s : St) (h : (rMeas size most s).2.1 ≠ 0) : (rMeas size most s).2.2 = s.2 := by
  unfold rMeas at h ⊢
  split
  · rename_i h0
    rw [if_pos h0] at h
    split
    · rfl
    · rename_i h1
      rw [if_neg h1] at h
      split
      · rfl
      · rename_i h2
        rw [if_neg h2] at h
        split
        · rfl
        · rename_i h3
          rw [if_neg h3] at h
          exact absurd rfl h
  · rfl
theorem raw_kept (n : Int) (s : St) (h : (rRaw n s).2.1 ≠ 0) : (rRaw n s).2.2 = s.2 := by
  unfold rRaw at h ⊢
  split
  · show (if s.1 = 0 then ((1, s.2) : St) else s).2 = s.2
    split <;> rfl
  · rename_i h0
    rw [if_neg h0] at h
    unfold rTake at h ⊢
    split
    · rename_i h1
      rw [if_pos h1] at h
      split
      · rename_i h2
        rw [if_pos h2] at h
        exact absurd rfl h
      · rfl
    · rfl
end Go.Proofs.Ytkgkgagnpmhoiaa
