/-
  Symbols and their texts as plain functions; which bytes and texts are names, by the program and by the document.
-/
import Derived.Test.YtpcgedngikpnoaaCom
import Derived.Laws.Strings3
import Derived.IntWalk
namespace Go.Proofs.Ytpcgedngikpnoaa
set_option maxRecDepth 100000
set_option linter.unusedSimpArgs false
set_option linter.unusedVariables false
open Go.RowKit

abbrev Str := List UInt8
/-- A text. -/
abbrev str (l : Str) : Value := .string ⟨l.toArray⟩
theorem str_of (s : ByteArray) : Value.string s = str s.data.toList := by rw [str]

/-- A byte of a name. -/
def nameC (b : UInt8) : Bool := (decide (97 ≤ b.toNat) && decide (b.toNat ≤ 122)) || (decide (65 ≤ b.toNat) && decide (b.toNat ≤ 90)) || (decide (48 ≤ b.toNat) && decide (b.toNat ≤ 57)) || b.toNat == 95 || b.toNat == 46
def nameB (l : Str) : Bool := !l.isEmpty && decide (l.length ≤ 64) && l.all nameC

theorem ret_bool {x y : Bool} (h : (x = true) ↔ (y = true)) : Ending.returned (Value.bool x) = Ending.returned (Value.bool y) := by
  rw [Bool.eq_iff_iff.2 h]
theorem nameC_true {b : UInt8} (h : nameC b = true) : (97 ≤ b.toNat ∧ b.toNat ≤ 122) ∨ (65 ≤ b.toNat ∧ b.toNat ≤ 90) ∨ (48 ≤ b.toNat ∧ b.toNat ≤ 57) ∨ b.toNat = 95 ∨ b.toNat = 46 := by
  simp only [nameC, Bool.or_eq_true, Bool.and_eq_true, decide_eq_true_eq, beq_iff_eq] at h
  omega
theorem nameC_false {b : UInt8} (h : nameC b = false) : (b.toNat < 97 ∨ 122 < b.toNat) ∧ (b.toNat < 65 ∨ 90 < b.toNat) ∧ (b.toNat < 48 ∨ 57 < b.toNat) ∧ b.toNat ≠ 95 ∧ b.toNat ≠ 46 := by
  simp only [nameC, Bool.or_eq_false_iff, Bool.and_eq_false_iff, decide_eq_false_iff_not, beq_eq_false_iff_ne] at h
  omega

/-- The characters ahead of a place. -/
theorem all_take {l : Str} {k : Nat} (hk : k < l.length) (h : (l.take k).all nameC = true) : (l.take (k + 1)).all nameC = nameC l[k] := by
  rw [List.take_succ_eq_append_getElem hk, List.all_append, h]
  simp
theorem all_no {l : Str} {k : Nat} (hk : k < l.length) (h : nameC l[k] = false) : l.all nameC = false := by
  rw [List.all_eq_false]
  exact ⟨l[k], List.getElem_mem hk, by simp [h]⟩
theorem nameB_no {l : Str} (h : l.all nameC = false) : nameB l = false := by simp [nameB, h]
theorem nameB_yes {l : Str} (h0 : l ≠ []) (h1 : l.length ≤ 64) (h : l.all nameC = true) : nameB l = true := by simp [nameB, h, h0, h1]

end Go.Proofs.Ytpcgedngikpnoaa
