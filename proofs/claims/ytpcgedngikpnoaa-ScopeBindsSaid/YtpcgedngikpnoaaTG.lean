/-
  Right: whether a table is right for symbols.
-/
import Derived.Test.YtpcgedngikpnoaaTF
namespace Go.Proofs.Ytpcgedngikpnoaa
set_option maxRecDepth 100000
set_option linter.unusedSimpArgs false
set_option linter.unusedVariables false
open Go.RowKit

theorem il_get (l : List Int) (i : Nat) (hi : i < l.length) : (il l)[i]? = some (.int .i64 l[i]) := by simp [il, hi]
theorem eq_of_get {l m : List Int} (hlen : l.length = m.length) (h : ∀ z (h1 : z < l.length) (h2 : z < m.length), l[z] = m[z]) : l = m := List.ext_getElem hlen h
/-- Rows that are alike. -/
def rowsB (n m : Nat) (f g : Nat → List Int) : Bool := decide (n = m) && decide (∀ k, k < n → f k = g k)
theorem rows_no {n m : Nat} {f g : Nat → List Int} {k : Nat} (hk : k < n) (h : f k ≠ g k) : rowsB n m f g = false := by
  unfold rowsB
  rw [Bool.and_eq_false_iff]
  exact .inr (decide_eq_false fun e => h (e k hk))
theorem rows_yes {n : Nat} {f g : Nat → List Int} (h : ∀ k, k < n → f k = g k) : rowsB n n f g = true := by
  unfold rowsB
  rw [Bool.and_eq_true]
  exact ⟨decide_eq_true rfl, decide_eq_true h⟩
end Go.Proofs.Ytpcgedngikpnoaa
