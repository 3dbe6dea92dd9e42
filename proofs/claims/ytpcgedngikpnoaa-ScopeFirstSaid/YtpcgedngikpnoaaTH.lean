/-
  Right: the filter's side, and all.
-/
import Derived.Test.YtpcgedngikpnoaaTG
namespace Go.Proofs.Ytpcgedngikpnoaa
set_option maxRecDepth 100000
set_option linter.unusedSimpArgs false
set_option linter.unusedVariables false
open Go.RowKit

abbrev fltA (A : Option Addr) (n c : Nat) (s : Int) : Array Value := #[.slice A n c, .int .i64 s]
abbrev fltV (A : Option Addr) (n c : Nat) (s : Int) : Value := .agg (fltA A n c s)
/-- Where the filter lacks one of the hashes: at the first one. -/
theorem any_take' {α : Type} {p : α → Bool} {l : List α} {k : Nat} (hk : k < l.length) (h : (l.take k).any p = false) : (l.take (k + 1)).any p = p l[k] := by
  rw [List.take_succ_eq_append_getElem hk, List.any_append, h]
  simp
theorem any_yes' {α : Type} {p : α → Bool} {l : List α} {k : Nat} (hk : k < l.length) (h : p l[k] = true) : l.any p = true := List.any_eq_true.2 ⟨_, List.getElem_mem hk, h⟩
end Go.Proofs.Ytpcgedngikpnoaa
