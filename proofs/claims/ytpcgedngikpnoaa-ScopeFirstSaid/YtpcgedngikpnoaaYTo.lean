/-
  Contracts over all worlds behind one.
-/
import Derived.Test.YtpcgedngikpnoaaYF
import Derived.Deep.RegionHeld3
namespace Go.Proofs.Ytpcgedngikpnoaa
set_option maxRecDepth 100000
set_option linter.unusedSimpArgs false
set_option linter.unusedVariables false
open Go.RowKit

theorem over_below {f : FuncId} {args : Array Value} {v : Value} (h : ∀ X, Calls Try.prog f args X fun e w' => e = .returned v ∧ Below X.heap.size X w') {w1 : World} : ∀ X, Below w1.heap.size w1 X → Calls Try.prog f args X fun e w' => e = .returned v ∧ Below w1.heap.size w1 w' :=
  fun X hX => (h X).mono fun _ _ hh => ⟨hh.1, hX.trans (hh.2.mono hX.size)⟩
theorem below_draw {B : Nat} {w w' : World} (h : Below B w w') : Below B w w'.drew := ⟨h.os, h.tape, h.output, h.size, h.block⟩
end Go.Proofs.Ytpcgedngikpnoaa
