/-
  Filters that are made: Make, clone, Add, and the document's own Add.
-/
import Derived.Test.YtpcgedngikpnoaaFC
namespace Go.Proofs.Ytpcgedngikpnoaa.Siv
set_option maxRecDepth 100000
set_option linter.unusedSimpArgs false
set_option linter.unusedVariables false
open Go.RowKit

theorem Try.info_word : (Try.prog.info? 89).map (fun i => (i.zero, i.size, i.bytes)) = some (some (.int .u64 0), 1, 8) := by kernel_rfl

/-- A new filter with these words. -/
def Made (w : World) (l : List UInt64) (s : Int) (e : Ending) (w' : World) : Prop :=
  ∃ A c, e = .returned (.tuple #[flt A l.length c s, .int .i64 0]) ∧ w'.ownsRow w.heap.size 89 1 (.slice A l.length c) l.length (wds l) ∧ Below w.heap.size w w'
/-- No filter. -/
def NoF (w : World) (e : Ending) (w' : World) : Prop := e = .returned (.tuple #[flt none 0 0 0, .int .i64 20]) ∧ Below w.heap.size w w'
def blank (n : Nat) : List UInt64 := List.replicate n 0
theorem made_blank (n : Nat) : (madeCells (Value.int .u64 0).cells (n * 1)).toList = wds (blank n) := by
  apply List.ext_getElem
  · simp [madeCells, wds, blank]
  · intro i h1 h2
    simp [madeCells, wds, blank, Value.cells, Nat.mod_one]

end Go.Proofs.Ytpcgedngikpnoaa.Siv
