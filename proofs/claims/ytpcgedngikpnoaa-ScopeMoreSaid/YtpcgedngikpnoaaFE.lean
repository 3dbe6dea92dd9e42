/-
  Copies of filters: slices.Clone, clone, Add.
-/
import Derived.Test.YtpcgedngikpnoaaFD
namespace Go.Proofs.Ytpcgedngikpnoaa.Siv
set_option maxRecDepth 100000
set_option linter.unusedSimpArgs false
set_option linter.unusedVariables false
open Go.RowKit

/-- A new row with these words; all else is as it was. -/
def Cloned (w : World) (n : Nat) (l : List UInt64) (e : Ending) (w' : World) : Prop :=
  ∃ A' c', e = .returned (.slice A' n c') ∧ w'.ownsRow w.heap.size 89 1 (.slice A' n c') n (wds l) ∧ Below w.heap.size w w'

/-- A new filter with these words, handed back alone. -/
def Copied (w : World) (n : Nat) (l : List UInt64) (s : Int) (e : Ending) (w' : World) : Prop :=
  ∃ A c, e = .returned (flt A n c s) ∧ w'.ownsRow w.heap.size 89 1 (.slice A n c) n (wds l) ∧ Below w.heap.size w w'

/-- An argument's box and a result's. -/
theorem two_boxes (w : World) (A : Option Addr) (n c : Nat) (s : Int) :
    Bx ((w.alloc (.cells #[.slice A n c, .int .i64 s] 55)).alloc (.cells #[.slice none 0 0, .int .i64 0] 55)) w.heap.size A n c s ∧
    Bx ((w.alloc (.cells #[.slice A n c, .int .i64 s] 55)).alloc (.cells #[.slice none 0 0, .int .i64 0] 55)) (w.heap.size + 1) none 0 0 0 ∧
    Below w.heap.size w ((w.alloc (.cells #[.slice A n c, .int .i64 s] 55)).alloc (.cells #[.slice none 0 0, .int .i64 0] 55)) ∧
    ((w.alloc (.cells #[.slice A n c, .int .i64 s] 55)).alloc (.cells #[.slice none 0 0, .int .i64 0] 55)).heap.size = w.heap.size + 2 := by
  refine ⟨(Bx.new w A n c s).below ((Below.refl _ _).alloc (Nat.le_refl _) _), ?_, ((Below.refl _ _).alloc (Nat.le_refl _) _).alloc (by simp) _, by simp⟩
  have := Bx.new (w.alloc (.cells #[.slice A n c, .int .i64 s] 55)) none 0 0 0
  simpa using this

end Go.Proofs.Ytpcgedngikpnoaa.Siv
