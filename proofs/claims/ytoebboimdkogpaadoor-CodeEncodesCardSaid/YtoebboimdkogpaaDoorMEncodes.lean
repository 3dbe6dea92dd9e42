/-
  Whether each instruction may be, and the bytes and the text of any of them: the law's walk, whole.
-/
import Derived.Test.YtoebboimdkogpaaDoorMEn
import Derived.Test.YtoebboimdkogpaaDoorMEy
namespace Go.Proofs.YtoebboimdkogpaaDoor
open Go.RowKit

theorem encodes_any (A : Option Addr) (n c : Nat) (is : List Ins) (w : World) (h : Isl w (fun k => k < w.heap.size) A n c is) (hn : n * 40 ≤ 140737488351232) (he : Env w) :
    Calls Tryd.prog 3 #[.slice A n c] w fun e w' => e = .returned (.bool true) ∧ Below w.heap.size w w' := by
  cases hv : is.all mayB
  · exact encodes_no A n c is w h hn he hv
  · exact encodes_yes A n c is w h hn he hv
end Go.Proofs.YtoebboimdkogpaaDoor
