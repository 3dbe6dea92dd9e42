/-
  Whether each instruction may be, and the bytes and the text of any of them: the law's walk.
-/
import Derived.Test.YtoebboimdkogpaaDoorTr
import Derived.Test.YtoebboimdkogpaaDoorU
namespace Go.Proofs.YtoebboimdkogpaaDoor
open Go.RowKit

theorem src_nil (w : World) : Src w (fun _ => True) none 0 0 (cells []) := ⟨rfl, fun _ => ⟨rfl, rfl⟩, Nat.le_refl _, (by intro ad h; cases h), (by intro ad h; cases h)⟩
theorem own_below {w w' : World} {B sz n : Nat} {e : TypeId} {A : Option Addr} {c : Nat} {xs : List Value} (h : w.ownsRow B e sz (.slice A n c) n xs) (hb : Below w.heap.size w w') : w'.ownsRow B e sz (.slice A n c) n xs :=
  h.kept (row := none) ⟨hb.os, hb.tape, hb.output, hb.size, fun k hk _ => hb.block k hk⟩ (by cases A <;> simp [Value.ownBlock])

end Go.Proofs.YtoebboimdkogpaaDoor
