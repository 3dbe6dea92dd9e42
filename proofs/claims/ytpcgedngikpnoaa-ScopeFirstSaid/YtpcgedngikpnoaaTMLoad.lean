/-
  The law on how full a table is, walked.
-/
import Derived.Test.YtpcgedngikpnoaaTK
namespace Go.Proofs.Ytpcgedngikpnoaa
set_option maxRecDepth 100000
set_option linter.unusedSimpArgs false
set_option linter.unusedVariables false
open Go.RowKit

/-- The box that holds a table. -/
theorem tab_box (w : World) (cs : Array Value) : Below w.heap.size w (w.alloc (.cells cs 57)) ∧ Tx (w.alloc (.cells cs 57)) w.heap.size cs := ⟨(Below.refl _ _).alloc (Nat.le_refl _) _, heap_alloc_new _ _⟩
theorem Tx.below {w w' : World} {b : Nat} {cs : Array Value} (h : Tx w b cs) (hb : Below w.heap.size w w') : Tx w' b cs := (hb.block b (by
  cases hg : w.heap[b]? with
  | none => rw [Tx, hg] at h; cases h
  | some o => exact (Array.getElem?_eq_some_iff.1 hg).1)).trans h
theorem sum_take {ss : List Sym} {cnt m : Nat} (hss : ss.length ≤ 512) : sumF (fillS ss cnt ss.length) m ≤ m * 512 := sum_le _ 512 (fun k => Nat.le_trans (fill_len ss cnt ss.length k) hss) m
end Go.Proofs.Ytpcgedngikpnoaa
