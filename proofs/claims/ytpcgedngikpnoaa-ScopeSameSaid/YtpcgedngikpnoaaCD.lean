/-
  A new reader, and the laws' common head: the document's examples.
-/
import Derived.Test.YtpcgedngikpnoaaCC
namespace Go.Proofs.Ytpcgedngikpnoaa
set_option maxRecDepth 100000
set_option linter.unusedSimpArgs false
set_option linter.unusedVariables false
open Go.RowKit

theorem own_cap {w : World} {B : Nat} {e : TypeId} {n c : Nat} {A : Option Addr} {xs : List Value} (h : w.ownsRow B e 1 (.slice A n c) n xs) : c ≤ 9223372036854775807 := by
  rcases h.2 with ⟨h1, _⟩ | ⟨g', cap, cur, hv, _, _, _, hm, _⟩
  · injection h1 with _ _ h1; omega
  · injection hv with _ _ h1; subst h1; simpa [maxLen] using hm

/-- A new block of one int. -/
theorem src_int (w : World) (x : Int) : Src (w.alloc (.cells #[.int .i64 x] 3)) (fun k => k = w.heap.size) (some ⟨w.heap.size, 0, none⟩) 1 1 (ints [x]) := by
  refine ⟨rfl, (by intro h; cases h), Nat.le_refl _, (by intro ad h _; cases h; rfl), ?_⟩
  intro ad h j u hj
  cases h
  exact cell_one_new w _ 3 j u hj
/-- A new block of one string. -/
theorem src_str (w : World) (l : List UInt8) : Src (w.alloc (.cells #[.string ⟨l.toArray⟩] 9)) (fun k => k = w.heap.size) (some ⟨w.heap.size, 0, none⟩) 1 1 (strs [l]) := by
  refine ⟨rfl, (by intro h; cases h), Nat.le_refl _, (by intro ad h _; cases h; rfl), ?_⟩
  intro ad h j u hj
  cases h
  exact cell_one_new w _ 9 j u hj
theorem Step.to_below {g B : Nat} {w w' : World} {r r' : Option Nat} (h : Step g w r w' r') (hg : B ≤ g) (hr : ∀ k, r = some k → B ≤ k) (hB : B ≤ w.heap.size) : Below B w w' :=
  ⟨h.os, h.tape, h.output, h.size, fun k hk => h.block k (by omega) (by omega) (fun e => by have := hr k e; omega)⟩
theorem num_258 : wNumsA 2 [258] (0, []) = (0, [2, 1]) := by decide +kernel
theorem text_a : wTexts [[97]] (0, [2, 1]) = (0, [2, 1, 1, 0, 97]) := by decide +kernel

theorem rnum_two : rNum 2 (0, [2, 1, 1, 0, 97]) = (258, (0, [1, 0, 97])) := by decide +kernel
theorem rtext_a : rMeas 2 4096 (0, [1, 0, 97]) = ([97], (0, [])) := by decide +kernel
theorem rnum_none : rNum 1 (0, []) = (0, (11, [])) := by decide +kernel
end Go.Proofs.Ytpcgedngikpnoaa
