/-
  Rows of elements as lists (out of stage 9's texts).
-/
import Derived.Test.YtpcgedngikpnoaaIA
namespace Go.Proofs.Ytpcgedngikpnoaa
set_option maxRecDepth 100000
set_option linter.unusedSimpArgs false
set_option linter.unusedVariables false
open Go.RowKit

def noSy : Sym := ⟨[], [], false, 0, false, 0, false, 0, 0⟩
theorem src_of_els {α : Type} {w : World} {P : Nat → Prop} {A : Option Addr} {c : Nat} {ys : List α} {d : α} {f : α → Value} (h : Els w P A ys.length c 1 (fun k => #[f (ys.getD k d)])) : Src w P A ys.length c (ys.map f) := by
  refine ⟨by simp, h.nil, h.cap, h.blk, fun ad hA j u hu => ?_⟩
  have hj : j < ys.length := by have := (List.getElem?_eq_some_iff.1 hu).1; simpa using this
  have := h.at_ ad hA j hj 0 u (by rw [← hu]; simp [List.getD_eq_getElem?_getD, hj])
  simpa using this
theorem syl_of_els {w : World} {P : Nat → Prop} {A : Option Addr} {c : Nat} {ys : List Sym} (h : Els w P A ys.length c 9 (fun k => symA (ys.getD k noSy))) : Syl w P A ys.length c ys :=
  ⟨rfl, h.nil, h.cap, h.blk, fun ad hA k hk j u hu => h.at_ ad hA k hk j u (by rw [List.getD_eq_getElem?_getD, List.getElem?_eq_getElem hk, Option.getD_some]; exact hu)⟩
end Go.Proofs.Ytpcgedngikpnoaa
