/-
  Right, whole.
-/
import Derived.Test.YtpcgedngikpnoaaTH
namespace Go.Proofs.Ytpcgedngikpnoaa
set_option maxRecDepth 100000
set_option linter.unusedSimpArgs false
set_option linter.unusedVariables false
open Go.RowKit

def formT (n wl : Nat) (sh : Int) (k : Nat) : Bool := decide (k ≤ 512) && (decide (1 ≤ n) && decide (n ≤ 512)) && Siv.formB wl sh
theorem formT_bool {n wl k : Nat} {sh : Int} {b : Bool} (h : formT n wl sh k = b) : Ending.returned (Value.bool b) = .returned (.bool (formT n wl sh k)) := by rw [h]
def rightT (n : Nat) (f : Nat → List Int) (L : List UInt64) (sh : Int) (ss : List Sym) : Bool := formT n L.length sh ss.length && (rowsB n n f (fillS ss n ss.length) && !(hashesS ss).any (Siv.lacksB L sh))
def errT (b : Bool) : Value := .int .i64 (if b then 0 else 80)
theorem rightT_okay {n : Nat} {f : Nat → List Int} {L : List UInt64} {sh : Int} {ss : List Sym} {b : Bool} (h : rightT n f L sh ss = b) {x : Value} (hx : x = errT b) : Ending.returned x = .returned (errT (rightT n f L sh ss)) := by rw [h, hx]
end Go.Proofs.Ytpcgedngikpnoaa
