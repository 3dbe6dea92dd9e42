/-
  Lists joined: the program's, and the document's.
-/
import Derived.Test.YtkpmfahmhmdccaaDoorTC
namespace Go.Proofs.YtkpmfahmhmdccaaDoor
open Go.RowKit

/-- How much room joined texts take. -/
def sumL : List Str → Nat
  | [] => 0
  | s :: r => s.length + 1 + sumL r
theorem jnA_sum : ∀ (ps : List Str) (out : Str), (jnA out ps).length ≤ out.length + sumL ps
  | [], out => by simp [jnA, sumL]
  | p :: ps, out => by
    rw [jnA, sumL]
    have h := jnA_sum ps (if p = [] then out else if out = [] then p else out ++ 58 :: p)
    refine Nat.le_trans h ?_
    split
    · omega
    · split <;> (try simp) <;> omega
theorem sumL_take (ps : List Str) (k : Nat) : sumL (ps.take k) ≤ sumL ps := by
  induction ps generalizing k with
  | nil => simp [sumL]
  | cons p ps ih =>
    cases k with
    | zero => exact Nat.zero_le _
    | succ k => have := ih k; simp only [List.take_succ_cons, sumL]; omega
theorem sumL_mem {ps : List Str} {p : Str} (h : p ∈ ps) : p.length + 1 ≤ sumL ps := by
  induction ps with
  | nil => cases h
  | cons q ps ih =>
    rcases List.mem_cons.1 h with rfl | h
    · simp only [sumL]; omega
    · have := ih h; simp only [sumL]; omega
theorem jn_take (ps : List Str) (k : Nat) (hk : k < ps.length) : jn (ps.take (k + 1)) = if ps[k] = [] then jn (ps.take k) else if jn (ps.take k) = [] then ps[k] else jn (ps.take k) ++ 58 :: ps[k] := by
  rw [List.take_succ_eq_append_getElem hk, jn_snoc]
theorem jn_sum (ps : List Str) (k : Nat) : (jn (ps.take k)).length ≤ sumL ps := by
  have h1 := jnA_sum (ps.take k) []
  have h2 := sumL_take ps k
  unfold jn
  simp at h1
  omega
theorem empty_no {p : Str} (h : p ≠ []) : p.isEmpty = false := by cases p with
  | nil => exact absurd rfl h
  | cons x l => rfl

theorem add_str (a b : Str) (h : a.length + b.length ≤ 9223372036854775807) (w : World) : (Op.stringOp .add ⟨a.toArray⟩ ⟨b.toArray⟩).run Tryd.prog w = .ok (str (a ++ b)) w := by
  rw [run_string_add_sum w _ _ (by simpa [ByteArray.size] using h), ByteArray.mk_append_mk]
end Go.Proofs.YtkpmfahmhmdccaaDoor
