/-
  The document's own paths: their letters, their parts.
-/
import Derived.Test.YtkpmfahmhmdccaaDoorLM
namespace Go.Proofs.YtkpmfahmhmdccaaDoor.Fil
open Go.RowKit

set_option maxHeartbeats 1000000 in
theorem rletter_any (c : UInt8) (w : World) :
    Calls Tryd.prog 54 #[.int .u8 (c.toNat : Int)] w fun e w' => e = .returned (.bool (pbyte c)) ∧ w = w' := by
  have h0 := c.toNat_lt
  go_enter Tryd.func54, Tryd.ntmps54
  go_wp2
  all_goals (go_ret; refine ⟨?_, rfl⟩)
  all_goals (show Ending.returned (Value.bool _) = Ending.returned (Value.bool _); refine congrArg (fun b => Ending.returned (Value.bool b)) ?_; rw [Bool.eq_iff_iff]; simp [pbyte]; omega)

/-- A path's letters, one by one. -/
def scan : Str → Str → List Str → Option (List Str)
  | [], cur, out => if 64 < cur.length then none else some (out ++ partsIn [cur])
  | c :: r, cur, out => if c = 47 then (if 64 < cur.length then none else scan r [] (out ++ partsIn [cur])) else if pbyte c then scan r (cur ++ [c]) out else none
theorem partsIn_cons (p : Str) (ps : List Str) : partsIn (p :: ps) = partsIn [p] ++ partsIn ps := by
  unfold partsIn
  rw [List.filter_cons, List.filter_cons]
  split <;> simp
theorem scan_all (r : Str) : ∀ (cur : Str) (out : List Str), cur.all pbyte = true → scan r cur out = match splitS r with
    | [] => none
    | p :: ps => if part (cur ++ p) && ps.all part then some (out ++ partsIn ((cur ++ p) :: ps)) else none := by
  induction r with
  | nil =>
    intro cur out hc
    simp only [scan, splitS, List.append_nil, List.all_nil, Bool.and_true]
    by_cases h : 64 < cur.length
    · rw [if_pos h, if_neg (by simp [part]; intro h'; omega)]
    · rw [if_neg h, if_pos (by simp only [part, hc, Bool.and_true, decide_eq_true_eq]; omega)]
  | cons c r ih =>
    intro cur out hc
    by_cases h47 : c = 47
    · subst h47
      rw [scan, if_pos rfl, splitS, if_pos rfl]
      simp only [List.append_nil]
      by_cases h : 64 < cur.length
      · rw [if_pos h, if_neg (by simp [part]; intro h'; omega)]
      · have hp : part cur = true := by simp only [part, hc, Bool.and_true, decide_eq_true_eq]; omega
        rw [if_neg h, ih [] (out ++ partsIn [cur]) rfl, hp]
        cases hs : splitS r with
        | nil => exact absurd hs (splitS_ne r)
        | cons p ps =>
          simp only [List.nil_append, Bool.true_and, List.all_cons]
          rw [partsIn_cons cur (p :: ps), List.append_assoc]
    · rw [scan, if_neg h47, splitS, if_neg h47]
      cases hs : splitS r with
      | nil => exact absurd hs (splitS_ne r)
      | cons p ps =>
        simp only
        cases hb : pbyte c with
        | false =>
          rw [if_neg (by decide), if_neg ?_]
          simp [part, hb]
        | true =>
          rw [if_pos rfl, ih (cur ++ [c]) out (by simp [List.all_append, hc, hb]), hs]
          simp
theorem scan_eq (l : Str) : scan l [] [] = if (splitS l).all part then some (partsIn (splitS l)) else none := by
  rw [scan_all l [] [] rfl]
  cases hs : splitS l with
  | nil => exact absurd hs (splitS_ne l)
  | cons p ps => simp
theorem cur_step (l : Str) (a i : Nat) (h : a ≤ i) (hi : i < l.length) : (l.drop a).take (i + 1 - a) = (l.drop a).take (i - a) ++ [l[i]] := by
  have hlt : i - a < (l.drop a).length := by rw [List.length_drop]; omega
  rw [show i + 1 - a = (i - a) + 1 by omega, List.take_succ_eq_append_getElem hlt]
  congr 2
  rw [List.getElem_drop]
  congr 1
  omega

/-- Where the letters stand. -/
def Here (l : Str) (i a : Nat) (out : List Str) : Prop :=
  (i ≤ l.length ∧ a ≤ i ∧ scan (l.drop i) ((l.drop a).take (i - a)) out = scan l [] []) ∨ (i = l.length + 1 ∧ some out = scan l [] [])

theorem scan_end (l : Str) (a : Nat) (out : List Str) : scan (l.drop l.length) ((l.drop a).take (l.length - a)) out = if 64 < ((l.drop a).take (l.length - a)).length then none else some (out ++ partsIn [(l.drop a).take (l.length - a)]) := by
  rw [List.drop_length]
  rfl
theorem scan_at (l : Str) (i : Nat) (hi : i < l.length) (cur : Str) (out : List Str) : scan (l.drop i) cur out = if l[i] = 47 then (if 64 < cur.length then none else scan (l.drop (i + 1)) [] (out ++ partsIn [cur])) else if pbyte l[i] then scan (l.drop (i + 1)) (cur ++ [l[i]]) out else none := by
  rw [List.drop_eq_getElem_cons hi]
  rfl

end Go.Proofs.YtkpmfahmhmdccaaDoor.Fil
