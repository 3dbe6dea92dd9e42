/-
  The small functions; where an address stands among the blocks.
-/
import Derived.Test.YthbdncojekpanaaA
namespace Go.Proofs.Ythbdncojekpanaa
open Go.RowKit

def sizeB (n : Int) : Bool := decide (1 ≤ n) && decide (n ≤ 1048576)
def permB (p : Int) : Bool := decide (0 ≤ p) && decide (p ≤ 7)
theorem isSize_any (n : Int) (w : World) : Calls Try.prog 33 #[.int .i64 n] w fun e w' => e = .returned (.bool (sizeB n)) ∧ w = w' := by
  have hm := Lib.hid (show sizeB n = (decide (1 ≤ n) && decide (n ≤ 1048576)) from rfl)
  go_enter Try.func33, Try.ntmps33
  go_wp2
  all_goals
    go_ret
    refine ⟨?_, rfl⟩
    refine congrArg (fun b => Ending.returned (Value.bool b)) ?_
    rw [hm.out, Bool.eq_iff_iff]
    simp
    try omega
theorem isPerm_any (p : Int) (w : World) : Calls Try.prog 34 #[.int .i64 p] w fun e w' => e = .returned (.bool (permB p)) ∧ w = w' := by
  have hm := Lib.hid (show permB p = (decide (0 ≤ p) && decide (p ≤ 7)) from rfl)
  go_enter Try.func34, Try.ntmps34
  go_wp2
  all_goals
    go_ret
    refine ⟨?_, rfl⟩
    refine congrArg (fun b => Ending.returned (Value.bool b)) ?_
    rw [hm.out, Bool.eq_iff_iff]
    simp
    try omega
/-- A size, rounded up. -/
def up (n : Int) : Int := (n + 63) / 64 * 64
theorem rounded_any (n : Int) (h1 : 1 ≤ n) (h2 : n ≤ 1048576) (w : World) : Calls Try.prog 61 #[.int .i64 n] w fun e w' => e = .returned (.int .i64 (up n)) ∧ w = w' := by
  have e1 : wrap64 (n + 64) = n + 64 := IntWalk.wrap64_in _ (by omega)
  have e2 : wrap64 (n + 64 - 1) = n + 64 - 1 := IntWalk.wrap64_in _ (by omega)
  have e3 : (n + 64 - 1).tdiv 64 = (n + 64 - 1) / 64 := Int.tdiv_eq_ediv_of_nonneg (by omega)
  have e4 : wrap64 ((n + 64 - 1) / 64) = (n + 64 - 1) / 64 := IntWalk.wrap64_in _ (by omega)
  have e5 : wrap64 ((n + 64 - 1) / 64 * 64) = (n + 64 - 1) / 64 * 64 := IntWalk.wrap64_in _ (by omega)
  have hu := Lib.hid (show up n = (n + 64 - 1) / 64 * 64 by unfold up; rw [show n + 64 - 1 = n + 63 by omega])
  go_enter Try.func61, Try.ntmps61
  go_wp2
  go_ret
  exact ⟨by rw [hu.out]; simp [*], rfl⟩
def cmp3 (a b : Int) : Int := if a < b then -1 else if b < a then 1 else 0
theorem compare_any (a b : Int) (w : World) : Calls Try.prog 67 #[.int .i64 a, .int .i64 b] w fun e w' => e = .returned (.int .i64 (cmp3 a b)) ∧ w = w' := by
  have hn : ∀ x : Int, (x != x) = false := by intro x; simp
  have na := hn a
  have nb := hn b
  clear hn
  by_cases h1 : a < b
  · have hc := Lib.hid (show cmp3 a b = -1 by unfold cmp3; rw [if_pos h1])
    go_enter Try.func67, Try.ntmps67
    go_wp2
    go_ret
    exact ⟨by rw [hc.out]; rfl, rfl⟩
  · by_cases h2 : b < a
    · have hc := Lib.hid (show cmp3 a b = 1 by unfold cmp3; rw [if_neg h1, if_pos h2])
      go_enter Try.func67, Try.ntmps67
      go_wp2
      go_ret
      exact ⟨by rw [hc.out]; rfl, rfl⟩
    · have hc := Lib.hid (show cmp3 a b = 0 by unfold cmp3; rw [if_neg h1, if_neg h2])
      go_enter Try.func67, Try.ntmps67
      go_wp2
      go_ret
      exact ⟨by rw [hc.out]; rfl, rfl⟩
abbrev rawV (r : Raw) : Value := .agg #[.int .i64 r.b.at_, .int .i64 r.b.size, .int .i64 r.b.perm, .slice r.A r.b.bytes.length r.c]
theorem position1_any (a s p : Int) (v : Value) (at_ : Int) (w : World) : Calls Try.prog 66 #[.agg #[.int .i64 a, .int .i64 s, .int .i64 p, v], .int .i64 at_] w fun e w' => e = .returned (.int .i64 (cmp3 a at_)) ∧ Below w.heap.size w w' := by
  have HC := Lib.hid (fun w1 => compare_any a at_ w1)
  have hb := Lib.hid ((Below.refl w.heap.size w).alloc (Nat.le_refl _) (.cells #[.int .i64 a, .int .i64 s, .int .i64 p, v] 69))
  go_enter Try.func66, Try.ntmps66
  go_wp2_with fail
  refine (HC.out _).mono ?_
  rintro e w1 ⟨rfl, rfl⟩
  go_wp2_with fail
  go_ret
  exact ⟨rfl, hb.out⟩
end Go.Proofs.Ythbdncojekpanaa
