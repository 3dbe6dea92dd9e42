/-
  The law on numbers of buckets, walked.
-/
import Derived.Test.YtlkhmpnahbbpeaaJ
namespace Go.Proofs.Ytlkhmpnahbbpeaa
open Go.RowKit

set_option maxRecDepth 100000 in
set_option maxHeartbeats 1000000 in
theorem counts_any (n : Int) (hn : I64 n) (w : World) : Calls Try.prog 6 #[.int .i64 n] w fun e w' => e = .returned (.bool true) ∧ Below w.heap.size w w' := by
  have HA := Lib.hid (awake_any w)
  have HC := Lib.hid (fun X => tcount_any n hn X)
  have HQ := Lib.hid (fun X => qcount_any n hn X)
  have hc : cntT n = if n ≤ 4 then 1 else (n + 3) / 4 := rfl
  have hI : I64 n := hn
  unfold I64 at hn
  by_cases h1 : n > 4611686018427387904
  · have d1 : decide (n > 4611686018427387904) = true := decide_eq_true h1
    have d2 : (4611686018427387904 : Int) < n := h1
    clear hc hn
    go_enter Try.func6, Try.ntmps6
    go_upto_region 99 with (go_at_call 11; refine (HA.out).mono ?_; rintro e w1 ⟨rfl, hb1⟩)
    first | go_ret | skip
    exact ⟨rfl, hb1⟩
  · have d1 : ¬ (4611686018427387904 : Int) < n := h1
    by_cases h2 : n ≤ 4
    · have hk : cntT n = 1 := by rw [hc, if_pos h2]
      rw [hk] at HC
      clear hc hn HQ h1
      go_enter Try.func6, Try.ntmps6
      go_upto_region 99 with (first | (go_at_call 11; refine (HA.out).mono ?_; rintro e w1 ⟨rfl, hb1⟩) | (go_at_call 21; refine (HC.out _).mono ?_; rintro e w2 ⟨rfl, rfl⟩))
      first | go_ret | skip
      exact ⟨rfl, hb1⟩
    · have hq : n.tdiv 4 = n / 4 := Int.tdiv_eq_ediv_of_nonneg (by omega)
      rw [if_neg h2] at hc
      generalize cntT n = k at *
      have e1 : wrap64 (n / 4) = n / 4 := IntWalk.wrap64_in _ (by omega)
      have e2 : wrap64 (k - 1) = k - 1 := IntWalk.wrap64_in _ (by omega)
      have e3 : wrap64 ((k - 1) * 4) = (k - 1) * 4 := IntWalk.wrap64_in _ (by omega)
      have d3 : n / 4 ≤ k := by omega
      have d4 : (k - 1) * 4 < n := by omega
      clear hc hn h1 hI
      go_enter Try.func6, Try.ntmps6
      go_upto_region 99 with (first | (go_at_call 11; refine (HA.out).mono ?_; rintro e w1 ⟨rfl, hb1⟩) | (go_at_call 21; refine (HC.out _).mono ?_; rintro e w2 ⟨rfl, rfl⟩) | (go_at_call 22; refine (HQ.out _).mono ?_; rintro e w2 ⟨rfl, rfl⟩))
      first | go_ret | skip
      exact ⟨rfl, hb1⟩
end Go.Proofs.Ytlkhmpnahbbpeaa
