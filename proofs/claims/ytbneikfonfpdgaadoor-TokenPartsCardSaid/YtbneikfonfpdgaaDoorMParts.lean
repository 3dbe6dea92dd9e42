/-
  The law TokenParts, walked.
-/
import Derived.Test.YtbneikfonfpdgaaDoorN
namespace Go.Proofs.YtbneikfonfpdgaaDoor
open Go.RowKit

theorem expE_ok {o t : Str} (h : (expE o t).2 = 0) : ¬ 200 < t.length ∧ exp o t = some (expE o t).1 ∧ ¬ 200 < (expE o t).1.length := by
  unfold expE at *
  split at h
  · cases h
  · rename_i h1
    rw [if_neg h1]
    split at h
    · cases h
    · rename_i r hr
      rw [hr]
      split at h
      · cases h
      · rename_i h2
        simp only [if_neg h2]
        exact ⟨h1, by trivial, h2⟩

set_option maxRecDepth 100000 in
set_option maxHeartbeats 2000000 in
theorem parts_any (a b o : Str) (w : World) (ha : a.length ≤ 140737488351232) (hb : b.length ≤ 140737488351232) (ho : o.length ≤ 140737488351232) (hm : Ml w) :
    Calls Tryd.prog 6 #[str a, str b, str o] w fun e w' => e = .returned (.bool true) ∧ Below w.heap.size w w' := by
  have HA := Lib.hid (awake_any w hm)
  by_cases h5 : 5000 < o.length ∨ 1000 < a.length ∨ 1000 < b.length
  · have HH := Lib.hid h5
    have hd : ((decide ((5000 : Int) < o.length) || (decide ((1000 : Int) < a.length) || decide ((1000 : Int) < b.length))) = true) := by
      simp only [Bool.or_eq_true, decide_eq_true_eq]
      omega
    rcases h5 with h5 | h5 | h5
    all_goals
      go_enter Tryd.func6, Tryd.ntmps6
      go_wp2_with fail
      refine HA.out.mono ?_
      rintro e w1 ⟨rfl, hb⟩
      go_wp2
      all_goals
        first
          | (exfalso; omega)
          | (go_ret; exact ⟨rfl, hb⟩)
  · have ho5 : ¬ 5000 < o.length := fun h => h5 (.inl h)
    have ha5 : ¬ 1000 < a.length := fun h => h5 (.inr (.inl h))
    have hb5 : ¬ 1000 < b.length := fun h => h5 (.inr (.inr h))
    clear h5
    have HX := Lib.hid (fun w1 (h : Ml w1) => expand_any a o w1 ha ho h)
    have HY := Lib.hid (fun w1 (h : Ml w1) => expand_any b o w1 hb ho h)
    have HZ := Lib.hid (fun w1 (h : Ml w1) => expand_any (a ++ b) o w1 (by simp; omega) ho h)
    have HO1 := Lib.hid (@expE_ok o a)
    have HO2 := Lib.hid (@expE_ok o b)
    have HTW := Lib.hid (fun x (hx : exp o a = some x) => exp_two o a.length a b x (Nat.le_refl _) hx)
    have HE1 := Lib.hid (@exps_long o (a ++ b))
    have HE2 := Lib.hid (fun r => @exps_over o (a ++ b) r)
    have HE3 := Lib.hid (fun r => @exps_ok o (a ++ b) r)
    have hadd := add_str a b (by omega)
    have HM := Lib.hid hm
    clear hm
    generalize hc : a ++ b = c at *
    have hcl : c.length = a.length + b.length := by rw [← hc]; simp
    have HCL := Lib.hid hcl
    clear hcl
    have HC := Lib.hid hc
    clear hc
    unfold Exps at HX HY
    generalize hx : expE o a = ex at *
    generalize hy : expE o b = ey at *
    clear hx hy
    have HEZ := Lib.hid (show ∃ z k, Exps o c = .returned (.tuple #[str z, .int .i64 k]) from ⟨_, _, rfl⟩)
    generalize hz : Exps o c = ez at *
    clear hz
    obtain ⟨x, e1⟩ := ex
    obtain ⟨y, e2⟩ := ey
    simp only at HO1 HO2 HX HY
    go_enter Tryd.func6, Tryd.ntmps6
    go_wp2_with fail
    refine HA.out.mono ?_
    rintro e w1 ⟨rfl, hb1⟩
    have HB1 := Lib.hid hb1
    clear hb1
    go_wp2_with fail
    refine (HX.out _ (HM.out.below HB1.out)).mono ?_
    rintro e w2 ⟨rfl, hb2⟩
    have HB2 := Lib.hid (HB1.out.trans (hb2.mono HB1.out.size))
    clear hb2
    go_wp2_with fail
    refine (HY.out _ (HM.out.below HB2.out)).mono ?_
    rintro e w3 ⟨rfl, hb3⟩
    have HB3 := Lib.hid (HB2.out.trans (hb3.mono HB2.out.size))
    clear hb3
    by_cases h1 : e1 = 0
    · by_cases h2 : e2 = 0
      · subst h1
        subst h2
        obtain ⟨p1, p2, p3⟩ := HO1.out rfl
        obtain ⟨q1, q2, q3⟩ := HO2.out rfl
        have htw : exp o c = some (x ++ y) := by rw [HTW.out x p2, q2]; rfl
        have hadd2 := add_str x y (by omega)
        by_cases h200 : 200 < c.length
        · obtain rfl := HE1.out h200
          have hl : (200 : Int) < (a.length : Int) + (b.length : Int) := by have := HCL.out; omega
          clear htw p2 q2 HE1 HE2 HE3 HTW
          go_wp2_with fail
          refine (HZ.out _ (HM.out.below HB3.out)).mono ?_
          rintro e w4 ⟨rfl, hb4⟩
          have HB4 := Lib.hid (HB3.out.trans (hb4.mono HB3.out.size))
          clear hb4
          go_wp2
          go_ret
          exact ⟨rfl, HB4.out⟩
        · have hl : ¬ (200 : Int) < (a.length : Int) + (b.length : Int) := by have := HCL.out; omega
          by_cases hr : 200 < (x ++ y).length
          · obtain rfl := HE2.out _ h200 htw hr
            have hl2 : (200 : Int) < (x.length : Int) + (y.length : Int) := by rw [List.length_append] at hr; omega
            clear htw p2 q2 HE1 HE2 HE3 HTW hr h200
            go_wp2_with fail
            refine (HZ.out _ (HM.out.below HB3.out)).mono ?_
            rintro e w4 ⟨rfl, hb4⟩
            have HB4 := Lib.hid (HB3.out.trans (hb4.mono HB3.out.size))
            clear hb4
            go_wp2
            go_ret
            exact ⟨rfl, HB4.out⟩
          · obtain rfl := HE3.out _ h200 htw hr
            have hl2 : ¬ (200 : Int) < (x.length : Int) + (y.length : Int) := by rw [List.length_append] at hr; omega
            clear htw p2 q2 HE1 HE2 HE3 HTW hr h200
            go_wp2_with fail
            refine (HZ.out _ (HM.out.below HB3.out)).mono ?_
            rintro e w4 ⟨rfl, hb4⟩
            have HB4 := Lib.hid (HB3.out.trans (hb4.mono HB3.out.size))
            clear hb4
            go_wp2
            go_ret
            exact ⟨rfl, HB4.out⟩
      · have hne : (e2 == 0) = false := by rw [beq_eq_false_iff_ne]; exact h2
        subst h1
        clear h2
        obtain ⟨z, k, rfl⟩ := HEZ.out
        go_wp2_with fail
        refine (HZ.out _ (HM.out.below HB3.out)).mono ?_
        rintro e w4 ⟨rfl, hb4⟩
        have HB4 := Lib.hid (HB3.out.trans (hb4.mono HB3.out.size))
        clear hb4
        go_wp2
        go_ret
        exact ⟨rfl, HB4.out⟩
    · have hne : (e1 == 0) = false := by rw [beq_eq_false_iff_ne]; exact h1
      clear h1
      obtain ⟨z, k, rfl⟩ := HEZ.out
      go_wp2_with fail
      refine (HZ.out _ (HM.out.below HB3.out)).mono ?_
      rintro e w4 ⟨rfl, hb4⟩
      have HB4 := Lib.hid (HB3.out.trans (hb4.mono HB3.out.size))
      clear hb4
      go_wp2
      go_ret
      exact ⟨rfl, HB4.out⟩
end Go.Proofs.YtbneikfonfpdgaaDoor
