/-
  The law TokenPlain, walked.
-/
import Derived.Test.YtbneikfonfpdgaaDoorN
namespace Go.Proofs.YtbneikfonfpdgaaDoor
open Go.RowKit

set_option maxRecDepth 100000 in
set_option maxHeartbeats 1000000 in
theorem plain_any (t o : Str) (w : World) (ht : t.length ≤ 140737488351232) (ho : o.length ≤ 140737488351232) (hm : Ml w) :
    Calls Tryd.prog 5 #[str t, str o] w fun e w' => e = .returned (.bool true) ∧ Below w.heap.size w w' := by
  have HA := Lib.hid (awake_any w hm)
  have H1 := Lib.hid (fun w1 (h : Ml w1) => expand_any t o w1 ht ho h)
  have HM := Lib.hid hm
  have hz : (ByteArray.mk t.toArray).size = t.length := str_size t
  clear hm
  go_enter Tryd.func5, Tryd.ntmps5
  go_wp2_with fail
  refine HA.out.mono ?_
  rintro e w1 ⟨rfl, hb1⟩
  have HB1 := Lib.hid hb1
  clear hb1
  go_wp2_with fail
  go_loopw [6] (fun i wr => ∃ k : Nat, k ≤ t.length ∧ i = .int .i64 (k : Int) ∧ (∀ x ∈ t.take k, x ≠ 36) ∧ wr = w1) (fun i _ => t.length - (intOf i).toNat)
  case atStart => exact ⟨0, Nat.zero_le _, rfl, by simp, rfl⟩
  case round =>
    obtain ⟨k, hk, rfl, hno, rfl⟩ := hrel
    have HN := Lib.hid hno
    clear hno
    by_cases hlt : k < t.length
    · have hbyte : ({ data := t.toArray } : ByteArray)[k]'(by rw [hz]; exact hlt) = t[k] := rfl
      have HT := Lib.hid (List.take_succ_eq_append_getElem hlt)
      by_cases h36 : t[k] = 36
      · rw [h36] at hbyte
        clear h36
        go_wp2
        go_ret
        exact ⟨rfl, HB1.out⟩
      · have hne : ((((t[k]).toNat : Nat) : Int) == 36) = false := by
          rw [beq_eq_false_iff_ne]
          intro e
          apply h36
          apply UInt8.toNat_inj.1
          show (t[k]).toNat = 36
          omega
        have HN2 := Lib.hid (show ∀ x ∈ t.take (k + 1), x ≠ 36 by
          rw [HT.out]
          intro x hx
          rcases List.mem_append.1 hx with hx | hx
          · exact HN.out x hx
          · rw [List.mem_singleton.1 hx]; exact h36)
        clear h36
        go_wp2
        exact ⟨⟨k + 1, by omega, by go_num, HN2.out, trivial⟩, by simp [intOf]; omega⟩
    · obtain rfl : k = t.length := by omega
      rw [List.take_of_length_le (Nat.le_refl _)] at HN
      have HX := Lib.hid (exp_none o t HN.out)
      by_cases h200 : 200 < t.length
      · rw [exps_long h200] at H1
        go_wp2_with fail
        refine (H1.out _ (HM.out.below HB1.out)).mono ?_
        rintro e w2 ⟨rfl, hb2⟩
        have HB2 := Lib.hid (HB1.out.trans (hb2.mono HB1.out.size))
        clear hb2
        go_wp2
        go_ret
        exact ⟨rfl, HB2.out⟩
      · rw [exps_ok h200 HX.out h200] at H1
        go_wp2_with fail
        refine (H1.out _ (HM.out.below HB1.out)).mono ?_
        rintro e w2 ⟨rfl, hb2⟩
        have HB2 := Lib.hid (HB1.out.trans (hb2.mono HB1.out.size))
        clear hb2
        go_wp2
        go_ret
        exact ⟨rfl, HB2.out⟩
end Go.Proofs.YtbneikfonfpdgaaDoor
