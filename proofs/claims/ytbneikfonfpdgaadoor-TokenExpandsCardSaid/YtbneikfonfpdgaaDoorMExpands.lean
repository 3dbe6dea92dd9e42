/-
  The law TokenExpands, walked.
-/
import Derived.Test.YtbneikfonfpdgaaDoorN
namespace Go.Proofs.YtbneikfonfpdgaaDoor
open Go.RowKit

set_option maxRecDepth 100000 in
set_option maxHeartbeats 1000000 in
theorem expands_any (t o : Str) (w : World) (ht : t.length ≤ 140737488351232) (ho : o.length ≤ 140737488351232) (hm : Ml w) :
    Calls Tryd.prog 3 #[str t, str o] w fun e w' => e = .returned (.bool true) ∧ Below w.heap.size w w' := by
  have HA := Lib.hid (awake_any w hm)
  by_cases h5 : 5000 < o.length
  · go_enter Tryd.func3, Tryd.ntmps3
    go_wp2_with fail
    refine HA.out.mono ?_
    rintro e w1 ⟨rfl, hb⟩
    go_wp2
    go_ret
    exact ⟨rfl, hb⟩
  · have H1 := Lib.hid (fun w1 (h : Ml w1) => expand_any t o w1 ht ho h)
    have H2 := Lib.hid (fun w1 => rexpand_any t o w1 ht (by omega))
    unfold Exps at H1 H2
    generalize expE o t = r at *
    obtain ⟨x, k⟩ := r
    have HM := Lib.hid hm
    clear hm
    go_enter Tryd.func3, Tryd.ntmps3
    go_wp2_with fail
    refine HA.out.mono ?_
    rintro e w1 ⟨rfl, hb1⟩
    have HB1 := Lib.hid hb1
    clear hb1
    go_wp2_with fail
    refine (H1.out _ (HM.out.below HB1.out)).mono ?_
    rintro e w2 ⟨rfl, hb2⟩
    have HB2 := Lib.hid (HB1.out.trans (hb2.mono HB1.out.size))
    clear hb2
    go_wp2_with fail
    refine (H2.out _).mono ?_
    rintro e w3 ⟨rfl, hb3⟩
    have HB3 := Lib.hid (HB2.out.trans (hb3.mono HB2.out.size))
    clear hb3
    go_wp2
    go_ret
    exact ⟨rfl, HB3.out⟩
end Go.Proofs.YtbneikfonfpdgaaDoor
