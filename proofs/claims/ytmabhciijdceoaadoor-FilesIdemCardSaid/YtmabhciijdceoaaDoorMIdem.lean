/-
  The law FilesIdem, walked.
-/
import Derived.Test.YtmabhciijdceoaaDoorL
import Derived.Test.YtmabhciijdceoaaDoorM
namespace Go.Proofs.YtmabhciijdceoaaDoor
open Go.RowKit Go.Maps

theorem clean_two (l : Str) : (clean l).2 = 0 ∨ (clean l = ([], 30)) := by
  unfold clean
  cases absParts l <;> simp
set_option maxRecDepth 100000 in
set_option maxHeartbeats 1000000 in
theorem idem_any (l : Str) (w : World) (hl : l.length ≤ 9223372036854775807) (hm : Ml w) : Calls Tryd.prog 4 #[str l] w fun e w' => e = .returned (.bool true) ∧ Below w.heap.size w w' := by
  have hp := hm.pos
  have HAW := Lib.hid (awake_any w hm)
  have HML := Lib.hid (fun w1 (hb : Below w.heap.size w w1) => hm.below hb hp)
  rcases clean_two l with h0 | h0
  · have hid := clean_idem l h0
    obtain ⟨e1, e2, e3, e4, e5, r, e6⟩ := hid
    have hpl : (clean l).1.length ≤ 9223372036854775807 := by omega
    have HC := Lib.hid (fun w1 (hb : Below w.heap.size w w1) => clean_any l w1 hl (HML.out w1 hb))
    have HC2 := Lib.hid (fun w1 (hb : Below w.heap.size w w1) => clean_any (clean l).1 w1 hpl (HML.out w1 hb))
    have HW1 := Lib.hid (fun w1 (hb : Below w.heap.size w w1) => within_any (clean l).1 w1 hpl (HML.out w1 hb))
    have HW2 := Lib.hid (fun w1 (hb : Below w.heap.size w w1) => within_any l w1 hl (HML.out w1 hb))
    rw [e1] at HC2
    rw [e2] at HW1
    generalize within l = q at *
    obtain ⟨qt, qe⟩ := q
    generalize clean l = c at *
    obtain ⟨ct, ce⟩ := c
    simp only at *
    subst h0
    subst e3
    subst e6
    simp only [List.length_cons] at e5 hpl
    clear hm e1 e2 e4
    go_enter Tryd.func4, Tryd.ntmps4
    go_wp2_with fail
    refine HAW.out.mono ?_
    rintro e w1 ⟨rfl, hb1⟩
    have HB1 := Lib.hid hb1
    clear hb1 HAW
    go_wp2_with fail
    refine (HC.out _ HB1.out).mono ?_
    rintro e w2 ⟨rfl, hb⟩
    have HB2 := Lib.hid (HB1.out.trans (hb.mono HB1.out.size))
    clear hb HC HB1
    go_wp2_with fail
    refine (HC2.out _ HB2.out).mono ?_
    rintro e w3 ⟨rfl, hb⟩
    have HB3 := Lib.hid (HB2.out.trans (hb.mono HB2.out.size))
    clear hb HC2 HB2
    go_wp2_with fail
    refine (HW1.out _ HB3.out).mono ?_
    rintro e w4 ⟨rfl, hb⟩
    have HB4 := Lib.hid (HB3.out.trans (hb.mono HB3.out.size))
    clear hb HW1 HB3
    go_wp2_with fail
    refine (HW2.out _ HB4.out).mono ?_
    rintro e w5 ⟨rfl, hb⟩
    have HB5 := Lib.hid (HB4.out.trans (hb.mono HB4.out.size))
    clear hb HW2 HB4
    go_wp2
    go_ret
    refine ⟨?_, HB5.out⟩
    rfl
  · have HC := Lib.hid (fun w1 (hb : Below w.heap.size w w1) => clean_any l w1 hl (HML.out w1 hb))
    rw [h0] at HC
    clear hm
    go_enter Tryd.func4, Tryd.ntmps4
    go_wp2_with fail
    refine HAW.out.mono ?_
    rintro e w1 ⟨rfl, hb1⟩
    have HB1 := Lib.hid hb1
    clear hb1 HAW
    go_wp2_with fail
    refine (HC.out _ HB1.out).mono ?_
    rintro e w2 ⟨rfl, hb⟩
    have HB2 := Lib.hid (HB1.out.trans (hb.mono HB1.out.size))
    clear hb HC HB1
    go_wp2
    go_ret
    exact ⟨rfl, HB2.out⟩
end Go.Proofs.YtmabhciijdceoaaDoor
