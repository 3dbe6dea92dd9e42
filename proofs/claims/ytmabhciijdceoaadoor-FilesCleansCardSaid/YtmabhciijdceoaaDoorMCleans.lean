/-
  The law FilesCleans, walked.
-/
import Derived.Test.YtmabhciijdceoaaDoorL
import Derived.Test.YtmabhciijdceoaaDoorQ
namespace Go.Proofs.YtmabhciijdceoaaDoor
open Go.RowKit Go.Maps

set_option maxRecDepth 100000 in
set_option maxHeartbeats 1000000 in
theorem cleans_any (l : Str) (w : World) (hl : l.length ≤ 9223372036854775807) (hm : Ml w) : Calls Tryd.prog 3 #[str l] w fun e w' => e = .returned (.bool true) ∧ Below w.heap.size w w' := by
  have hp := hm.pos
  have HAW := Lib.hid (awake_any w hm)
  have HC := Lib.hid (fun w1 (hb : Below w.heap.size w w1) => clean_any l w1 hl (hm.below hb hp))
  have HW := Lib.hid (fun w1 (hb : Below w.heap.size w w1) => within_any l w1 hl (hm.below hb hp))
  have HRC := Lib.hid (fun w1 => rclean_any l w1 hl)
  have HRW := Lib.hid (fun w1 => rwithin_any l w1 hl)
  generalize within l = q at *
  obtain ⟨qt, qe⟩ := q
  generalize clean l = c at *
  obtain ⟨ct, ce⟩ := c
  simp only at *
  clear hm
  go_enter Tryd.func3, Tryd.ntmps3
  go_wp2_with fail
  refine HAW.out.mono ?_
  rintro e w1 ⟨rfl, hb⟩
  have HB1 := Lib.hid hb
  clear hb HAW
  go_wp2_with fail
  refine (HC.out _ HB1.out).mono ?_
  rintro e w2 ⟨rfl, hb⟩
  have HB2 := Lib.hid (HB1.out.trans (hb.mono HB1.out.size))
  clear hb HC HB1
  go_wp2_with fail
  refine (HRC.out _).mono ?_
  rintro e w3 ⟨rfl, hb⟩
  have HB3 := Lib.hid (HB2.out.trans (hb.mono HB2.out.size))
  clear hb HRC HB2
  go_wp2_with fail
  refine (HW.out _ HB3.out).mono ?_
  rintro e w4 ⟨rfl, hb⟩
  have HB4 := Lib.hid (HB3.out.trans (hb.mono HB3.out.size))
  clear hb HW HB3
  go_wp2_with fail
  refine (HRW.out _).mono ?_
  rintro e w5 ⟨rfl, hb⟩
  have HB5 := Lib.hid (HB4.out.trans (hb.mono HB4.out.size))
  clear hb HRW HB4
  go_wp2
  go_ret
  refine ⟨?_, HB5.out⟩
  rfl
end Go.Proofs.YtmabhciijdceoaaDoor
