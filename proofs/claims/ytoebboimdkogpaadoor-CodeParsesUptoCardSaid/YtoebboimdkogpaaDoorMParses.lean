/-
  What any text is as instructions: the law's walk.
-/
import Derived.Test.YtoebboimdkogpaaDoorMLinesL
import Derived.Test.YtoebboimdkogpaaDoorTq
namespace Go.Proofs.YtoebboimdkogpaaDoor
open Go.RowKit

theorem typed_not {ls : List Str} {is : List Ins} {p : List Str} {x : Str} {more : List Str} (h : ls.map typedM = is.map some) (he : ls = p ++ x :: more) (hx : typedM x = none) : False := by
  have h1 : typedM x ∈ ls.map typedM := List.mem_map_of_mem (by rw [he]; simp)
  rw [h, hx] at h1
  simp at h1

set_option maxRecDepth 100000 in
set_option maxHeartbeats 4000000 in
theorem parses_any (s : Str) (w : World) (hs : s.length ≤ 1048576) (he : Env w) :
    Calls Tryd.prog 5 #[str s] w fun e w' => e = .returned (.bool true) ∧ Below w.heap.size w w' := by
  have HA := Lib.hid (awake_any w he)
  have HPA := Lib.hid (fun (w4 : World) (h4 : Below w.heap.size w w4) => parse_any s w4 (by omega) (by have := (lns_le s).1; omega) (fun x hx => by have := (lns_le s).2 x hx; omega) (he.below h4))
  have HRP := Lib.hid (fun (w4 : World) (h4 : Below w.heap.size w w4) => rparse_any s w4 hs (he.below h4))
  have HLN := Lib.hid (lns_le s).1
  generalize hLS : lns s = LS at *
  have HLS := Lib.hid hLS
  clear hLS he
  go_enter Tryd.func5, Tryd.ntmps5
  go_wp2_with fail
  refine HA.out.mono ?_
  rintro e w1 ⟨rfl, hb1⟩
  have HB1 := Lib.hid hb1
  clear hb1 HA
  go_wp2_with fail
  refine (HPA.out w1 HB1.out).mono ?_
  rintro e w2 ⟨hb2, ⟨is, A2, c2, hm, rfl, ho2⟩ | ⟨p, x, more, hm, hp, hx, rfl⟩⟩
  · have HB2 := Lib.hid (HB1.out.trans (hb2.mono HB1.out.size))
    rw [HLS.out] at hm
    have hil : is.length ≤ 4611686018427387904 := by
      have h1 := congrArg List.length hm
      have h2 := HLN.out
      simp only [List.length_map] at h1
      omega
    have HIL := Lib.hid hil
    have HM := Lib.hid hm
    have HI2 := Lib.hid (Isl.of_own ho2)
    clear hb2 hm ho2 hil HB1
    go_wp2_with fail
    refine (HRP.out w2 HB2.out).mono ?_
    rintro e w3 ⟨hb3, ⟨js, A3, c3, hm3, rfl, ho3⟩ | ⟨p, x, more, hm3, hp, hx, rfl⟩⟩
    · have HB3 := Lib.hid (HB2.out.trans (hb3.mono HB2.out.size))
      rw [HLS.out, HM.out] at hm3
      obtain rfl := map_some_inj hm3
      have HI3 := Lib.hid (HI2.out.lt.below hb3 (fun _ h => h))
      have HJ3 := Lib.hid (Isl.of_own ho3)
      clear hb3 hm3 ho3 HI2 HB2
      go_wp2_with fail
      refine (rsame_any _ _ A2 _ c2 is A3 _ c3 is w3 HI3.out HJ3.out HIL.out).mono ?_
      rintro e w6 ⟨rfl, hb6⟩
      have HB6 := Lib.hid (HB3.out.trans (hb6.mono HB3.out.size))
      have hdd : decide (is = is) = true := by simp
      clear hb6
      go_wp2_with fail
      go_ret
      exact ⟨by simp, HB6.out⟩
    · exact absurd (typed_not HM.out (HLS.out ▸ hm3) hx) id
  · have HB2 := Lib.hid (HB1.out.trans (hb2.mono HB1.out.size))
    rw [HLS.out] at hm
    have HM := Lib.hid hm
    have HP := Lib.hid hp
    have HX := Lib.hid hx
    clear hb2 hm hp hx HB1
    go_wp2_with fail
    refine (HRP.out w2 HB2.out).mono ?_
    rintro e w3 ⟨hb3, ⟨js, A3, c3, hm3, rfl, ho3⟩ | ⟨p', x', more', hm3, hp', hx', rfl⟩⟩
    · rw [HLS.out] at hm3
      exact absurd (typed_not hm3 HM.out HX.out) id
    · have HB3 := Lib.hid (HB2.out.trans (hb3.mono HB2.out.size))
      rw [HLS.out] at hm3
      have hpl := first_same p p' x x' more more' (HM.out.symm.trans hm3) HP.out HX.out hp' hx'
      rw [← hpl]
      clear hb3 hm3 hp' hx' hpl HB2 HM HP HX
      go_wp2_with fail
      refine (rsame_any (fun _ => True) (fun _ => True) none 0 0 [] none 0 0 [] _ (isl_none _ _) (isl_none _ _) (by omega)).mono ?_
      rintro e w6 ⟨rfl, hb6⟩
      have HB6 := Lib.hid (HB3.out.trans (hb6.mono HB3.out.size))
      clear hb6
      go_wp2_with fail
      go_ret
      exact ⟨by simp, HB6.out⟩
end Go.Proofs.YtoebboimdkogpaaDoor
