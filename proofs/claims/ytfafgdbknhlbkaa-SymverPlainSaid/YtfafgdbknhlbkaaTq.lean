/-
  The law SymverPlain, walked.
-/
import Derived.Test.YtfafgdbknhlbkaaG
namespace Go.Proofs.Ytfafgdbknhlbkaa
open Go.RowKit

theorem Sx.set6 {w : World} {g : Nat} {s : Sym} (h : Sx w g s) (v : Bool) : Sx (w.setCell ⟨g, 6, none⟩ (.bool v)) g { s with dfd := v } := ⟨heap_setCell_same _ g 6 _ _ (.bool v) h.bx⟩
theorem Sx.set5 {w : World} {g : Nat} {s : Sym} (h : Sx w g s) (v : Int) : Sx (w.setCell ⟨g, 5, none⟩ (.int .i64 v)) g { s with vis := v } := ⟨heap_setCell_same _ g 5 _ _ (.int .i64 v) h.bx⟩
set_option maxHeartbeats 4000000 in
theorem plain_any (s : Sym) (v : Str) (w : World) : Calls Try.prog 9 #[symV s, str v] w fun e w' => e = .returned (.bool true) ∧ Below w.heap.size w w' := by
  have HB0 := Lib.hid (box_below w s)
  have HX0 := Lib.hid (Sx.new w s)
  have HA := Lib.hid (awake_any (w.alloc (.cells (symA s) 26)))
  go_enter Try.func9, Try.ntmps9
  go_upto_region 1 with (fail)
  generalize w.alloc (.cells (symA s) 26) = w0 at *
  go_wp2_with fail
  refine HA.out.mono ?_
  rintro e w1 ⟨rfl, hb⟩
  have HB1 := Lib.hid (HB0.out.trans (hb.mono HB0.out.size))
  have HX1 := Lib.hid (HX0.out.below hb)
  have f6 := HX1.out.frozen 6
  have f5 := HX1.out.frozen 5
  obtain ⟨c0, c1, c2, c3, c4, c5, c6, c7, c8⟩ := HX1.out.cells
  clear hb HB0 HX0 HA
  go_upto_region 4 with (fail)
  have HX2 := Lib.hid ((HX1.out.set6 true).set5 1)
  have HB2 := Lib.hid ((HB1.out.setCell (p := ⟨w.heap.size, 6, none⟩) (Nat.le_refl _) (.bool true)).setCell (p := ⟨w.heap.size, 5, none⟩) (Nat.le_refl _) (.int .i64 1))
  generalize (w1.setCell ⟨w.heap.size, 6, none⟩ (.bool true)).setCell ⟨w.heap.size, 5, none⟩ (.int .i64 1) = w2 at *
  clear HX1 HB1 c0 c1 c2 c3 c4 c5 c6 c7 c8 f5 f6
  obtain ⟨nm, vr, od, kd, wk, vs, df, vl, sz⟩ := s
  obtain ⟨c0, c1, c2, c3, c4, c5, c6, c7, c8⟩ := HX2.out.cells
  simp only at c0 c1 c2 c3 c4 c5 c6 c7 c8
  have HM1 := Lib.hid (fun w => match_any ⟨nm, [], false, 0, false, 0, false, 0, 0⟩ ⟨nm, vr, od, kd, wk, 1, true, vl, sz⟩ true w)
  rw [show matchB ⟨nm, [], false, 0, false, 0, false, 0, 0⟩ ⟨nm, vr, od, kd, wk, 1, true, vl, sz⟩ true = !od by simp [matchB, seenB]] at HM1
  have HM2 := Lib.hid (fun w => match_any ⟨nm, v, false, 0, false, 0, false, 0, 0⟩ ⟨nm, vr, od, kd, wk, 1, true, vl, sz⟩ false w)
  rw [show matchB ⟨nm, v, false, 0, false, 0, false, 0, 0⟩ ⟨nm, vr, od, kd, wk, 1, true, vl, sz⟩ false = (!v.isEmpty || !od) by cases hv : v.isEmpty <;> simp [matchB, seenB, hv]] at HM2
  have HS := Lib.hid (fun w => seen_any ⟨nm, vr, od, kd, wk, 1, true, vl, sz⟩ w)
  rw [show seenB ⟨nm, vr, od, kd, wk, 1, true, vl, sz⟩ = true by rfl] at HS
  go_wp2_with fail
  refine (HM1.out _).mono ?_
  rintro e w3 ⟨rfl, hb⟩
  have HB3 := Lib.hid (HB2.out.trans (hb.mono HB2.out.size))
  have HX3 := Lib.hid (HX2.out.below hb)
  clear hb HB2 HX2 c0 c1 c2 c3 c4 c5 c6 c7 c8 HM1
  obtain ⟨c0, c1, c2, c3, c4, c5, c6, c7, c8⟩ := HX3.out.cells
  simp only at c0 c1 c2 c3 c4 c5 c6 c7 c8
  go_wp2_with fail
  refine (HM2.out _).mono ?_
  rintro e w4 ⟨rfl, hb⟩
  have HB4 := Lib.hid (HB3.out.trans (hb.mono HB3.out.size))
  have HX4 := Lib.hid (HX3.out.below hb)
  clear hb HB3 HX3 c0 c1 c2 c3 c4 c5 c6 c7 c8 HM2
  obtain ⟨c0, c1, c2, c3, c4, c5, c6, c7, c8⟩ := HX4.out.cells
  simp only at c0 c1 c2 c3 c4 c5 c6 c7 c8
  cases hv : v.isEmpty
  · go_wp2_with fail
    refine (HS.out _).mono ?_
    rintro e w5 ⟨rfl, hb⟩
    have HB5 := Lib.hid (HB4.out.trans (hb.mono HB4.out.size))
    go_wp2_with fail
    go_ret
    exact ⟨rfl, HB5.out⟩
  · go_wp2_with fail
    refine (HS.out _).mono ?_
    rintro e w5 ⟨rfl, hb⟩
    have HB5 := Lib.hid (HB4.out.trans (hb.mono HB4.out.size))
    go_wp2_with fail
    go_ret
    exact ⟨rfl, HB5.out⟩
end Go.Proofs.Ytfafgdbknhlbkaa
