/-
  The document's examples.
-/
import Derived.Test.YtfafgdbknhlbkaaF
namespace Go.Proofs.Ytfafgdbknhlbkaa
open Go.RowKit

def s1 : Sym := ⟨[102], [86, 49], true, 0, false, 0, true, 0, 0⟩
def s2 : Sym := ⟨[102], [86, 49], false, 0, false, 0, true, 0, 0⟩
def s0 : Sym := ⟨[102], [], false, 0, false, 0, false, 0, 0⟩
theorem p1 : parseV (parseS [102, 64, 86, 49] true) = .tuple #[.agg #[.string ⟨#[102]⟩, .string ⟨#[86, 49]⟩, .bool true, .int .i64 0, .bool false, .int .i64 0, .bool true, .int .i64 0, .int .i64 0], .int .i64 0] := by rfl
theorem p2 : parseV (parseS [102, 64, 64, 86, 49] true) = .tuple #[.agg #[.string ⟨#[102]⟩, .string ⟨#[86, 49]⟩, .bool false, .int .i64 0, .bool false, .int .i64 0, .bool true, .int .i64 0, .int .i64 0], .int .i64 0] := by rfl
theorem p3 : parseV (parseS [102, 64, 64, 86, 49] false) = .tuple #[.agg #[.string ⟨#[]⟩, .string ⟨#[]⟩, .bool false, .int .i64 0, .bool false, .int .i64 0, .bool false, .int .i64 0, .int .i64 0], .int .i64 70] := by rfl
set_option maxHeartbeats 4000000 in
theorem awake_any (w : World) : Calls Try.prog 10 #[] w fun e w' => e = .returned (.bool true) ∧ Below w.heap.size w w' := by
  have H1 := Lib.hid (fun w => parse_any [102, 64, 86, 49] true w (by simp))
  have H2 := Lib.hid (fun w => parse_any [102, 64, 64, 86, 49] true w (by simp))
  have H3 := Lib.hid (fun w => parse_any [102, 64, 64, 86, 49] false w (by simp))
  have M1 := Lib.hid (fun w => match_any s0 s2 true w)
  have M2 := Lib.hid (fun w => match_any s0 s1 true w)
  rw [p1] at H1
  rw [p2] at H2
  rw [p3] at H3
  rw [show matchB s0 s2 true = true by rfl] at M1
  rw [show matchB s0 s1 true = false by rfl] at M2
  go_enter Try.func10, Try.ntmps10
  go_wp2_with fail
  refine (H1.out _).mono ?_
  rintro e w1 ⟨rfl, hb⟩
  have HB1 := Lib.hid (hb.alloc hb.size (.cells #[.string ⟨#[102]⟩, .string ⟨#[86, 49]⟩, .bool true, .int .i64 0, .bool false, .int .i64 0, .bool true, .int .i64 0, .int .i64 0] 26))
  have HX1 := Lib.hid (show Sx (w1.alloc (.cells #[.string ⟨#[102]⟩, .string ⟨#[86, 49]⟩, .bool true, .int .i64 0, .bool false, .int .i64 0, .bool true, .int .i64 0, .int .i64 0] 26)) w1.heap.size s1 from Sx.new w1 s1)
  clear hb
  go_upto_region 2 with (fail)
  generalize w1.alloc (.cells #[.string ⟨#[102]⟩, .string ⟨#[86, 49]⟩, .bool true, .int .i64 0, .bool false, .int .i64 0, .bool true, .int .i64 0, .int .i64 0] 26) = w2 at *
  generalize w1.heap.size = g1 at *
  go_wp2_with fail
  refine (H2.out _).mono ?_
  rintro e w3 ⟨rfl, hb⟩
  have HB3 := Lib.hid ((HB1.out.trans (hb.mono HB1.out.size)).alloc (HB1.out.trans (hb.mono HB1.out.size)).size (.cells #[.string ⟨#[102]⟩, .string ⟨#[86, 49]⟩, .bool false, .int .i64 0, .bool false, .int .i64 0, .bool true, .int .i64 0, .int .i64 0] 26))
  have HX3 := Lib.hid (show Sx (w3.alloc (.cells #[.string ⟨#[102]⟩, .string ⟨#[86, 49]⟩, .bool false, .int .i64 0, .bool false, .int .i64 0, .bool true, .int .i64 0, .int .i64 0] 26)) w3.heap.size s2 from Sx.new w3 s2)
  have HY3 := Lib.hid (show Sx (w3.alloc (.cells #[.string ⟨#[102]⟩, .string ⟨#[86, 49]⟩, .bool false, .int .i64 0, .bool false, .int .i64 0, .bool true, .int .i64 0, .int .i64 0] 26)) g1 s1 from ⟨(HX1.out.below hb).bx.alloc _⟩)
  clear hb HB1 HX1
  go_upto_region 3 with (fail)
  generalize w3.alloc (.cells #[.string ⟨#[102]⟩, .string ⟨#[86, 49]⟩, .bool false, .int .i64 0, .bool false, .int .i64 0, .bool true, .int .i64 0, .int .i64 0] 26) = w4 at *
  generalize w3.heap.size = g2 at *
  go_wp2_with fail
  refine (H3.out _).mono ?_
  rintro e w5 ⟨rfl, hb⟩
  have HB5 := Lib.hid ((HB3.out.trans (hb.mono HB3.out.size)).alloc (HB3.out.trans (hb.mono HB3.out.size)).size (.cells #[.string ⟨#[]⟩, .string ⟨#[]⟩, .bool false, .int .i64 0, .bool false, .int .i64 0, .bool false, .int .i64 0, .int .i64 0] 26))
  have HX5 := Lib.hid (show Sx (w5.alloc (.cells #[.string ⟨#[]⟩, .string ⟨#[]⟩, .bool false, .int .i64 0, .bool false, .int .i64 0, .bool false, .int .i64 0, .int .i64 0] 26)) g2 s2 from ⟨(HX3.out.below hb).bx.alloc _⟩)
  have HY5 := Lib.hid (show Sx (w5.alloc (.cells #[.string ⟨#[]⟩, .string ⟨#[]⟩, .bool false, .int .i64 0, .bool false, .int .i64 0, .bool false, .int .i64 0, .int .i64 0] 26)) g1 s1 from ⟨(HY3.out.below hb).bx.alloc _⟩)
  clear hb HB3 HX3 HY3
  go_upto_region 4 with (fail)
  generalize w5.alloc (.cells #[.string ⟨#[]⟩, .string ⟨#[]⟩, .bool false, .int .i64 0, .bool false, .int .i64 0, .bool false, .int .i64 0, .int .i64 0] 26) = w6 at *
  obtain ⟨c0, c1, c2, c3, c4, c5, c6, c7, c8⟩ := HX5.out.cells
  obtain ⟨d0, d1, d2, d3, d4, d5, d6, d7, d8⟩ := HY5.out.cells
  simp only [s1] at d0 d1 d2 d3 d4 d5 d6 d7 d8
  simp only [s2] at c0 c1 c2 c3 c4 c5 c6 c7 c8
  go_wp2_with fail
  refine (M1.out _).mono ?_
  rintro e w7 ⟨rfl, hb⟩
  have HB7 := Lib.hid (HB5.out.trans (hb.mono HB5.out.size))
  have HY7 := Lib.hid (HY5.out.below hb)
  clear hb HB5 HX5 HY5 c0 c1 c2 c3 c4 c5 c6 c7 c8 d0 d1 d2 d3 d4 d5 d6 d7 d8
  obtain ⟨d0, d1, d2, d3, d4, d5, d6, d7, d8⟩ := HY7.out.cells
  simp only [s1] at d0 d1 d2 d3 d4 d5 d6 d7 d8
  go_wp2_with fail
  refine (M2.out _).mono ?_
  rintro e w8 ⟨rfl, hb⟩
  have HB8 := Lib.hid (HB7.out.trans (hb.mono HB7.out.size))
  clear hb HB7 HY7 d0 d1 d2 d3 d4 d5 d6 d7 d8
  go_wp2_with fail
  go_ret
  exact ⟨rfl, HB8.out⟩
end Go.Proofs.Ytfafgdbknhlbkaa
