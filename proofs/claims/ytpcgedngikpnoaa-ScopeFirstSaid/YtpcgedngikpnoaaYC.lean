/-
  The document's text of a symbol; which symbols are valid, and which definition a reference matches.
-/
import Derived.Test.YtpcgedngikpnoaaYB
namespace Go.Proofs.Ytpcgedngikpnoaa
set_option maxRecDepth 100000
set_option linter.unusedSimpArgs false
set_option linter.unusedVariables false
open Go.RowKit

def okV (b : Bool) : Value := .int .i64 (if b then 0 else 70)
theorem ret_ok {b : Bool} (h : b = true) : Ending.returned (.int .i64 0) = .returned (okV b) := by rw [h]; rfl
theorem ret_no {b : Bool} (h : b = false) : Ending.returned (.int .i64 70) = .returned (okV b) := by rw [h]; rfl
def matchB (r d : Sym) (v : Bool) : Bool := if !seenB d || d.name != r.name then false else if r.ver.isEmpty then !d.old else !v || d.ver == r.ver
theorem two_below (w : World) (r d : Sym) : Below w.heap.size w ((w.alloc (.cells (symA r) 25)).alloc (.cells (symA d) 25)) := (box_below w r).alloc (by simp) _
theorem match_any (r d : Sym) (v : Bool) (w : World) : Calls Try.prog 49 #[symV r, symV d, .bool v] w fun e w' => e = .returned (.bool (matchB r d v)) ∧ Below w.heap.size w w' := by
  have HB := Lib.hid (two_below w r d)
  have HX := Lib.hid ((Sx.new w r).below ((Below.refl _ _).alloc (by simp) (.cells (symA d) 25)))
  have HY := Lib.hid (Sx.new (w.alloc (.cells (symA r) 25)) d)
  rw [World.size_alloc] at HY
  generalize hw1 : (w.alloc (.cells (symA r) 25)).alloc (.cells (symA d) 25) = w1 at *
  obtain ⟨c0, c1, c2, c3, c4, c5, c6, c7, c8⟩ := HX.out.cells
  obtain ⟨e0, e1, e2, e3, e4, e5, e6, e7, e8⟩ := HY.out.cells
  have HC := Lib.hid (seen_any d w1)
  go_enter Try.func49, Try.ntmps49
  go_wp2_with fail
  refine HC.out.mono ?_
  rintro e w2 ⟨rfl, hb⟩
  have HB2 := Lib.hid (HB.out.trans (hb.mono HB.out.size))
  have HX2 := Lib.hid (HX.out.below hb)
  have HY2 := Lib.hid (HY.out.below hb)
  clear c0 c1 c2 c3 c4 c5 c6 c7 c8 e0 e1 e2 e3 e4 e5 e6 e7 e8 hb HB HC HX HY
  obtain ⟨c0, c1, c2, c3, c4, c5, c6, c7, c8⟩ := HX2.out.cells
  obtain ⟨e0, e1, e2, e3, e4, e5, e6, e7, e8⟩ := HY2.out.cells
  cases hs : seenB d
  · have HM := Lib.hid (show matchB r d v = false by simp [matchB, hs])
    clear hs
    go_wp2_with fail
    go_ret
    exact ⟨ret_bool (by rw [HM.out]), HB2.out⟩
  by_cases hn : d.name = r.name
  · have HM := Lib.hid (show matchB r d v = if r.ver.isEmpty then !d.old else !v || d.ver == r.ver by simp [matchB, hs, hn])
    rw [hn] at e0
    clear hs hn
    have HV := Lib.hid (has_any r w2)
    go_wp2_with fail
    refine HV.out.mono ?_
    rintro e w3 ⟨rfl, hb⟩
    have HB3 := Lib.hid (HB2.out.trans (hb.mono HB2.out.size))
    have HX3 := Lib.hid (HX2.out.below hb)
    have HY3 := Lib.hid (HY2.out.below hb)
    clear c0 c1 c2 c3 c4 c5 c6 c7 c8 e0 e1 e2 e3 e4 e5 e6 e7 e8 hb HB2 HV HX2 HY2
    obtain ⟨c0, c1, c2, c3, c4, c5, c6, c7, c8⟩ := HX3.out.cells
    obtain ⟨e0, e1, e2, e3, e4, e5, e6, e7, e8⟩ := HY3.out.cells
    cases hv : r.ver.isEmpty
    · rw [show hasB r = true by simp [hasB, hv]]
      rw [hv] at HM
      clear hv
      go_wp2_with fail
      all_goals
        go_ret
        refine ⟨ret_bool ?_, HB3.out⟩
        rw [HM.out]
        simp [*]
    · rw [show hasB r = false by simp [hasB, hv]]
      rw [hv] at HM
      clear hv
      go_wp2_with fail
      go_ret
      refine ⟨ret_bool ?_, HB3.out⟩
      rw [HM.out]
      simp
  · have HM := Lib.hid (show matchB r d v = false by simp [matchB, hs, hn])
    clear hs
    have hn' : (d.name == r.name) = false := by simpa using hn
    clear hn
    go_wp2_with fail
    all_goals
      go_ret
      exact ⟨ret_bool (by rw [HM.out]), HB2.out⟩
theorem rmatch_any (r d : Sym) (v : Bool) (w : World) : Calls Try.prog 39 #[symV r, symV d, .bool v] w fun e w' => e = .returned (.bool (matchB r d v)) ∧ Below w.heap.size w w' := by
  have HB := Lib.hid (two_below w r d)
  have HX := Lib.hid ((Sx.new w r).below ((Below.refl _ _).alloc (by simp) (.cells (symA d) 25)))
  have HY := Lib.hid (Sx.new (w.alloc (.cells (symA r) 25)) d)
  rw [World.size_alloc] at HY
  generalize hw1 : (w.alloc (.cells (symA r) 25)).alloc (.cells (symA d) 25) = w1 at *
  obtain ⟨c0, c1, c2, c3, c4, c5, c6, c7, c8⟩ := HX.out.cells
  obtain ⟨e0, e1, e2, e3, e4, e5, e6, e7, e8⟩ := HY.out.cells
  have HC := Lib.hid (rseen_any d w1)
  go_enter Try.func39, Try.ntmps39
  go_wp2_with fail
  refine HC.out.mono ?_
  rintro e w2 ⟨rfl, hb⟩
  have HB2 := Lib.hid (HB.out.trans (hb.mono HB.out.size))
  have HX2 := Lib.hid (HX.out.below hb)
  have HY2 := Lib.hid (HY.out.below hb)
  clear c0 c1 c2 c3 c4 c5 c6 c7 c8 e0 e1 e2 e3 e4 e5 e6 e7 e8 hb HB HC HX HY
  obtain ⟨c0, c1, c2, c3, c4, c5, c6, c7, c8⟩ := HX2.out.cells
  obtain ⟨e0, e1, e2, e3, e4, e5, e6, e7, e8⟩ := HY2.out.cells
  cases hs : seenB d
  · have HM := Lib.hid (show matchB r d v = false by simp [matchB, hs])
    clear hs
    go_wp2_with fail
    go_ret
    exact ⟨ret_bool (by rw [HM.out]), HB2.out⟩
  by_cases hn : d.name = r.name
  · have HM := Lib.hid (show matchB r d v = if r.ver.isEmpty then !d.old else !v || d.ver == r.ver by simp [matchB, hs, hn])
    rw [hn] at e0
    clear hs hn
    cases hv : r.ver.isEmpty
    · rw [hv] at HM
      go_wp2_with fail
      all_goals
        go_ret
        refine ⟨ret_bool ?_, HB2.out⟩
        rw [HM.out]
        simp [*]
        try exact eq_comm
    · rw [hv] at HM
      go_wp2_with fail
      go_ret
      refine ⟨ret_bool ?_, HB2.out⟩
      rw [HM.out]
      simp
  · have HM := Lib.hid (show matchB r d v = false by simp [matchB, hs, hn])
    clear hs
    have hn' : (r.name == d.name) = false := by simpa using fun e => hn e.symm
    clear hn
    go_wp2_with fail
    all_goals
      go_ret
      exact ⟨ret_bool (by rw [HM.out]), HB2.out⟩
end Go.Proofs.Ytpcgedngikpnoaa
