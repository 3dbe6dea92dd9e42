/-
  The document's text of a symbol; which symbols are valid, and which definition a reference matches.
-/
import Derived.Test.YtfafgdbknhlbkaaB
namespace Go.Proofs.Ytfafgdbknhlbkaa
open Go.RowKit

theorem rprint_any (s : Sym) (w : World) (hl : s.name.length + s.ver.length + 2 ≤ 9223372036854775807) : Calls Try.prog 17 #[symV s] w fun e w' => e = .returned (str (printS s)) ∧ Below w.heap.size w w' := by
  have HB := Lib.hid (box_below w s)
  have HX := Lib.hid (Sx.new w s)
  generalize hw1 : w.alloc (.cells (symA s) 26) = w1 at *
  obtain ⟨c0, c1, c2, c3, c4, c5, c6, c7, c8⟩ := HX.out.cells
  have l1 : s.name.length + 2 ≤ 9223372036854775807 := by omega
  have l2 : s.name.length + 2 + s.ver.length ≤ 9223372036854775807 := by omega
  have l3 : s.name.length + 1 ≤ 9223372036854775807 := by omega
  have l4 : s.name.length + 1 + s.ver.length ≤ 9223372036854775807 := by omega
  have l5 : s.name.length + 1 + 1 ≤ 9223372036854775807 := by omega
  go_enter Try.func17, Try.ntmps17
  go_wp2_with fail
  all_goals
    go_ret
    refine ⟨ret_str ?_, HB.out⟩
    cases hv : s.ver.isEmpty <;> simp_all [printS]

theorem hastext_any (s : Sym) (w : World) : Calls Try.prog 28 #[symV s] w fun e w' => e = .returned (.bool (textB s)) ∧ Below w.heap.size w w' := by
  have HB := Lib.hid (box_below w s)
  have HX := Lib.hid (Sx.new w s)
  have HC := Lib.hid (has_any s (w.alloc (.cells (symA s) 26)))
  generalize hw1 : w.alloc (.cells (symA s) 26) = w1 at *
  obtain ⟨c0, c1, c2, c3, c4, c5, c6, c7, c8⟩ := HX.out.cells
  go_enter Try.func28, Try.ntmps28
  go_wp2_with fail
  refine HC.out.mono ?_
  rintro e w2 ⟨rfl, hb⟩
  have HB2 := Lib.hid (HB.out.trans (hb.mono HB.out.size))
  have HX2 := Lib.hid (HX.out.below hb)
  obtain ⟨d0, d1, d2, d3, d4, d5, d6, d7, d8⟩ := HX2.out.cells
  clear c0 c1 c2 c3 c4 c5 c6 c7 c8 hb HB HC HX
  have HN := Lib.hid (name_any s.name w2)
  have HV := Lib.hid (name_any s.ver w2)
  cases hv : s.ver.isEmpty
  · have HE := Lib.hid (show textB s = (nameB s.name && nameB s.ver) by simp [textB, hv])
    rw [show hasB s = true by simp [hasB, hv]]
    clear hv
    go_wp2_with fail
    refine HN.out.mono ?_
    rintro e w3 ⟨rfl, rfl⟩
    cases hn : nameB s.name
    · go_wp2_with fail
      go_ret
      refine ⟨ret_bool ?_, HB2.out⟩
      rw [HE.out, hn]
      simp
    · go_wp2_with fail
      refine HV.out.mono ?_
      rintro e w3 ⟨rfl, rfl⟩
      go_wp2_with fail
      go_ret
      refine ⟨ret_bool ?_, HB2.out⟩
      rw [HE.out, hn]
      simp
  · have HE := Lib.hid (show textB s = (nameB s.name && !s.old) by simp [textB, hv])
    rw [show hasB s = false by simp [hasB, hv]]
    clear hv
    go_wp2_with fail
    refine HN.out.mono ?_
    rintro e w3 ⟨rfl, rfl⟩
    cases hn : nameB s.name
    · go_wp2_with fail
      go_ret
      refine ⟨ret_bool ?_, HB2.out⟩
      rw [HE.out, hn]
      simp
    · go_wp2_with fail
      go_ret
      refine ⟨ret_bool ?_, HB2.out⟩
      rw [HE.out, hn]
      simp

def okV (b : Bool) : Value := .int .i64 (if b then 0 else 70)
theorem ret_ok {b : Bool} (h : b = true) : Ending.returned (.int .i64 0) = .returned (okV b) := by rw [h]; rfl
theorem ret_no {b : Bool} (h : b = false) : Ending.returned (.int .i64 70) = .returned (okV b) := by rw [h]; rfl
set_option maxHeartbeats 1000000 in
theorem right_any (s : Sym) (w : World) : Calls Try.prog 15 #[symV s] w fun e w' => e = .returned (okV (rightB s)) ∧ Below w.heap.size w w' := by
  have HB := Lib.hid (box_below w s)
  have HX := Lib.hid (Sx.new w s)
  generalize hw1 : w.alloc (.cells (symA s) 26) = w1 at *
  obtain ⟨c0, c1, c2, c3, c4, c5, c6, c7, c8⟩ := HX.out.cells
  have HC := Lib.hid (hastext_any s w1)
  have HR := Lib.hid (show rightB s = (textB s && fieldsB s && (s.dfd || !defB s)) from rfl)
  go_enter Try.func15, Try.ntmps15
  go_wp2_with fail
  refine HC.out.mono ?_
  rintro e w2 ⟨rfl, hb⟩
  have HB2 := Lib.hid (HB.out.trans (hb.mono HB.out.size))
  have HX2 := Lib.hid (HX.out.below hb)
  obtain ⟨d0, d1, d2, d3, d4, d5, d6, d7, d8⟩ := HX2.out.cells
  clear c0 c1 c2 c3 c4 c5 c6 c7 c8 hb HB HC HX
  cases ht : textB s
  · rw [ht] at HR
    clear ht
    go_wp2_with fail
    go_ret
    exact ⟨ret_no (by rw [HR.out]; simp), HB2.out⟩
  rw [ht] at HR
  clear ht
  have HF := Lib.hid (fields_any s w2)
  go_wp2_with fail
  refine HF.out.mono ?_
  rintro e w3 ⟨rfl, hb⟩
  have HB3 := Lib.hid (HB2.out.trans (hb.mono HB2.out.size))
  have HX3 := Lib.hid (HX2.out.below hb)
  clear d0 d1 d2 d3 d4 d5 d6 d7 d8 hb HF HX2 HB2
  obtain ⟨d0, d1, d2, d3, d4, d5, d6, d7, d8⟩ := HX3.out.cells
  cases ht : fieldsB s
  · rw [ht] at HR
    go_wp2_with fail
    go_ret
    exact ⟨ret_no (by rw [HR.out]; simp), HB3.out⟩
  rw [ht] at HR
  clear ht
  cases hd : s.dfd
  · rw [hd] at HR d6
    have h := hasdef_any s w3
    unfold symV symA at h
    rw [hd] at h
    have HD := Lib.hid h
    clear h
    go_wp2_with fail
    refine HD.out.mono ?_
    rintro e w4 ⟨rfl, hb⟩
    have HB4 := Lib.hid (HB3.out.trans (hb.mono HB3.out.size))
    clear hb HB3
    cases ht : defB s
    · rw [ht] at HR
      go_wp2_with fail
      go_ret
      exact ⟨ret_ok (by rw [HR.out]; simp), HB4.out⟩
    · rw [ht] at HR
      go_wp2_with fail
      go_ret
      exact ⟨ret_no (by rw [HR.out]; simp), HB4.out⟩
  · rw [hd] at HR d6
    go_wp2_with fail
    go_ret
    exact ⟨ret_ok (by rw [HR.out]; simp), HB3.out⟩

def matchB (r d : Sym) (v : Bool) : Bool := if !seenB d || d.name != r.name then false else if r.ver.isEmpty then !d.old else !v || d.ver == r.ver
theorem two_below (w : World) (r d : Sym) : Below w.heap.size w ((w.alloc (.cells (symA r) 26)).alloc (.cells (symA d) 26)) := (box_below w r).alloc (by simp) _
theorem match_any (r d : Sym) (v : Bool) (w : World) : Calls Try.prog 21 #[symV r, symV d, .bool v] w fun e w' => e = .returned (.bool (matchB r d v)) ∧ Below w.heap.size w w' := by
  have HB := Lib.hid (two_below w r d)
  have HX := Lib.hid ((Sx.new w r).below ((Below.refl _ _).alloc (by simp) (.cells (symA d) 26)))
  have HY := Lib.hid (Sx.new (w.alloc (.cells (symA r) 26)) d)
  rw [World.size_alloc] at HY
  generalize hw1 : (w.alloc (.cells (symA r) 26)).alloc (.cells (symA d) 26) = w1 at *
  obtain ⟨c0, c1, c2, c3, c4, c5, c6, c7, c8⟩ := HX.out.cells
  obtain ⟨e0, e1, e2, e3, e4, e5, e6, e7, e8⟩ := HY.out.cells
  have HC := Lib.hid (seen_any d w1)
  go_enter Try.func21, Try.ntmps21
  go_wp2_with fail
  refine HC.out.mono ?_
  rintro e w2 ⟨rfl, hb⟩
  have HB2 := Lib.hid (HB.out.trans (hb.mono HB.out.size))
  have HX2 := Lib.hid (HX.out.below hb)
  have HY2 := Lib.hid (HY.out.below hb)
  clear c0 c1 c2 c3 c4 c5 c6 c7 c8 e0 e1 e2 e3 e4 e5 e6 e7 e8 hb HB HC HX HY
  obtain ⟨c0, c1, c2, c3, c4, c5, c6, c7, c8⟩ := HX2.out.cells
  obtain ⟨e0, e1, e2, e3, e4, e5, e6, e7, e8⟩ := HY2.out.cells
  cases hs : seenB d
  · have HM := Lib.hid (show matchB r d v = false by simp [matchB, hs])
    clear hs
    go_wp2_with fail
    go_ret
    exact ⟨ret_bool (by rw [HM.out]), HB2.out⟩
  by_cases hn : d.name = r.name
  · have HM := Lib.hid (show matchB r d v = if r.ver.isEmpty then !d.old else !v || d.ver == r.ver by simp [matchB, hs, hn])
    rw [hn] at e0
    clear hs hn
    have HV := Lib.hid (has_any r w2)
    go_wp2_with fail
    refine HV.out.mono ?_
    rintro e w3 ⟨rfl, hb⟩
    have HB3 := Lib.hid (HB2.out.trans (hb.mono HB2.out.size))
    have HX3 := Lib.hid (HX2.out.below hb)
    have HY3 := Lib.hid (HY2.out.below hb)
    clear c0 c1 c2 c3 c4 c5 c6 c7 c8 e0 e1 e2 e3 e4 e5 e6 e7 e8 hb HB2 HV HX2 HY2
    obtain ⟨c0, c1, c2, c3, c4, c5, c6, c7, c8⟩ := HX3.out.cells
    obtain ⟨e0, e1, e2, e3, e4, e5, e6, e7, e8⟩ := HY3.out.cells
    cases hv : r.ver.isEmpty
    · rw [show hasB r = true by simp [hasB, hv]]
      rw [hv] at HM
      clear hv
      go_wp2_with fail
      all_goals
        go_ret
        refine ⟨ret_bool ?_, HB3.out⟩
        rw [HM.out]
        simp [*]
    · rw [show hasB r = false by simp [hasB, hv]]
      rw [hv] at HM
      clear hv
      go_wp2_with fail
      go_ret
      refine ⟨ret_bool ?_, HB3.out⟩
      rw [HM.out]
      simp
  · have HM := Lib.hid (show matchB r d v = false by simp [matchB, hs, hn])
    clear hs
    have hn' : (d.name == r.name) = false := by simpa using hn
    clear hn
    go_wp2_with fail
    all_goals
      go_ret
      exact ⟨ret_bool (by rw [HM.out]), HB2.out⟩
theorem rmatch_any (r d : Sym) (v : Bool) (w : World) : Calls Try.prog 22 #[symV r, symV d, .bool v] w fun e w' => e = .returned (.bool (matchB r d v)) ∧ Below w.heap.size w w' := by
  have HB := Lib.hid (two_below w r d)
  have HX := Lib.hid ((Sx.new w r).below ((Below.refl _ _).alloc (by simp) (.cells (symA d) 26)))
  have HY := Lib.hid (Sx.new (w.alloc (.cells (symA r) 26)) d)
  rw [World.size_alloc] at HY
  generalize hw1 : (w.alloc (.cells (symA r) 26)).alloc (.cells (symA d) 26) = w1 at *
  obtain ⟨c0, c1, c2, c3, c4, c5, c6, c7, c8⟩ := HX.out.cells
  obtain ⟨e0, e1, e2, e3, e4, e5, e6, e7, e8⟩ := HY.out.cells
  have HC := Lib.hid (rseen_any d w1)
  go_enter Try.func22, Try.ntmps22
  go_wp2_with fail
  refine HC.out.mono ?_
  rintro e w2 ⟨rfl, hb⟩
  have HB2 := Lib.hid (HB.out.trans (hb.mono HB.out.size))
  have HX2 := Lib.hid (HX.out.below hb)
  have HY2 := Lib.hid (HY.out.below hb)
  clear c0 c1 c2 c3 c4 c5 c6 c7 c8 e0 e1 e2 e3 e4 e5 e6 e7 e8 hb HB HC HX HY
  obtain ⟨c0, c1, c2, c3, c4, c5, c6, c7, c8⟩ := HX2.out.cells
  obtain ⟨e0, e1, e2, e3, e4, e5, e6, e7, e8⟩ := HY2.out.cells
  cases hs : seenB d
  · have HM := Lib.hid (show matchB r d v = false by simp [matchB, hs])
    clear hs
    go_wp2_with fail
    go_ret
    exact ⟨ret_bool (by rw [HM.out]), HB2.out⟩
  by_cases hn : d.name = r.name
  · have HM := Lib.hid (show matchB r d v = if r.ver.isEmpty then !d.old else !v || d.ver == r.ver by simp [matchB, hs, hn])
    rw [hn] at e0
    clear hs hn
    cases hv : r.ver.isEmpty
    · rw [hv] at HM
      go_wp2_with fail
      all_goals
        go_ret
        refine ⟨ret_bool ?_, HB2.out⟩
        rw [HM.out]
        simp [*]
        try exact eq_comm
    · rw [hv] at HM
      go_wp2_with fail
      go_ret
      refine ⟨ret_bool ?_, HB2.out⟩
      rw [HM.out]
      simp
  · have HM := Lib.hid (show matchB r d v = false by simp [matchB, hs, hn])
    clear hs
    have hn' : (r.name == d.name) = false := by simpa using fun e => hn e.symm
    clear hn
    go_wp2_with fail
    all_goals
      go_ret
      exact ⟨ret_bool (by rw [HM.out]), HB2.out⟩
end Go.Proofs.Ytfafgdbknhlbkaa
