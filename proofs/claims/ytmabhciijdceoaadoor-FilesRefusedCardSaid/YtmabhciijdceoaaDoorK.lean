/-
  A new store; Kind, Read, Find, Real.
-/
import Derived.Test.YtmabhciijdceoaaDoorJ
namespace Go.Proofs.YtmabhciijdceoaaDoor
open Go.RowKit Go.Maps

/-- A new store's datum. -/
def newD : Dt := (DataW.map []).put (.string rootS) (thD ⟨2, 0, []⟩)
set_option maxRecDepth 100000 in
theorem new_any (w : World) (hm : Ml w) :
    Calls Tryd.prog 26 #[] w fun e w' => ∃ sb mb, e = .returned (.pointer (some ⟨sb, 0, none⟩)) ∧ w.heap.size ≤ sb ∧ w.heap.size ≤ mb ∧ Sto w' sb mb ⟨newD, 0⟩ ∧ Below w.heap.size w w' := by
  have hmm := @run_makeMap Tryd.prog
  have hp := hm.pos
  have HM := Lib.hid hm
  have hb1 := (Below.refl w.heap.size w).alloc (Nat.le_refl _) (.map #[] 0)
  have HB1 := Lib.hid hb1
  have ho := World.ownsMap_made w Tryd.prog 9 thElem
  obtain ⟨w1, hrun, hown, hgr⟩ := ho.update keyLaw Tryd.underlying62 (by decide) (keyOf_str rootS (by decide)) (thElem_mk ⟨2, 0, []⟩ rfl)
  have HO1 := Lib.hid hown
  have HG1 := Lib.hid hgr
  unfold thv at hrun
  clear hm hb1 ho hown hgr
  go_enter Tryd.func26, Tryd.ntmps26
  go_wp2
  go_ret
  have hsz : w.heap.size + 1 ≤ w1.heap.size := by
    have := HG1.out.size
    simpa using this
  have hb2 := HB1.out.grown HG1.out (by simp) (fun j hj => by injection hj with hj; omega)
  have hb3 := hb2.alloc hb2.size (.cells #[.map (some w.heap.size), .int .i64 0] 64)
  refine ⟨w1.heap.size, rfl, by omega, w.heap.size, Nat.le_refl _, ⟨heap_alloc_new _ _, own_tight (HO1.out.alloc _), HM.out.below hb3 hp, ⟨by omega, hp⟩, by decide +kernel⟩, hb3⟩

/-! Queries. -/
def kindOf (D : Dt) (path : Str) : Int :=
  if (clean path).1 = rootS then 2 else if (placeOf D path).2 ≠ 0 then 0 else (getD D (placeOf D path).1).kind
set_option maxRecDepth 100000 in
theorem kind_any (sb mb : Nat) (s : St) (path : Str) (w : World) (h : Sto w sb mb s) (hl : path.length ≤ 9223372036854775807) :
    Calls Tryd.prog 23 #[.pointer (some ⟨sb, 0, none⟩), str path] w (Looks w (.int .i64 (kindOf s.d path))) := by
  have HC := Lib.hid (clean_any path w hl h.ml)
  have HP := Lib.hid (fun w1 (hb : Below w.heap.size w w1) => placeOf_any sb mb s path w1 (h.below hb) hl)
  have HS := Lib.hid h
  have hpf := (place_facts s.d path).1
  have hu : kindOf s.d path = if (clean path).1 = rootS then 2 else if (placeOf s.d path).2 ≠ 0 then 0 else (getD s.d (placeOf s.d path).1).kind := rfl
  generalize kindOf s.d path = u at *
  generalize clean path = cl at *
  generalize placeOf s.d path = r at *
  obtain ⟨p, e0⟩ := r
  obtain ⟨ct, ce⟩ := cl
  simp only at *
  have HPF := Lib.hid hpf
  clear h hpf
  by_cases hc : ct = rootS
  · rw [if_pos hc] at hu
    subst hu
    have hc' : (ct == [47]) = true := by simpa using hc
    clear hc
    go_enter Tryd.func23, Tryd.ntmps23
    go_wp2_with fail
    refine HC.out.mono ?_
    rintro e w1 ⟨rfl, hb⟩
    have HB := Lib.hid hb
    clear hb HC
    go_wp2
    go_ret
    exact ⟨rfl, HB.out⟩
  · rw [if_neg hc] at hu
    have hc' : (ct == [47]) = false := by simpa using hc
    clear hc
    by_cases he : e0 = 0
    · rw [if_neg (by simpa using he)] at hu
      subst hu
      subst he
      go_enter Tryd.func23, Tryd.ntmps23
      go_wp2_with fail
      refine HC.out.mono ?_
      rintro e w1 ⟨rfl, hb⟩
      have HB := Lib.hid hb
      clear hb HC
      go_wp2_with fail
      refine (HP.out w1 HB.out).mono ?_
      rintro e w2 ⟨rfl, hb2⟩
      have hbb := HB.out.trans (hb2.mono HB.out.size)
      have hS := HS.out.below hbb
      have hlk := (hS.look p (by have := HPF.out; omega)).1
      have hc0 := hS.c0
      have HBB := Lib.hid hbb
      have hfd := field_kind w2
      generalize getD s.d p = t at *
      obtain ⟨kd, ti, tx⟩ := t
      unfold thv at hlk
      clear hb2 hS hbb HP HB
      go_wp2
      go_ret
      exact ⟨rfl, HBB.out⟩
    · rw [if_pos he] at hu
      subst hu
      have he' : (e0 == 0) = false := by simpa using he
      go_enter Tryd.func23, Tryd.ntmps23
      go_wp2_with fail
      refine HC.out.mono ?_
      rintro e w1 ⟨rfl, hb⟩
      have HB := Lib.hid hb
      clear hb HC
      go_wp2_with fail
      refine (HP.out w1 HB.out).mono ?_
      rintro e w2 ⟨rfl, hb2⟩
      have HBB := Lib.hid (HB.out.trans (hb2.mono HB.out.size))
      clear hb2 HP HB
      go_wp2
      go_ret
      exact ⟨rfl, HBB.out⟩

set_option maxRecDepth 100000 in
theorem find_any (sb mb : Nat) (s : St) (path : Str) (w : World) (h : Sto w sb mb s) (hl : path.length ≤ 9223372036854775807) :
    Calls Tryd.prog 14 #[.pointer (some ⟨sb, 0, none⟩), str path] w (Looks w (.tuple #[.int .i64 (fileOf s.d path).1.id, .int .i64 (fileOf s.d path).2])) := by
  have HC := Lib.hid (fileAt_any sb mb s path w h hl)
  generalize fileOf s.d path = r at *
  obtain ⟨⟨k, i, x⟩, e0⟩ := r
  simp only at *
  unfold thv at *
  clear h
  go_enter Tryd.func14, Tryd.ntmps14
  go_wp2_with fail
  refine HC.out.mono ?_
  rintro e w1 ⟨rfl, hb⟩
  have HB := Lib.hid (hb.alloc hb.size (.cells #[.int .i64 k, .int .i64 i, str x] 59))
  clear hb HC
  go_wp2
  go_ret2
  exact ⟨rfl, HB.out⟩
set_option maxRecDepth 100000 in
theorem real_any (sb mb : Nat) (s : St) (path : Str) (w : World) (h : Sto w sb mb s) (hl : path.length ≤ 9223372036854775807) :
    Calls Tryd.prog 25 #[.pointer (some ⟨sb, 0, none⟩), str path] w (Looks w (.tuple #[str (endOf s.d path).1, .int .i64 (endOf s.d path).2.2])) := by
  have HC := Lib.hid (end_any sb mb s path w h hl)
  generalize endOf s.d path = r at *
  obtain ⟨a, ⟨k, i, x⟩, e0⟩ := r
  simp only at *
  unfold thv at *
  clear h
  go_enter Tryd.func25, Tryd.ntmps25
  go_wp2_with fail
  refine HC.out.mono ?_
  rintro e w1 ⟨rfl, hb⟩
  have HB := Lib.hid (hb.alloc hb.size (.cells #[.int .i64 k, .int .i64 i, str x] 59))
  clear hb HC
  go_wp2
  go_ret2
  exact ⟨rfl, HB.out⟩

theorem conv_bytes (wa : World) (x : Str) : ∃ g c w', (convert 9 28 (str x)).run Tryd.prog wa = .ok (.slice (some ⟨g, 0, none⟩) x.length c) w' ∧ Src w' (fun k => wa.heap.size ≤ k ∧ k < w'.heap.size) (some ⟨g, 0, none⟩) x.length c (cells x) ∧ Below wa.heap.size wa w' := by
  have hcv := Lib.run_convert_string_bytes (P := Tryd.prog) wa 9 28 5 ⟨x.toArray⟩ Tryd.underlying9 Tryd.underlying28 Tryd.underlying5
  have hsz := Lib.bytesWorld_size wa 5 ⟨x.toArray⟩
  have hce := Lib.bytesWorld_cell wa 5 ⟨x.toArray⟩
  have hol := Lib.bytesWorld_at_old wa 5 ⟨x.toArray⟩
  have hz : (ByteArray.mk x.toArray).size = x.length := by simp [ByteArray.size]
  rw [hz] at hce hcv
  have hcap : x.length ≤ grownCap wa x.length 0 5 := grownCap_ge _ _ _ _
  refine ⟨_, _, _, hcv, ⟨by rw [cells_len], (by intro h; cases h), hcap, ?_, ?_⟩, ?_⟩
  · intro ad hA _
    cases hA
    rw [hsz]
    exact ⟨Nat.le_refl _, Nat.lt_succ_self _⟩
  · intro ad hA j u hu
    cases hA
    have hj : j < x.length := by have := (List.getElem?_eq_some_iff.1 hu).1; rwa [cells_len] at this
    have e : (⟨wa.heap.size, 0, none⟩ : Addr).add j = ⟨wa.heap.size, j, none⟩ := by
      unfold Addr.add
      split
      · rename_i h0; rw [h0]
      · simp
    rw [e, hce j hj, ← hu]
    simp [cells, hj, List.getD]
  · exact ⟨rfl, rfl, rfl, by rw [hsz]; omega, hol⟩
/-- What Read answers: bytes in a row of their own. -/
def Reads (w : World) (l : Str) (e0 : Int) (e : Ending) (w' : World) : Prop :=
  ∃ g c, e = .returned (.tuple #[.slice (some ⟨g, 0, none⟩) l.length c, .int .i64 e0]) ∧ Src w' (fun k => w.heap.size ≤ k ∧ k < w'.heap.size) (some ⟨g, 0, none⟩) l.length c (cells l) ∧ Below w.heap.size w w'
set_option maxRecDepth 100000 in
theorem read_any (sb mb : Nat) (s : St) (path : Str) (w : World) (h : Sto w sb mb s) (hl : path.length ≤ 9223372036854775807) :
    Calls Tryd.prog 16 #[.pointer (some ⟨sb, 0, none⟩), str path] w (Reads w (fileOf s.d path).1.text (fileOf s.d path).2) := by
  have HC := Lib.hid (fileAt_any sb mb s path w h hl)
  generalize fileOf s.d path = r at *
  obtain ⟨⟨k, i, x⟩, e0⟩ := r
  simp only at *
  unfold thv at *
  clear h
  go_enter Tryd.func16, Tryd.ntmps16
  go_wp2_with fail
  refine HC.out.mono ?_
  rintro e w1 ⟨rfl, hb⟩
  have HB := Lib.hid (hb.alloc hb.size (.cells #[.int .i64 k, .int .i64 i, str x] 59))
  obtain ⟨g, c, w2, hcv, hsr, hb2⟩ := conv_bytes (w1.alloc (.cells #[.int .i64 k, .int .i64 i, str x] 59)) x
  have HSR := Lib.hid hsr
  have HB2 := Lib.hid hb2
  clear hb HC hsr hb2
  go_wp2
  go_ret2
  have hz := HB.out.size
  exact ⟨g, c, rfl, HSR.out.weak fun k hk => ⟨by omega, hk.2⟩, HB.out.trans (HB2.out.mono hz)⟩
end Go.Proofs.YtmabhciijdceoaaDoor
