/-
  Places, and where ways end.
-/
import Derived.Test.YtmabhciijdceoaaDoorE
namespace Go.Proofs.YtmabhciijdceoaaDoor
open Go.RowKit Go.Maps

theorem wayF_len (D : Dt) (N : Nat) : ∀ (f : Nat) (a : Str) (l : Nat) (ps : List Str), (∀ p ∈ ps, p.length ≤ 64) → l ≤ 8 → 1 ≤ a.length → a.length + 65 * ((8 - l) * 201 + ps.length) ≤ N → (wayF D f a l ps).1.length ≤ N ∧ ((wayF D f a l ps).2 = 0 → 1 ≤ (wayF D f a l ps).1.length)
  | f, a, l, [], _, _, h1, h2 => by
    rw [wayF_end]
    simp only [List.length_nil] at h2
    exact ⟨by show a.length ≤ N; omega, fun _ => h1⟩
  | 0, a, l, p :: ps, _, _, _, _ => by simp [wayF]
  | f + 1, a, l, p :: ps, hp, hl, h1, h2 => by
    simp only [List.length_cons] at h2
    have hps : ∀ q ∈ ps, q.length ≤ 64 := fun q hq => hp q (by simp [hq])
    have hbl := below_len a p
    have hp64 := hp p (by simp)
    by_cases hd : p = dots
    · subst hd
      rw [wayF_up]
      have := above_len a
      exact wayF_len D N f (above a) l ps hps hl (above_pos a h1) (by omega)
    · by_cases h0 : (getD D (below a p)).kind = 0
      · rw [wayF_none _ _ _ _ _ _ hd h0]; simp
      · by_cases h3 : (getD D (below a p)).kind = 3
        · by_cases h8 : l = 8
          · subst h8; rw [wayF_loop _ _ _ _ _ hd h3]; simp
          · rw [wayF_link _ _ _ _ _ _ hd h3 h8]
            have hah : ((partsOf (getD D (below a p)).text).getD []).length ≤ 201 ∧ ∀ q ∈ (partsOf (getD D (below a p)).text).getD [], q.length ≤ 64 := by
              cases hpo : partsOf (getD D (below a p)).text with
              | none => simp
              | some l => exact ⟨(partsOf_ok hpo).2.1, fun q hq => ((partsOf_ok hpo).2.2 q hq).1⟩
            have hr : 1 ≤ (if isAbs (getD D (below a p)).text then rootS else a).length ∧ (if isAbs (getD D (below a p)).text then rootS else a).length ≤ a.length := by
              split
              · exact ⟨by decide, by simpa using h1⟩
              · exact ⟨h1, Nat.le_refl _⟩
            refine wayF_len D N f _ (l + 1) _ (fun q hq => ?_) (by omega) hr.1 (by rw [List.length_append]; omega)
            rcases List.mem_append.1 hq with h | h
            · exact hah.2 q h
            · exact hps q h
        · by_cases h1' : (getD D (below a p)).kind = 1 ∧ ps ≠ []
          · rw [wayF_file _ _ _ _ _ _ hd h1'.1 h1'.2]; simp
          · rw [wayF_on _ _ _ _ _ _ hd h0 h3 (fun h => Classical.byContradiction fun hq => h1' ⟨h, hq⟩)]
            exact wayF_len D N f (below a p) l ps hps hl (below_pos a p) (by omega)
theorem way_len (D : Dt) (ps : List Str) (hn : ps.length ≤ 201) (hp : ∀ p ∈ ps, p.length ≤ 64) : (way D ps).1.length ≤ 117586 ∧ ((way D ps).2 = 0 → 1 ≤ (way D ps).1.length) :=
  wayF_len D 117586 2000 rootS 0 ps hp (by omega) (by decide) (by simp; omega)

theorem own_some {w : World} {B : Nat} {e : TypeId} {A : Option Addr} {n c : Nat} {xs : List Value} (h : w.ownsRow B e 1 (.slice A n c) n xs) (h0 : 0 < n) : ∃ g, A = some ⟨g, 0, none⟩ ∧ B ≤ g ∧ g < w.heap.size := by
  rcases h.2 with ⟨_, hn⟩ | ⟨g, cap, cur, hv, hb, hg, _⟩
  · omega
  · injection hv with h1
    exact ⟨g, h1, hb, (Array.getElem?_eq_some_iff.1 hg).1⟩
/-- Where a path's place is. -/
def placeIn (D : Dt) (ps : List Str) (z : Str) : Str × Int :=
  if z = dots then ([], 30)
  else if (way D ps).2 ≠ 0 then ([], (way D ps).2)
  else if (getD D (way D ps).1).kind = 1 then ([], 34)
  else (below (way D ps).1 z, 0)
def placeOf (D : Dt) (path : Str) : Str × Int := match absParts path with
  | none => ([], 30)
  | some ps => match ps.getLast? with
    | none => ([], 30)
    | some z => placeIn D ps.dropLast z
/-- What a call answers that only looks. -/
def Looks (w : World) (v : Value) (e : Ending) (w' : World) : Prop := e = .returned v ∧ Below w.heap.size w w'

set_option maxRecDepth 100000 in
theorem placeOf_any (sb mb : Nat) (s : St) (path : Str) (w : World) (h : Sto w sb mb s) (hl : path.length ≤ 9223372036854775807) :
    Calls Tryd.prog 37 #[.pointer (some ⟨sb, 0, none⟩), str path] w (Looks w (.tuple #[str (placeOf s.d path).1, .int .i64 (placeOf s.d path).2])) := by
  have HP := Lib.hid (absParts_any path w hl h.ml)
  have HS := Lib.hid h
  have hpl : placeOf s.d path = match absParts path with
    | none => ([], 30)
    | some ps => match ps.getLast? with
      | none => ([], 30)
      | some z => placeIn s.d ps.dropLast z := rfl
  cases hpo : absParts path with
  | none =>
    rw [hpo] at hpl HP
    rw [hpl]
    clear hpl hpo h
    go_enter Tryd.func37, Tryd.ntmps37
    go_wp2_with fail
    refine HP.out.mono ?_
    rintro e w1 ⟨hb, rfl⟩
    have HB := Lib.hid hb
    clear hb
    go_wp2
    go_ret2
    exact ⟨rfl, HB.out⟩
  | some ps =>
    rw [hpo] at hpl HP
    have hok := absParts_ok hpo
    rcases (show ps = [] ∨ ∃ qs z, ps = qs ++ [z] from (List.eq_nil_or_concat ps).imp id (fun ⟨qs, z, h⟩ => ⟨qs, z, by rw [h, List.concat_eq_append]⟩)) with rfl | ⟨qs, z, rfl⟩
    · rw [hpl]
      clear hpl hpo h hok
      go_enter Tryd.func37, Tryd.ntmps37
      go_wp2_with fail
      refine HP.out.mono ?_
      rintro e w1 ⟨hb, A, c, rfl, ho⟩
      have HB := Lib.hid hb
      clear hb ho
      go_wp2
      go_ret2
      exact ⟨rfl, HB.out⟩
    · have hpl : placeOf s.d path = placeIn s.d qs z := by
        rw [hpl]
        simp
      rw [hpl]
      have hq : qs.length ≤ 201 ∧ ∀ p ∈ qs, p.length ≤ 64 := by
        have h1 := hok.2.1
        rw [List.length_append] at h1
        exact ⟨by omega, fun p hp => (hok.2.2 p (List.mem_append_left _ hp)).1⟩
      have hz64 := (hok.2.2 z (by simp)).1
      have hwl := way_len s.d qs hq.1 hq.2
      have hstr : strs (qs ++ [z]) = strs qs ++ [str z] := by rw [strs_app]; rfl
      have hnl : (qs ++ [z]).length = qs.length + 1 := by simp
      have hpi : placeIn s.d qs z = if z = dots then ([], 30) else if (way s.d qs).2 ≠ 0 then ([], (way s.d qs).2) else if (getD s.d (way s.d qs).1).kind = 1 then ([], 34) else (below (way s.d qs).1 z, 0) := rfl
      generalize placeIn s.d qs z = pr at hpi ⊢
      have HPI := Lib.hid hpi
      have HQ := Lib.hid hq
      have HWL := Lib.hid hwl
      have h201 := hq.1
      have HNL := Lib.hid hnl
      have HST := Lib.hid hstr
      clear hpl hpo h hok hpi hstr hnl hq hwl
      go_enter Tryd.func37, Tryd.ntmps37
      go_wp2_with fail
      refine HP.out.mono ?_
      rintro e w1 ⟨hb, A, c, he, ho⟩
      rw [HNL.out] at he ho
      rw [HST.out] at ho
      subst he
      have hcap := (Src.of_own ho).cap
      have hlim := own_lim ho
      obtain ⟨g, rfl, _, hgl⟩ := own_some ho (by omega)
      have hcell : w1.cell? ⟨g, qs.length, none⟩ = some (str z) := by
        have := (Src.of_own ho).at_ _ rfl qs.length (str z) (by simp [strs])
        have e : (⟨g, 0, none⟩ : Addr).add qs.length = ⟨g, qs.length, none⟩ := by
          unfold Addr.add
          split
          · rename_i h0; rw [h0]
          · simp
        rw [e] at this
        exact this
      have hsrc : ∀ ad, some (⟨g, 0, none⟩ : Addr) = some ad → ∀ j u, (strs qs)[j]? = some u → w1.cell? (ad.add j) = some u := by
        intro ad hA j u hu
        refine (Src.of_own ho).at_ _ hA j u ?_
        have hj : j < (strs qs).length := (List.getElem?_eq_some_iff.1 hu).1
        rw [List.getElem?_append_left hj]
        exact hu
      have HT := Lib.hid (show Txt w1 (some ⟨g, 0, none⟩) c qs from ⟨⟨(by simp [strs]), (by intro h; cases h), (by omega), (by intro ad hA _; cases hA; exact hgl), hsrc⟩, (by intro ad h; cases h; exact ⟨_, _, rfl⟩), hlim⟩)
      clear hsrc hgl
      have hsl : ∀ w', (Instr.slice 41 (.slice (some ⟨g, 0, none⟩) (qs.length + 1) c) none (some (.int .i64 qs.length)) none).run Tryd.prog w' = .ok (.slice (some ⟨g, 0, none⟩) qs.length c) w' := by
        intro w'
        have hz : (sizeOf (Tryd.prog.elem 41)).run Tryd.prog w' = .ok 1 w' := by kernel_rfl
        rw [run_slice_h (w := w') 41 (some ⟨g, 0, none⟩) (qs.length + 1) c (by kernel_rfl) .i64 qs.length (by omega) (by omega), hz]
        simp only [Result.andThen, sliced]
        split <;> simp [Addr.add]
      have HB := Lib.hid hb
      have HS1 := Lib.hid (HS.out.below hb)
      clear hb ho HP
      by_cases hd : z = dots
      · have hd' : (z == [46, 46]) = true := by simpa using hd
        have hpi := HPI.out
        rw [if_pos hd] at hpi
        subst hpi
        clear hd
        go_wp2
        go_ret2
        exact ⟨rfl, HB.out⟩
      · have hd' : (z == [46, 46]) = false := by simpa using hd
        have HC := Lib.hid (way_any sb mb s _ c qs w1 HS1.out HT.out HQ.out.1 HQ.out.2)
        have hpi := HPI.out
        rw [if_neg hd] at hpi
        clear hd HPI
        generalize way s.d qs = r at *
        obtain ⟨a, e0⟩ := r
        simp only at *
        have HPI := Lib.hid hpi
        clear hpi
        go_wp2_with fail
        refine HC.out.mono ?_
        rintro e w2 ⟨rfl, hb2⟩
        have HB2 := Lib.hid hb2
        have hcell2 := cell_below hb2 hcell
        have hS2 := HS1.out.below hb2
        have HBB := Lib.hid (HB.out.trans (hb2.mono HB.out.size))
        clear hb2 hcell HC
        by_cases he : e0 = 0
        · have hal := HWL.out.2 he
          have hlk := hS2.look a (by have := HWL.out.1; omega)
          have hrun := hlk.1
          have hc0 := hS2.c0
          have hle := HWL.out.1
          have HBL := Lib.hid (fun w => below_any a z w (by omega))
          subst he
          have hpi := HPI.out
          rw [if_neg (by simp)] at hpi
          by_cases h1 : (getD s.d a).kind = 1
          · rw [if_pos h1] at hpi
            subst hpi
            generalize getD s.d a = t at *
            obtain ⟨kd, ti, tx⟩ := t
            simp only at h1
            subst h1
            unfold thv at hrun
            have hfd := field_kind w2
            clear hlk hS2
            go_wp2
            go_ret2
            exact ⟨rfl, HBB.out⟩
          · rw [if_neg h1] at hpi
            subst hpi
            generalize getD s.d a = t at *
            obtain ⟨kd, ti, tx⟩ := t
            simp only at h1
            unfold thv at hrun
            have hfd := field_kind w2
            clear hlk hS2
            go_wp2_with (go_at_call 30; refine (HBL.out _).mono ?_; rintro e w3 ⟨rfl, rfl⟩)
            go_ret2
            exact ⟨rfl, HBB.out⟩
        · have hpi := HPI.out
          rw [if_pos he] at hpi
          subst hpi
          go_wp2
          go_ret2
          exact ⟨rfl, HBB.out⟩
end Go.Proofs.YtmabhciijdceoaaDoor
