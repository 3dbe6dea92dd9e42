/-
  Remove, Rename, Copy, Names.
-/
import Derived.Test.YtmabhciijdceoaaDoorR
namespace Go.Proofs.YtmabhciijdceoaaDoor
open Go.RowKit Go.Maps

theorem good_new : Good newD := by
  intro k hk
  have h1 : has newD (.string k) = (Lit.string rootS).sameKey (.string k) := by
    unfold newD
    by_cases h : k = rootS
    · subst h
      rw [has_put_same ⟨[], rfl⟩ (by trivial)]
      decide
    · rw [has_put_other (by intro e; injection e with e; exact h e)]
      have h' : ¬ rootS = k := fun e => h e.symm
      simp [has, Lit.sameKey, h']
  rw [h1] at hk
  simp [Lit.sameKey] at hk
  subst hk
  simp
theorem Good.put {D : Dt} (h : Good D) (p : Str) (d : Dt) (h1 : 1 ≤ p.length) (h2 : p.length ≤ 1000000) : Good (D.put (.string p) d) := by
  intro k hk
  by_cases e : k = p
  · subst e; exact ⟨h1, h2⟩
  · rw [has_put_other (by intro e'; injection e' with e'; exact e e')] at hk
    exact h k hk
theorem Good.del {D : Dt} (h : Good D) (p : Str) : Good (D.del (.string p)) := by
  intro k hk
  by_cases e : k = p
  · subst e
    rw [has_del_same] at hk
    cases hk
  · rw [has_del_other (by intro e'; injection e' with e'; exact e e')] at hk
    exact h k hk
theorem place_pos (D : Dt) (path : Str) (h : (placeOf D path).2 = 0) : 1 ≤ (placeOf D path).1.length := by
  unfold placeOf at *
  split at h
  · simp at h
  · rename_i ps hpo
    split at h
    · simp at h
    · rename_i z hz
      unfold placeIn at *
      split at h
      · simp at h
      · split at h
        · exact absurd h (by assumption)
        · split at h
          · simp at h
          · rename_i h1 h2 h3
            rw [if_neg h1, if_neg h2, if_neg h3]
            exact below_pos _ _

/-- A thing is taken out of the map. -/
theorem Sto.drop {w : World} {sb mb : Nat} {s : St} (h : Sto w sb mb s) (p : Str) (hp : p.length ≤ 9223372036854775807) (ty : TypeId) :
    ∃ w', (Builtin.delete_ #[62, 9] ty #[.map (some mb), str p]).run Tryd.prog w = .ok (.tuple #[]) w' ∧ Sto w' sb mb ⟨s.d.del (.string p), s.puts⟩ ∧ Turn sb mb w w' := by
  obtain ⟨w', hrun, hown, ht⟩ := h.own.drop keyLaw Tryd.underlying62 (keyOf_str p hp) ty
  have hg := ht.grown
  have hT : Turn sb mb w w' := Turn.of_grown hg
  have hne := h.ne
  have hsz := h.size
  refine ⟨w', hrun, ⟨(hg.block sb h.lt.1 (by intro e; injection e with e; exact hne e)).trans h.blk, own_tight hown, hT.ml h.ml h.pos.1 h.pos.2, h.pos, ?_⟩, hT⟩
  have := size_del (k := .string p) (h.own.tidy keyLaw)
  show Maps.size (s.d.del (.string p)) ≤ 501
  omega

def removeM (s : St) (path : Str) : St × Int :=
  if (placeOf s.d path).2 ≠ 0 then (s, (placeOf s.d path).2)
  else if (getD s.d (placeOf s.d path).1).kind = 0 then (s, 31)
  else if (getD s.d (placeOf s.d path).1).kind = 2 ∧ namesIn s.d (placeOf s.d path).1 ≠ [] then (s, 33)
  else (⟨s.d.del (.string (placeOf s.d path).1), s.puts⟩, 0)

set_option maxRecDepth 100000 in
set_option maxHeartbeats 1000000 in
theorem remove_any (sb mb : Nat) (s : St) (path : Str) (w : World) (h : Sto w sb mb s) (hg : Good s.d) (hl : path.length ≤ 9223372036854775807) :
    Calls Tryd.prog 18 #[.pointer (some ⟨sb, 0, none⟩), str path] w (Does w sb mb (removeM s path)) := by
  have HC := Lib.hid (placeOf_any sb mb s path w h hl)
  have HS := Lib.hid h
  have HG := Lib.hid hg
  have hpf := (place_facts s.d path).1
  have hu : removeM s path = if (placeOf s.d path).2 ≠ 0 then (s, (placeOf s.d path).2)
    else if (getD s.d (placeOf s.d path).1).kind = 0 then (s, 31)
    else if (getD s.d (placeOf s.d path).1).kind = 2 ∧ namesIn s.d (placeOf s.d path).1 ≠ [] then (s, 33)
    else (⟨s.d.del (.string (placeOf s.d path).1), s.puts⟩, 0) := rfl
  generalize removeM s path = u at *
  generalize placeOf s.d path = r at *
  obtain ⟨p, e0⟩ := r
  simp only at *
  have HPF := Lib.hid hpf
  clear h hpf hg
  by_cases he : e0 = 0
  · rw [if_neg (by simpa using he)] at hu
    subst he
    have HU := Lib.hid hu
    clear hu
    go_enter Tryd.func18, Tryd.ntmps18
    go_wp2_with fail
    refine HC.out.mono ?_
    rintro e w1 ⟨rfl, hb1⟩
    have HB := Lib.hid hb1
    have hS1 := HS.out.below hb1
    have hlk := (hS1.look p (by have := HPF.out; omega)).1
    have hc0 := hS1.c0
    have hfd := field_kind w1
    have HS1 := Lib.hid hS1
    generalize hgt : getD s.d p = t at *
    obtain ⟨kd, ti, tx⟩ := t
    unfold thv at hlk
    clear hb1 HC hS1 hgt
    by_cases h0 : kd = 0
    · have hu := HU.out
      rw [if_pos h0] at hu
      subst hu
      subst h0
      go_wp2
      go_ret
      exact Does.same HB.out HS1.out
    · by_cases h2 : kd = 2
      · have HN := Lib.hid (namesIn_any sb mb s p w1 HS1.out HG.out)
        subst h2
        go_wp2_with fail
        refine HN.out.mono ?_
        rintro e w2 ⟨A, c, rfl, _, hb2⟩
        have HB2 := Lib.hid (HB.out.trans (hb2.mono HB.out.size))
        have hS2 := HS1.out.below hb2
        have hc02 := hS2.c0
        have HS2 := Lib.hid hS2
        have hu := HU.out
        by_cases hn : namesIn s.d p = []
        · rw [if_neg h0, if_neg (by simp [hn])] at hu
          subst hu
          have hl0 : (namesIn s.d p).length = 0 := by rw [hn]; rfl
          generalize (namesIn s.d p).length = nl at *
          subst hl0
          obtain ⟨w3, hrun, hs3, ht3⟩ := hS2.drop p (by have := HPF.out; omega) 0
          have HS3 := Lib.hid hs3
          have HT3 := Lib.hid ((Turn.of_below (sb := sb) (mb := mb) HB2.out (Nat.le_refl _)).trans ht3)
          clear hS2 hb2 hs3 ht3 hn HN
          go_wp2
          go_ret
          exact ⟨rfl, HS3.out, HT3.out⟩
        · rw [if_neg h0, if_pos (by simp [hn])] at hu
          subst hu
          have hl0 : 0 < (namesIn s.d p).length := List.length_pos_iff.2 hn
          generalize (namesIn s.d p).length = nl at *
          clear hS2 hb2 hn HN
          go_wp2
          go_ret
          exact Does.same HB2.out HS2.out
      · have hu := HU.out
        rw [if_neg h0, if_neg (fun h => h2 h.1)] at hu
        subst hu
        obtain ⟨w3, hrun, hs3, ht3⟩ := HS1.out.drop p (by have := HPF.out; omega) 0
        have HS3 := Lib.hid hs3
        have HT3 := Lib.hid ((Turn.of_below (sb := sb) (mb := mb) HB.out (Nat.le_refl _)).trans ht3)
        clear hs3 ht3
        go_wp2
        go_ret
        exact ⟨rfl, HS3.out, HT3.out⟩
  · rw [if_pos he] at hu
    subst hu
    have he' : (e0 == 0) = false := by simpa using he
    go_enter Tryd.func18, Tryd.ntmps18
    go_wp2_with fail
    refine HC.out.mono ?_
    rintro e w1 ⟨rfl, hb⟩
    have HB := Lib.hid hb
    clear hb HC
    go_wp2
    go_ret
    exact Does.same HB.out (HS.out.below HB.out)

def renameM (s : St) (from_ to_ : Str) : St × Int :=
  if (placeOf s.d from_).2 ≠ 0 then (s, (placeOf s.d from_).2)
  else if (getD s.d (placeOf s.d from_).1).kind = 0 then (s, 31)
  else if (placeOf s.d to_).2 ≠ 0 then (s, (placeOf s.d to_).2)
  else if (getD s.d (placeOf s.d from_).1).kind = 2 ∨ (getD s.d (placeOf s.d to_).1).kind = 2 then (s, 33)
  else (⟨(s.d.del (.string (placeOf s.d from_).1)).put (.string (placeOf s.d to_).1) (thD (getD s.d (placeOf s.d from_).1)), s.puts⟩, 0)

set_option maxRecDepth 100000 in
set_option maxHeartbeats 1000000 in
theorem rename_any (sb mb : Nat) (s : St) (from_ to_ : Str) (w : World) (h : Sto w sb mb s) (hl : from_.length ≤ 9223372036854775807) (hl2 : to_.length ≤ 9223372036854775807) :
    Calls Tryd.prog 44 #[.pointer (some ⟨sb, 0, none⟩), str from_, str to_] w (Does w sb mb (renameM s from_ to_)) := by
  have HC := Lib.hid (placeOf_any sb mb s from_ w h hl)
  have HC2 := Lib.hid (fun w1 (hb : Below w.heap.size w w1) => placeOf_any sb mb s to_ w1 (h.below hb) hl2)
  have HS := Lib.hid h
  have hpf := (place_facts s.d from_).1
  have hpf2 := (place_facts s.d to_).1
  have hu : renameM s from_ to_ = if (placeOf s.d from_).2 ≠ 0 then (s, (placeOf s.d from_).2)
    else if (getD s.d (placeOf s.d from_).1).kind = 0 then (s, 31)
    else if (placeOf s.d to_).2 ≠ 0 then (s, (placeOf s.d to_).2)
    else if (getD s.d (placeOf s.d from_).1).kind = 2 ∨ (getD s.d (placeOf s.d to_).1).kind = 2 then (s, 33)
    else (⟨(s.d.del (.string (placeOf s.d from_).1)).put (.string (placeOf s.d to_).1) (thD (getD s.d (placeOf s.d from_).1)), s.puts⟩, 0) := rfl
  generalize renameM s from_ to_ = u at *
  generalize placeOf s.d from_ = r at *
  generalize placeOf s.d to_ = q at *
  obtain ⟨p, e0⟩ := r
  obtain ⟨p2, e2⟩ := q
  simp only at *
  have HPF := Lib.hid hpf
  have HPF2 := Lib.hid hpf2
  clear h hpf hpf2
  by_cases he : e0 = 0
  · rw [if_neg (by simpa using he)] at hu
    subst he
    have HU := Lib.hid hu
    clear hu
    go_enter Tryd.func44, Tryd.ntmps44
    go_wp2_with fail
    refine HC.out.mono ?_
    rintro e w1 ⟨rfl, hb1⟩
    have HB := Lib.hid hb1
    have hS1 := HS.out.below hb1
    have hlk := (hS1.look p (by have := HPF.out; omega)).1
    have hsm := (hS1.look p (by have := HPF.out; omega)).2
    have hc0 := hS1.c0
    have HS1 := Lib.hid hS1
    have hhas : (getD s.d p).kind ≠ 0 → has s.d (.string p) = true := has_of_kind s.d p
    generalize hgt : getD s.d p = t at *
    obtain ⟨kd, ti, tx⟩ := t
    simp only at hhas
    have HHAS := Lib.hid hhas
    have HSM := Lib.hid hsm
    unfold thv at hlk
    clear hb1 HC hS1 hgt hsm hhas
    by_cases h0 : kd = 0
    · have hu := HU.out
      rw [if_pos h0] at hu
      subst hu
      subst h0
      have HB := Lib.hid (HB.out.alloc HB.out.size (.cells #[.int .i64 0, .int .i64 ti, str tx] 59))
      go_wp2
      go_ret
      exact Does.same HB.out (HS.out.below HB.out)
    · have hbb := HB.out.alloc HB.out.size (.cells #[.int .i64 kd, .int .i64 ti, str tx] 59)
      have HBB := Lib.hid hbb
      have HTB := Lib.hid (Tb.new w1 kd ti tx)
      clear hbb
      go_wp2_with fail
      refine (HC2.out _ HBB.out).mono ?_
      generalize w1.alloc (.cells #[.int .i64 kd, .int .i64 ti, str tx] 59) = wa at *
      rintro e w2 ⟨rfl, hb2⟩
      have HB2 := Lib.hid (HBB.out.trans (hb2.mono HBB.out.size))
      have hS2 := HS.out.below HB2.out
      have hT2 := HTB.out.below hb2
      have c0 := hT2.c0
      have c1 := hT2.c1
      have c2 := hT2.c2
      have HT2 := Lib.hid hT2
      have HS2 := Lib.hid hS2
      have hc02 := hS2.c0
      have hu := HU.out
      rw [if_neg h0] at hu
      have HU := Lib.hid hu
      clear hlk hc0 hb2 hS2 hT2 hu HC2
      by_cases he2 : e2 = 0
      · have hu := HU.out
        rw [if_neg (by simpa using he2)] at hu
        have HU := Lib.hid hu
        subst he2
        have hlk := (HS2.out.look p2 (by have := HPF2.out; omega)).1
        have hfd := field_kind w2
        clear hu
        generalize hgt : getD s.d p2 = t at *
        obtain ⟨kd2, ti2, tx2⟩ := t
        unfold thv at hlk
        simp only at HU
        clear hgt
        by_cases hk : kd = 2 ∨ kd2 = 2
        · have hu := HU.out
          rw [if_pos hk] at hu
          subst hu
          by_cases hk1 : kd = 2
          · subst hk1
            go_wp2
            go_ret
            exact Does.same HB2.out HS2.out
          · have hk2 : kd2 = 2 := hk.resolve_left hk1
            subst hk2
            go_wp2
            go_ret
            exact Does.same HB2.out HS2.out
        · have hu := HU.out
          rw [if_neg hk] at hu
          subst hu
          have hk1 : ¬ kd = 2 := fun e => hk (.inl e)
          have hk2 : ¬ kd2 = 2 := fun e => hk (.inr e)
          have hk1' : (kd == 2) = false := by simpa using hk1
          have hk2' : (kd2 == 2) = false := by simpa using hk2
          obtain ⟨w3, hrun, hs3, ht3⟩ := HS2.out.drop p (by have := HPF.out; omega) 0
          have hs3d := hs3.below (drew_below w3)
          have hsz : Maps.size (s.d.del (.string p)) ≤ 500 := by
            have h1 := size_del (k := .string p) (HS2.out.own.tidy keyLaw)
            rw [HHAS.out h0] at h1
            have h2 := HS2.out.size
            simp at h1
            omega
          obtain ⟨w4, hrun2, hs4, ht4⟩ := hs3d.put p2 ⟨kd, ti, tx⟩ (by have := HPF2.out; omega) HSM.out (fun _ => hsz)
          have HS4 := Lib.hid hs4
          have HT4 := Lib.hid ((((Turn.of_below (sb := sb) (mb := mb) HB2.out (Nat.le_refl _)).trans ht3).trans (Turn.of_below (sb := sb) (mb := mb) (drew_below w3) (Nat.le_refl _))).trans ht4)
          have hc03 := hs3.c0
          have hne : w.heap.size ≤ w1.heap.size := HB.out.size
          have hw1 : w1.heap.size ≠ sb ∧ w1.heap.size ≠ mb := by have := HS.out.lt; omega
          have hT3 : Tb w3 w1.heap.size ⟨kd, ti, tx⟩ := (ht3.block _ HT2.out.lt hw1.1 hw1.2).trans HT2.out
          have d0 := hT3.c0
          have d1 := hT3.c1
          have d2 := hT3.c2
          unfold thv at hrun2
          clear hs3 ht3 hs3d hs4 ht4 hT3 hk hsz hne hw1
          go_wp2
          go_region
          go_wp2
          go_ret
          exact ⟨rfl, HS4.out, HT4.out⟩
      · have hu := HU.out
        rw [if_pos he2] at hu
        subst hu
        have he2' : (e2 == 0) = false := by simpa using he2
        go_wp2
        go_ret
        exact Does.same HB2.out HS2.out
  · rw [if_pos he] at hu
    subst hu
    have he' : (e0 == 0) = false := by simpa using he
    go_enter Tryd.func44, Tryd.ntmps44
    go_wp2_with fail
    refine HC.out.mono ?_
    rintro e w1 ⟨rfl, hb⟩
    have HB := Lib.hid hb
    clear hb HC
    go_wp2
    go_ret
    exact Does.same HB.out (HS.out.below HB.out)
end Go.Proofs.YtmabhciijdceoaaDoor
