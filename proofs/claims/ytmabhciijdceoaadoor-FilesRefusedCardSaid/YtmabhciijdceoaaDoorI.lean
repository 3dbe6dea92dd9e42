/-
  What changes a store: Mkdir, Also, Symlink.
-/
import Derived.Test.YtmabhciijdceoaaDoorH
namespace Go.Proofs.YtmabhciijdceoaaDoor
open Go.RowKit Go.Maps

theorem free_facts (D : Dt) (path : Str) : (freeOf D path).1.length ≤ 120000 := by
  unfold freeOf
  have := place_facts D path
  split
  · simp
  · split
    · simp
    · exact this.1
theorem Does.same {w w1 : World} {sb mb : Nat} {s : St} {e : Int} (hb : Below w.heap.size w w1) (h : Sto w1 sb mb s) : Does w sb mb (s, e) (.returned (.int .i64 e)) w1 := ⟨rfl, h, Turn.of_below hb (Nat.le_refl _)⟩
theorem Does.behind {w w1 w2 : World} {sb mb : Nat} {r : St × Int} {e : Ending} (hb : Below w.heap.size w w1) (h : Does w1 sb mb r e w2) : Does w sb mb r e w2 := ⟨h.1, h.2.1, (Turn.of_below hb (Nat.le_refl _)).trans h.2.2⟩

def mkdirM (s : St) (path : Str) : St × Int :=
  if (freeOf s.d path).2 ≠ 0 then (s, (freeOf s.d path).2) else setAt s (freeOf s.d path).1 ⟨2, 0, []⟩
theorem mkdir_any (sb mb : Nat) (s : St) (path : Str) (w : World) (h : Sto w sb mb s) (hl : path.length ≤ 9223372036854775807) :
    Calls Tryd.prog 27 #[.pointer (some ⟨sb, 0, none⟩), str path] w (Does w sb mb (mkdirM s path)) := by
  have HC := Lib.hid (freePlaceOf_any sb mb s path w h hl)
  have HS := Lib.hid h
  have hff := free_facts s.d path
  have hu : mkdirM s path = if (freeOf s.d path).2 ≠ 0 then (s, (freeOf s.d path).2) else setAt s (freeOf s.d path).1 ⟨2, 0, []⟩ := rfl
  generalize mkdirM s path = u at *
  generalize freeOf s.d path = r at *
  obtain ⟨p, e0⟩ := r
  simp only at *
  have HFF := Lib.hid hff
  clear h hff
  by_cases he : e0 = 0
  · rw [if_neg (by simpa using he)] at hu
    subst he
    have HU := Lib.hid hu
    clear hu
    go_enter Tryd.func27, Tryd.ntmps27
    go_wp2_with fail
    refine HC.out.mono ?_
    rintro e w1 ⟨rfl, hb⟩
    have HX := Lib.hid (set_any sb mb s p ⟨2, 0, []⟩ w1 (HS.out.below hb) (by have := HFF.out; omega) rfl)
    have HB := Lib.hid hb
    clear hb HC
    go_wp2_with fail
    refine HX.out.mono ?_
    rintro e w2 hd
    rw [← HU.out] at hd
    obtain ⟨rfl, hs2, ht2⟩ := Does.behind HB.out hd
    have HS2 := Lib.hid hs2
    have HT2 := Lib.hid ht2
    clear hs2 ht2 hd HU HX
    go_wp2
    go_ret
    exact ⟨rfl, HS2.out, HT2.out⟩
  · rw [if_pos he] at hu
    subst hu
    have he' : (e0 == 0) = false := by simpa using he
    go_enter Tryd.func27, Tryd.ntmps27
    go_wp2_with fail
    refine HC.out.mono ?_
    rintro e w1 ⟨rfl, hb⟩
    have HB := Lib.hid hb
    clear hb HC
    go_wp2
    go_ret
    exact Does.same HB.out (HS.out.below HB.out)

theorem Sto.small {w : World} {sb mb : Nat} {s : St} (h : Sto w sb mb s) (k : Str) (hk : k.length ≤ 9223372036854775807) : (getD s.d k).small = true := (h.look k hk).2
theorem Sto.file_small {w : World} {sb mb : Nat} {s : St} (h : Sto w sb mb s) (path : Str) : (fileOf s.d path).1.small = true := by
  have hs : (endOf s.d path).2.1.small = true := by
    unfold endOf
    split
    · rfl
    · rename_i ps hpo
      have hok := absParts_ok hpo
      have hwl := way_len s.d ps hok.2.1 (fun p hp => (hok.2.2 p hp).1)
      split
      · rfl
      · exact h.small _ (by omega)
  unfold fileOf
  split
  · rfl
  · split
    · rfl
    · exact hs

def alsoM (s : St) (path of_ : Str) : St × Int :=
  if (freeOf s.d path).2 ≠ 0 then (s, (freeOf s.d path).2)
  else if (fileOf s.d of_).2 ≠ 0 then (s, (fileOf s.d of_).2)
  else setAt s (freeOf s.d path).1 (fileOf s.d of_).1
set_option maxRecDepth 100000 in
theorem also_any (sb mb : Nat) (s : St) (path of_ : Str) (w : World) (h : Sto w sb mb s) (hl : path.length ≤ 9223372036854775807) (hl2 : of_.length ≤ 9223372036854775807) :
    Calls Tryd.prog 17 #[.pointer (some ⟨sb, 0, none⟩), str path, str of_] w (Does w sb mb (alsoM s path of_)) := by
  have HC := Lib.hid (freePlaceOf_any sb mb s path w h hl)
  have HS := Lib.hid h
  have hff := free_facts s.d path
  have hu : alsoM s path of_ = if (freeOf s.d path).2 ≠ 0 then (s, (freeOf s.d path).2) else if (fileOf s.d of_).2 ≠ 0 then (s, (fileOf s.d of_).2) else setAt s (freeOf s.d path).1 (fileOf s.d of_).1 := rfl
  have hsm := h.file_small of_
  have HF := Lib.hid (fun w1 (hb : Below w.heap.size w w1) => fileAt_any sb mb s of_ w1 (h.below hb) hl2)
  generalize alsoM s path of_ = u at *
  generalize freeOf s.d path = r at *
  generalize fileOf s.d of_ = q at *
  obtain ⟨p, e0⟩ := r
  obtain ⟨t, e1⟩ := q
  simp only at *
  have HFF := Lib.hid hff
  have HSM := Lib.hid hsm
  clear h hff hsm
  by_cases he : e0 = 0
  · rw [if_neg (by simpa using he)] at hu
    subst he
    by_cases he1 : e1 = 0
    · rw [if_neg (by simpa using he1)] at hu
      subst he1
      have HU := Lib.hid hu
      clear hu
      go_enter Tryd.func17, Tryd.ntmps17
      go_wp2_with fail
      refine HC.out.mono ?_
      rintro e w1 ⟨rfl, hb⟩
      have HB := Lib.hid hb
      clear hb HC
      go_wp2_with fail
      obtain ⟨k', i', x'⟩ := t
      refine (HF.out w1 HB.out).mono ?_
      rintro e w2 ⟨rfl, hb2⟩
      unfold thv at *
      have hbb := ((HB.out.trans (hb2.mono HB.out.size)).alloc (by have := HB.out.size; have := hb2.size; omega) (.cells #[.int .i64 k', .int .i64 i', str x'] 59))
      have HBB := Lib.hid hbb
      have HX := Lib.hid (set_any sb mb s p ⟨k', i', x'⟩ _ (HS.out.below hbb) (by have := HFF.out; omega) HSM.out)
      clear hb2 hbb HF HB
      go_wp2_with fail
      refine HX.out.mono ?_
      rintro e w3 hd
      rw [← HU.out] at hd
      obtain ⟨rfl, hs2, ht2⟩ := Does.behind HBB.out hd
      have HS2 := Lib.hid hs2
      have HT2 := Lib.hid ht2
      clear hs2 ht2 hd HU HX HBB
      go_wp2
      go_ret
      exact ⟨rfl, HS2.out, HT2.out⟩
    · rw [if_pos he1] at hu
      subst hu
      have he' : (e1 == 0) = false := by simpa using he1
      go_enter Tryd.func17, Tryd.ntmps17
      go_wp2_with fail
      refine HC.out.mono ?_
      rintro e w1 ⟨rfl, hb⟩
      have HB := Lib.hid hb
      clear hb HC
      go_wp2_with fail
      obtain ⟨k', i', x'⟩ := t
      refine (HF.out w1 HB.out).mono ?_
      rintro e w2 ⟨rfl, hb2⟩
      unfold thv at *
      have HBB := Lib.hid ((HB.out.trans (hb2.mono HB.out.size)).alloc (by have := HB.out.size; have := hb2.size; omega) (.cells #[.int .i64 k', .int .i64 i', str x'] 59))
      clear hb2 HF HB
      go_wp2
      go_ret
      exact Does.same HBB.out (HS.out.below HBB.out)
  · rw [if_pos he] at hu
    subst hu
    have he' : (e0 == 0) = false := by simpa using he
    go_enter Tryd.func17, Tryd.ntmps17
    go_wp2_with fail
    refine HC.out.mono ?_
    rintro e w1 ⟨rfl, hb⟩
    have HB := Lib.hid hb
    clear hb HC
    go_wp2
    go_ret
    exact Does.same HB.out (HS.out.below HB.out)
end Go.Proofs.YtmabhciijdceoaaDoor
