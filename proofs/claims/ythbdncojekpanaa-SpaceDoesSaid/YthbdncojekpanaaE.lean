/-
  Which block holds a range, and whether a range is free.
-/
import Derived.Test.YthbdncojekpanaaD
namespace Go.Proofs.Ythbdncojekpanaa
open Go.RowKit

/-- The regions of a list, in increasing order, none of which reaches into the next one, all within the limits. -/
structure Ord (rs : List Raw) : Prop where
  fit : ∀ r ∈ rs, 4096 ≤ r.b.at_ ∧ 64 ≤ r.b.size ∧ r.b.at_ + r.b.size ≤ 4294967296
  next : ∀ (j k : Nat) (hj : j < rs.length) (hk : k < rs.length), j < k → rs[j].b.at_ + rs[j].b.size ≤ rs[k].b.at_
theorem Ord.asc {rs : List Raw} (h : Ord rs) : Asc rs := fun j k hj hk hjk => by
  have h1 := h.next j k hj hk hjk
  have h2 := (h.fit rs[j] (List.getElem_mem hj)).2.1
  omega
theorem Ord.inn {rs : List Raw} (h : Ord rs) : In rs := fun r hr => by
  obtain ⟨h1, h2, h3⟩ := h.fit r hr
  exact ⟨h1, by omega, h3⟩

/-- A range is free. -/
def Free (rs : List Raw) (a n : Int) : Prop := ∀ r ∈ rs, a + n ≤ r.b.at_ ∨ r.b.at_ + r.b.size ≤ a
theorem free_pos {rs : List Raw} (h : Ord rs) {a n : Int} (hn : 1 ≤ n) {i : Nat} {f : Bool} (hp : Pos rs a i f) :
    Free rs a n ↔ (∀ (k : Nat) (hk : k < rs.length), k + 1 = i → rs[k].b.at_ + rs[k].b.size ≤ a) ∧ (∀ hk : i < rs.length, a + n ≤ rs[i].b.at_) := by
  constructor
  · intro hf
    refine ⟨fun k hk hki => ?_, fun hk => ?_⟩
    · rcases hf rs[k] (List.getElem_mem hk) with h1 | h1
      · have := hp.lo k hk (by omega); omega
      · exact h1
    · rcases hf rs[i] (List.getElem_mem hk) with h1 | h1
      · exact h1
      · have h2 := hp.hi i hk (Nat.le_refl _)
        have h3 := (h.fit rs[i] (List.getElem_mem hk)).2.1
        omega
  · rintro ⟨h1, h2⟩ r hr
    obtain ⟨k, hk, rfl⟩ := List.getElem_of_mem hr
    by_cases hki : k < i
    · right
      by_cases he : k + 1 = i
      · exact h1 k hk he
      · have hk2 : i - 1 < rs.length := by have := hp.le; omega
        have h3 := h1 (i - 1) hk2 (by omega)
        have h4 := h.next k (i - 1) hk hk2 (by omega)
        have h5 := (h.fit rs[i - 1] (List.getElem_mem hk2)).2.1
        omega
    · left
      have hi2 : i < rs.length := by omega
      have h3 := h2 hi2
      by_cases he : k = i
      · subst he; exact h3
      · have h4 := h.next i k hi2 hk (by omega)
        have h5 := (h.fit rs[i] (List.getElem_mem hi2)).2.1
        omega

set_option maxRecDepth 100000 in
set_option maxHeartbeats 2000000 in
theorem free_any (A : Option Addr) (n c g : Nat) (rs : List Raw) (a s : Int) (ha : 4096 ≤ a ∧ a ≤ 4294967296) (hs : 1 ≤ s ∧ s ≤ 1048576) (w : World) (hc : w.cell? ⟨g, 0, none⟩ = some (.slice A n c)) (h : Bls w A n c rs) (ho : Ord rs) (hn : n ≤ 1152921504606846976) :
    Calls Try.prog 56 #[.pointer (some ⟨g, 0, none⟩), .int .i64 a, .int .i64 s] w fun e w' => ∃ f : Bool, e = .returned (.bool f) ∧ (f = true ↔ Free rs a s) ∧ Below w.heap.size w w' := by
  have HPO := Lib.hid (position_any A n c g rs a w hc h ho.asc hn)
  have H := Lib.hid h
  have hl := h.len
  have HO := Lib.hid ho
  have e1 : wrap64 (a + s) = a + s := IntWalk.wrap64_in _ (by omega)
  clear h ho
  go_enter Try.func56, Try.ntmps56
  go_wp2_with fail
  refine HPO.out.mono ?_
  rintro e w1 ⟨i, f, rfl, hb, hp⟩
  have HF := Lib.hid (free_pos HO.out (n := s) (by omega) hp)
  have HB := Lib.hid hb
  have hile := hp.le
  have hc1 := cell_below hb hc
  clear hb hp HPO
  by_cases hi0 : i = 0
  · subst hi0
    have HF1 := Lib.hid (show Free rs a s ↔ ∀ hk : 0 < rs.length, a + s ≤ rs[0].b.at_ from ⟨fun h => (HF.out.1 h).2, fun h => HF.out.2 ⟨fun k hk h0 => by omega, h⟩⟩)
    clear HF
    by_cases hin : n = 0
    · have HF2 := Lib.hid (show Free rs a s from HF1.out.2 (fun hk => by omega))
      subst hin
      clear HF1
      go_wp2_with fail
      go_ret
      exact ⟨true, rfl, ⟨fun _ => HF2.out, fun _ => rfl⟩, HB.out⟩
    · have hir : 0 < rs.length := by omega
      obtain ⟨ad, rfl⟩ : ∃ ad, A = some ad := by
        cases A with
        | none => have := (H.out.nil rfl).1; omega
        | some ad => exact ⟨ad, rfl⟩
      obtain ⟨b, o, rfl⟩ := H.out.plain ad rfl
      obtain ⟨c0, _, _, _⟩ := (H.out.below HB.out).at_ b o 0 rfl hir
      have HF2 := Lib.hid (show Free rs a s ↔ a + s ≤ rs[0].b.at_ from ⟨fun h => HF1.out.1 h hir, fun h => HF1.out.2 (fun _ => h)⟩)
      generalize rs[0].b.at_ = a0 at *
      have hnz : ((0 : Int) == (n : Int)) = false := by rw [beq_eq_false_iff_ne]; omega
      clear HF1
      simp only [Nat.zero_mul, Nat.add_zero] at c0
      go_wp2_with fail
      go_ret
      exact ⟨decide (a + s ≤ a0), rfl, by rw [HF2.out]; exact decide_eq_true_iff, HB.out⟩
  · obtain ⟨m, rfl⟩ : ∃ m, i = m + 1 := ⟨i - 1, by omega⟩
    have hmr : m < rs.length := by omega
    have hmn : m < n := by omega
    obtain ⟨ad, rfl⟩ : ∃ ad, A = some ad := by
      cases A with
      | none => have := (H.out.nil rfl).1; omega
      | some ad => exact ⟨ad, rfl⟩
    obtain ⟨b, o, rfl⟩ := H.out.plain ad rfl
    obtain ⟨c0, c1, _, _⟩ := (H.out.below HB.out).at_ b o m rfl hmr
    have HF1 := Lib.hid (show Free rs a s ↔ rs[m].b.at_ + rs[m].b.size ≤ a ∧ ∀ hk : m + 1 < rs.length, a + s ≤ rs[m + 1].b.at_ from
      ⟨fun h => ⟨(HF.out.1 h).1 m hmr rfl, (HF.out.1 h).2⟩, fun h => HF.out.2 ⟨(fun k hk hkm => (by have e : k = m := (by omega); subst e; exact h.1)), h.2⟩⟩)
    obtain ⟨i1, i2, i3⟩ := HO.out.fit rs[m] (List.getElem_mem hmr)
    have HEN := Lib.hid (end_any b (o + m * 4) rs[m].b.at_ rs[m].b.size w1 c0 c1 ⟨by omega, by omega⟩)
    generalize rs[m].b.at_ = a0 at *
    generalize rs[m].b.size = s0 at *
    clear HF
    have hm1 : wrap64 ((m : Int) + 1 - 1) = (m : Int) := by rw [IntWalk.wrap64_in _ (by omega)]; omega
    by_cases hover : a0 + s0 ≤ a
    · by_cases hin : m + 1 = n
      · have HF2 := Lib.hid (show Free rs a s from HF1.out.2 ⟨hover, fun hk => by omega⟩)
        subst hin
        clear HF1
        go_wp2_with fail
        refine HEN.out.mono ?_
        rintro e w2 ⟨rfl, hb2⟩
        have HB2 := Lib.hid (HB.out.trans (hb2.mono HB.out.size))
        have hc2 := cell_below hb2 hc1
        clear hb2 HEN HB hc1
        go_wp2_with fail
        go_ret
        exact ⟨true, rfl, ⟨fun _ => HF2.out, fun _ => rfl⟩, HB2.out⟩
      · have hir : m + 1 < rs.length := by omega
        obtain ⟨d0, _, _, _⟩ := (H.out.below HB.out).at_ b o (m + 1) rfl hir
        have HF2 := Lib.hid (show Free rs a s ↔ a + s ≤ rs[m + 1].b.at_ from ⟨fun h => (HF1.out.1 h).2 hir, fun h => HF1.out.2 ⟨hover, fun _ => h⟩⟩)
        generalize rs[m + 1].b.at_ = a1 at *
        have hnz : ((m : Int) + 1 == (n : Int)) = false := by rw [beq_eq_false_iff_ne]; omega
        clear HF1
        go_wp2_with fail
        refine HEN.out.mono ?_
        rintro e w2 ⟨rfl, hb2⟩
        have HB2 := Lib.hid (HB.out.trans (hb2.mono HB.out.size))
        have hc2 := cell_below hb2 hc1
        have d2 := cell_below hb2 d0
        clear hb2 HEN HB hc1 d0
        go_wp2_with fail
        go_ret
        exact ⟨decide (a + s ≤ a1), rfl, by rw [HF2.out]; exact decide_eq_true_iff, HB2.out⟩
    · have HF2 := Lib.hid (show ¬ Free rs a s from fun h => absurd (HF1.out.1 h).1 hover)
      clear HF1
      go_wp2_with fail
      refine HEN.out.mono ?_
      rintro e w2 ⟨rfl, hb2⟩
      have HB2 := Lib.hid (HB.out.trans (hb2.mono HB.out.size))
      clear hb2 HEN HB
      go_wp2_with fail
      go_ret
      exact ⟨false, rfl, ⟨(fun h => by cases h), fun h => absurd h HF2.out⟩, HB2.out⟩
end Go.Proofs.Ythbdncojekpanaa
