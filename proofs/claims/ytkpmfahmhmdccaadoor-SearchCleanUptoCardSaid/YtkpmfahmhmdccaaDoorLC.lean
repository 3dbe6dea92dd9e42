/-
  Absolute paths, Clean and Within.
-/
import Derived.Test.YtkpmfahmhmdccaaDoorLB
namespace Go.Proofs.YtkpmfahmhmdccaaDoor.Fil
open Go.RowKit

abbrev dots : Str := [46, 46]
def absParts (l : Str) : Option (List Str) := if isAbs l then partsOf l else none
theorem partsOf_ok {l : Str} {ps : List Str} (h : partsOf l = some ps) : l.length ≤ 200 ∧ ps.length ≤ 201 ∧ ∀ p ∈ ps, p.length ≤ 64 ∧ part p = true ∧ keepPart p = true := by
  unfold partsOf at h
  split at h
  · cases h
  · split at h
    · rename_i h1 h2
      injection h with h
      subst h
      refine ⟨by omega, ?_, fun p hp => ?_⟩
      · have := partsIn_len (splitS l)
        have := splitS_length l
        omega
      · have hm := List.mem_filter.1 hp
        have hq := List.all_eq_true.1 h2 p hm.1
        refine ⟨?_, hq, hm.2⟩
        simp [part] at hq
        exact hq.1
    · cases h
theorem absParts_ok {l : Str} {ps : List Str} (h : absParts l = some ps) : l.length ≤ 200 ∧ ps.length ≤ 201 ∧ ∀ p ∈ ps, p.length ≤ 64 ∧ part p = true ∧ keepPart p = true := by
  unfold absParts at h
  split at h
  · exact partsOf_ok h
  · cases h
/-- Behind a call that takes an absolute path apart. -/
def Absd (w : World) (o : Option (List Str)) (e : Ending) (w' : World) : Prop :=
  Below w.heap.size w w' ∧ match o with
    | none => e = .returned (.tuple #[.slice none 0 0, .int .i64 30])
    | some ps => ∃ A c, e = .returned (.tuple #[.slice A ps.length c, .int .i64 0]) ∧ w'.ownsRow w.heap.size 9 1 (.slice A ps.length c) ps.length (strs ps)

theorem absParts_any (l : Str) (w : World) (hs : l.length ≤ 9223372036854775807) (hm : Ml w) :
    Calls Tryd.prog 21 #[str l] w (Absd w (absParts l)) := by
  have HP := Lib.hid (partsOf_any l w hs hm)
  have HA := Lib.hid (fun w => isAbs_any l w)
  have HU := Lib.hid (show absParts l = if isAbs l then partsOf l else none from rfl)
  clear hm
  go_enter Tryd.func21, Tryd.ntmps21
  go_wp2_with fail
  refine HP.out.mono ?_
  rintro e w1 ⟨hb, ho⟩
  have HB := Lib.hid hb
  clear hb
  cases hpo : partsOf l with
  | none =>
    rw [hpo] at ho HU
    simp only at ho
    subst ho
    go_wp2
    go_ret2
    refine ⟨HB.out, ?_⟩
    rw [HU.out, ite_self]
    rfl
  | some ps =>
    rw [hpo] at ho HU
    obtain ⟨A, c, rfl, ho⟩ := ho
    have HO := Lib.hid ho
    clear ho
    go_wp2_with fail
    refine (HA.out _).mono ?_
    rintro e w2 ⟨rfl, rfl⟩
    cases hab : isAbs l
    all_goals
      rw [hab] at HU
      go_wp2
      go_ret2
      refine ⟨HB.out, ?_⟩
      rw [HU.out]
    · rfl
    · exact ⟨A, c, rfl, HO.out⟩

/-- A step. -/
def up (at_ p : Str) : Str := if p = dots then above at_ else below at_ p
def walkAll (at_ : Str) (ps : List Str) : Str := ps.foldl up at_
def clean (l : Str) : Str × Int := match absParts l with
  | none => ([], 30)
  | some ps => (walkAll rootS ps, 0)
def within (l : Str) : Str × Int := match absParts l with
  | none => ([], 30)
  | some ps => (above (walkAll rootS ps), 0)
theorem above_len (l : Str) : (above l).length ≤ l.length := by simp [above]; omega
theorem above_pos (l : Str) (h : 1 ≤ l.length) : 1 ≤ (above l).length := by simp [above]; omega
theorem below_len (a p : Str) : (below a p).length ≤ a.length + p.length + 1 := by
  unfold below
  split
  · rename_i h; subst h; simp
  · simp; omega
theorem below_pos (a p : Str) : 1 ≤ (below a p).length := by
  unfold below
  split <;> simp
  omega
theorem up_len (a p : Str) (hp : p.length ≤ 64) : (up a p).length ≤ a.length + 65 := by
  unfold up
  split
  · have := above_len a; omega
  · have := below_len a p; omega
theorem up_pos (a p : Str) (h : 1 ≤ a.length) : 1 ≤ (up a p).length := by
  unfold up
  split
  · exact above_pos a h
  · exact below_pos a p
theorem walkAll_take (a : Str) (ps : List Str) (k : Nat) (hk : k < ps.length) : walkAll a (ps.take (k + 1)) = up (walkAll a (ps.take k)) ps[k] := by
  unfold walkAll
  rw [List.take_succ_eq_append_getElem hk, List.foldl_append]
  rfl
theorem walkAll_len (a : Str) (ps : List Str) (hp : ∀ p ∈ ps, p.length ≤ 64) (h : 1 ≤ a.length) : 1 ≤ (walkAll a ps).length ∧ (walkAll a ps).length ≤ a.length + 65 * ps.length := by
  induction ps generalizing a with
  | nil => exact ⟨h, by simp [walkAll]⟩
  | cons p ps ih =>
    have h1 := up_len a p (hp p (by simp))
    have := ih (up a p) (fun q hq => hp q (by simp [hq])) (up_pos a p h)
    simp only [List.length_cons]
    exact ⟨this.1, by have := this.2; show (walkAll (up a p) ps).length ≤ _; omega⟩

theorem clean_any (l : Str) (w : World) (hs : l.length ≤ 9223372036854775807) (hm : Ml w) :
    Calls Tryd.prog 12 #[str l] w fun e w' => e = .returned (.tuple #[str (clean l).1, .int .i64 (clean l).2]) ∧ Below w.heap.size w w' := by
  have HP := Lib.hid (absParts_any l w hs hm)
  have HU : clean l = match absParts l with
    | none => ([], 30)
    | some ps => (walkAll rootS ps, 0) := rfl
  clear hm
  cases hpo : absParts l with
  | none =>
    rw [hpo] at HP HU
    rw [HU]
    go_enter Tryd.func12, Tryd.ntmps12
    go_wp2_with fail
    refine HP.out.mono ?_
    rintro e w1 ⟨hb, rfl⟩
    have HB := Lib.hid hb
    clear hb
    go_wp2
    go_ret2
    exact ⟨rfl, HB.out⟩
  | some ps =>
    have hok := absParts_ok hpo
    rw [hpo] at HP HU
    rw [HU]
    obtain ⟨hl, hn, hq⟩ := hok
    have HQ := Lib.hid hq
    clear hq HU hpo
    go_enter Tryd.func12, Tryd.ntmps12
    go_wp2_with fail
    refine HP.out.mono ?_
    rintro e w1 ⟨hb, A, c, rfl, ho⟩
    have HB := Lib.hid hb
    have HO := Lib.hid ho
    clear hb ho HP
    go_wp2_with fail
    go_loop [6, 19] (fun t i => ∃ k : Nat, k ≤ ps.length ∧ i = .int .i64 k ∧ t = str (walkAll rootS (ps.take k))) (fun _ i => ps.length - (intOf i).toNat)
    case atStart => exact ⟨0, Nat.zero_le _, rfl, by simp [walkAll]⟩
    case round =>
      obtain ⟨k, hk, rfl, rfl⟩ := hrel
      by_cases hlt : k < ps.length
      · obtain ⟨ad, rfl⟩ : ∃ ad, A = some ad := by
          cases A with
          | none => have := (Src.of_own HO.out).nil rfl; omega
          | some ad => exact ⟨ad, rfl⟩
        have hcell : w1.cell? (ad.add k) = some (str ps[k]) := (Src.of_own HO.out).at_ ad rfl k _ (by simp [strs, hlt])
        have hl := walkAll_len rootS (ps.take k) (fun p hp => (HQ.out p (List.mem_of_mem_take hp)).1) (by decide)
        have hl2 : (ps.take k).length ≤ 201 := by rw [List.length_take]; omega
        have hp64 := (HQ.out ps[k] (List.getElem_mem _)).1
        have HT := Lib.hid (walkAll_take rootS ps k hlt)
        generalize walkAll rootS (ps.take k) = a at *
        generalize ps[k] = q at *
        have hl3 : 1 ≤ a.length ∧ a.length ≤ 20000 := by simp at hl; omega
        have HA := Lib.hid (fun w => above_any a w (by omega) hl3.1)
        have HBL := Lib.hid (fun w => below_any a q w (by omega))
        by_cases hd : q = dots
        · have HT := Lib.hid (show walkAll rootS (ps.take (k + 1)) = above a by rw [HT.out, up, if_pos hd])
          have hd' : (q == [46, 46]) = true := by simpa using hd
          clear hd
          go_wp2_with (go_at_call 22; refine (HA.out _).mono ?_; rintro e w2 ⟨rfl, rfl⟩)
          go_round
          case rel => exact ⟨k + 1, by omega, by go_num, by rw [HT.out]⟩
          case measure => simp [intOf]; omega
        · have HT := Lib.hid (show walkAll rootS (ps.take (k + 1)) = below a q by rw [HT.out, up, if_neg hd])
          have hd' : (q == [46, 46]) = false := by simpa using hd
          clear hd
          go_wp2_with (go_at_call 23; refine (HBL.out _).mono ?_; rintro e w2 ⟨rfl, rfl⟩)
          go_round
          case rel => exact ⟨k + 1, by omega, by go_num, by rw [HT.out]⟩
          case measure => simp [intOf]; omega
      · obtain rfl : k = ps.length := by omega
        rw [List.take_length]
        go_wp2
        go_ret2
        exact ⟨rfl, HB.out⟩

theorem clean_len (l : Str) : (clean l).1.length ≤ 20000 ∧ ((clean l).2 = 0 → 1 ≤ (clean l).1.length) := by
  unfold clean
  cases hpo : absParts l with
  | none => simp
  | some ps =>
    have hok := absParts_ok hpo
    have := walkAll_len rootS ps (fun p hp => (hok.2.2 p hp).1) (by decide)
    simp only
    have h1 : rootS.length = 1 := rfl
    omega
theorem within_eq (l : Str) : within l = if (clean l).2 = 0 then (above (clean l).1, 0) else ([], 30) := by
  unfold within clean
  cases absParts l <;> simp
end Go.Proofs.YtkpmfahmhmdccaaDoor.Fil
