/-
  A token's word, and pieces put one behind the other.
-/
import Derived.Test.YtkpmfahmhmdccaaDoorTB
namespace Go.Proofs.YtkpmfahmhmdccaaDoor
open Go.RowKit

/-- What a part begins with: its value, what is behind it, and whether it is one. -/
def cutR (o p : Str) : Str × Str × Bool := if oW.isPrefixOf p = true then (o, p.drop 6, true) else (lV, Lib.trimPrefix p lW, lW.isPrefixOf p)
theorem cutR_yes {o p : Str} {x : Str × Str} (h : cutW o p = some x) : cutR o p = (x.1, x.2, true) := by
  unfold cutW at h
  unfold cutR
  split at h
  · rw [if_pos ‹_›]; injection h with h; rw [← h]
  · rw [if_neg ‹_›]
    split at h
    · injection h with h
      rw [← h, Lib.trimPrefix, if_pos (by unfold Lib.hasPrefix; assumption)]
      simp_all [lW]
    · cases h
theorem cutR_no {o p : Str} (h : cutW o p = none) : ∃ v r, cutR o p = (v, r, false) := by
  unfold cutW at h
  unfold cutR
  split at h
  · cases h
  · rw [if_neg ‹_›]
    split at h
    · cases h
    · rename_i h2
      exact ⟨_, _, by rw [Bool.eq_false_iff.2 h2]⟩

theorem cutPrefix_any (p x : Str) (w : World) : Calls Tryd.prog 60 #[str p, str x] w fun e w' => e = .returned (.tuple #[str (Lib.trimPrefix p x), .bool (x.isPrefixOf p)]) ∧ w' = w :=
  Tryd.strings_CutPrefix ⟨p.toArray⟩ ⟨x.toArray⟩ w
set_option maxRecDepth 100000 in
theorem cutWord_any (p o : Str) (w : World) : Calls Tryd.prog 50 #[str p, str o] w fun e w' => e = .returned (.tuple #[str (cutR o p).1, str (cutR o p).2.1, .bool (cutR o p).2.2]) ∧ w' = w := by
  by_cases ho : oW.isPrefixOf p = true
  · have e : cutR o p = (o, Lib.trimPrefix p oW, true) := by
      unfold cutR
      rw [if_pos ho, Lib.trimPrefix, if_pos (by unfold Lib.hasPrefix; exact ho)]
      rfl
    have H1 := Lib.hid (cutPrefix_any p oW)
    rw [ho] at H1
    rw [e]
    generalize Lib.trimPrefix p oW = q1 at *
    clear ho e
    go_enter Tryd.func50, Tryd.ntmps50
    go_wp2_with (go_at_call 60; refine (H1.out _).mono ?_; rintro e w' ⟨rfl, rfl⟩)
    go_ret3
    exact ⟨rfl, rfl⟩
  · have e : cutR o p = (lV, Lib.trimPrefix p lW, lW.isPrefixOf p) := by
      unfold cutR
      rw [if_neg ho]
    have ho' : oW.isPrefixOf p = false := Bool.eq_false_iff.2 ho
    have H1 := Lib.hid (cutPrefix_any p oW)
    have H2 := Lib.hid (cutPrefix_any p lW)
    rw [ho'] at H1
    rw [e]
    generalize Lib.trimPrefix p oW = q1 at *
    generalize Lib.trimPrefix p lW = q2 at *
    generalize lW.isPrefixOf p = b2 at *
    clear ho ho' e
    go_enter Tryd.func50, Tryd.ntmps50
    go_wp2_with fail
    refine (H1.out _).mono ?_
    rintro e w' ⟨rfl, rfl⟩
    go_wp2_with fail
    refine (H2.out _).mono ?_
    rintro e w' ⟨rfl, rfl⟩
    go_wp2
    go_ret3
    exact ⟨rfl, rfl⟩

/-- Pieces that are put one behind the other, as long as there is room. -/
def concE (ps : List Str) : Str × Int := if 200 < ps.flatten.length then ([], 2) else (ps.flatten, 0)
theorem flatten_take (ps : List Str) (k : Nat) (hk : k < ps.length) : (ps.take (k + 1)).flatten = (ps.take k).flatten ++ ps[k] := by
  rw [List.take_succ_eq_append_getElem hk, List.flatten_append]; simp
theorem flatten_le (ps : List Str) (k : Nat) : (ps.take k).flatten.length ≤ ps.flatten.length := by
  conv => rhs; rw [← List.take_append_drop k ps, List.flatten_append, List.length_append]
  omega
theorem strs_get (ps : List Str) (k : Nat) (hk : k < ps.length) : (strs ps)[k]? = some (str ps[k]) := by simp [strs, hk]

set_option maxRecDepth 100000 in
set_option maxHeartbeats 1000000 in
theorem concat_any (P : Nat → Prop) (A : Option Addr) (n c : Nat) (ps : List Str) (w : World) (h : Src w P A n c (strs ps)) (hn : n ≤ 9223372036854775806) (hl : ∀ p ∈ ps, p.length ≤ 140737488351232) :
    Calls Tryd.prog 40 #[.slice A n c] w fun e w' => e = .returned (.tuple #[str (concE ps).1, .int .i64 (concE ps).2]) ∧ Below w.heap.size w w' := by
  have hlen : ps.length = n := by simpa using h.len
  have HS := Lib.hid h.lt
  have HE := Lib.hid (show concE ps = if 200 < ps.flatten.length then ([], 2) else (ps.flatten, 0) from rfl)
  have HL := Lib.hid hl
  generalize concE ps = r at *
  clear h hl
  go_enter Tryd.func40, Tryd.ntmps40
  go_wp2_with fail
  go_loopw [6, 9] (fun _ i wr => ∃ k : Nat, k ≤ n ∧ i = .int .i64 (k : Int) ∧ Bld wr w.heap.size w.heap.size (ps.take k).flatten ∧ (ps.take k).flatten.length ≤ 200 ∧ Below w.heap.size w wr) (fun _ i _ => n - (intOf i).toNat)
  case atStart => exact ⟨0, Nat.zero_le _, rfl, bld_new w, by simp, (Below.refl _ _).alloc (Nat.le_refl _) _⟩
  case round =>
    obtain ⟨k, hk, rfl, hb, h200, hB⟩ := hrel
    have HB := Lib.hid hb
    have HW := Lib.hid hB
    clear hb hB
    by_cases hkn : k < n
    · have hk' : k < ps.length := by omega
      cases A with
      | none => have := (HS.out.nil rfl).1; omega
      | some ad =>
        have hc := HS.out.below HW.out (fun j hj => hj) |>.at_ ad rfl k _ (strs_get ps k hk')
        have hpl := HL.out ps[k] (List.getElem_mem _)
        have hft := flatten_take ps k hk'
        have hfl := flatten_le ps (k + 1)
        generalize hp : ps[k] = p at *
        generalize hf : (ps.take k).flatten = f at *
        have HF := Lib.hid (And.intro hp (And.intro hf (And.intro hft hfl)))
        clear hp hf hft hfl
        go_wp2_with (first
          | (go_at_call 51; refine (blen_any _ _ _ _ HB.out).mono ?_; rintro e w' ⟨rfl, rfl⟩)
          | (go_at_call 52; refine (write_any _ _ _ _ _ HB.out (by omega) HW.out.size).mono ?_; rintro e w2 ⟨⟨v, rfl⟩, hb2, hw2⟩))
        · go_ret2
          obtain ⟨hp, hf, hft, hfl⟩ := HF.out
          refine ⟨?_, HW.out⟩
          rw [HE.out, if_pos (by rw [hft, List.length_append] at hfl; omega)]
          try rfl
        · go_round
          case rel =>
            obtain ⟨hp, hf, hft, hfl⟩ := HF.out
            refine ⟨k + 1, by omega, by go_num, by rw [hft]; exact hb2, by rw [hft, List.length_append]; omega, HW.out.trans hw2⟩
          case measure => simp [intOf]; omega
    · obtain rfl : k = n := by omega
      rw [List.take_of_length_le (by omega)] at h200 HB
      go_wp2_with (go_at_call 53; refine (bstring_any _ _ _ _ HB.out HW.out.size).mono ?_; rintro e w2 ⟨rfl, hw2⟩)
      go_ret2
      refine ⟨?_, HW.out.trans hw2⟩
      rw [HE.out, if_neg (by omega)]
      try rfl
end Go.Proofs.YtkpmfahmhmdccaaDoor
