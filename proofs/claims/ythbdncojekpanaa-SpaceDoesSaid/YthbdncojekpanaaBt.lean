/-
  What a new region is asked: plain facts.
-/
import Derived.Test.YthbdncojekpanaaAj
namespace Go.Proofs.Ythbdncojekpanaa
open Go.RowKit

theorem ins_len (x : Seg) : ∀ ss, (insS x ss).length = ss.length + 1
  | [] => rfl
  | s :: ss => by
    unfold insS
    split
    · rfl
    · rw [List.length_cons, ins_len x ss, List.length_cons]
theorem mem_ins (x : Seg) : ∀ ss, x ∈ insS x ss
  | [] => List.mem_singleton.2 rfl
  | s :: ss => by
    unfold insS
    split
    · exact List.mem_cons_self ..
    · exact List.mem_cons_of_mem _ (mem_ins x ss)
theorem ins_old {x s : Seg} : ∀ {ss : List Seg}, s ∈ ss → s ∈ insS x ss
  | y :: ss, h => by
    unfold insS
    split
    · exact List.mem_cons_of_mem _ h
    · rcases List.mem_cons.1 h with rfl | h
      · exact List.mem_cons_self ..
      · exact List.mem_cons_of_mem _ (ins_old h)
theorem del_ins {x : Seg} : ∀ {ss : List Seg}, (∀ s ∈ ss, s.at_ ≠ x.at_) → delS (insS x ss) x.at_ = ss
  | [], _ => by unfold insS delS; simp
  | s :: ss, h => by
    have h1 := h s (List.mem_cons_self ..)
    have hr : ∀ y ∈ ss, y.at_ ≠ x.at_ := fun y hy => h y (List.mem_cons_of_mem _ hy)
    have hall : ss.filter (fun s => decide (s.at_ ≠ x.at_)) = ss := List.filter_eq_self.2 fun y hy => by simpa using hr y hy
    unfold insS
    split
    · unfold delS
      rw [List.filter_cons_of_neg (by simp), List.filter_cons_of_pos (by simpa using h1), hall]
    · have ih := del_ins hr
      unfold delS at ih ⊢
      rw [List.filter_cons_of_pos (by simpa using h1), ih]
theorem hold_mem {ss : List Seg} (hg : Good ss) {x : Seg} (hx : x ∈ ss) {a n : Int} (hn : 1 ≤ n) (h1 : x.at_ ≤ a) (h2 : a + n ≤ x.at_ + x.size) : holdS ss a n = some x := by
  unfold holdS
  obtain ⟨k, hk, rfl⟩ := List.getElem_of_mem hx
  rw [List.find?_eq_some_iff_getElem]
  refine ⟨by unfold inS; simpa using ⟨h1, h2⟩, k, hk, rfl, fun j hj => ?_⟩
  have h3 := List.pairwise_iff_getElem.1 hg.next j k (by omega) hk hj
  unfold inS
  simp
  omega
theorem hold_in {ss : List Seg} {a n : Int} {x : Seg} (h : holdS ss a n = some x) : x ∈ ss ∧ x.at_ ≤ a ∧ a + n ≤ x.at_ + x.size := by
  unfold holdS at h
  have h1 := List.find?_some h
  unfold inS at h1
  exact ⟨List.mem_of_find?_eq_some h, by simpa using h1⟩
theorem free_not {ss : List Seg} (hg : Good ss) {a n : Int} (hn : 1 ≤ n) (hf : freeS ss a n) : ∀ s ∈ ss, s.at_ ≠ a := fun s hs e => by
  have := (hg.fit s hs).2.2.1
  rcases hf s hs with h | h <;> omega
theorem has_ins (x : Seg) (ss : List Seg) : hasS (insS x ss) x.at_ = true := by
  unfold hasS
  rw [List.any_eq_true]
  exact ⟨x, mem_ins x ss, by simp⟩
theorem has_none {ss : List Seg} {a : Int} (h : ∀ s ∈ ss, s.at_ ≠ a) : hasS ss a = false := by
  unfold hasS
  rw [List.any_eq_false]
  intro s hs
  simpa using h s hs
theorem and_zero (p : Int) : bits .and .i64 p 0 = 0 := by
  have h : (BitVec.ofInt 64 p &&& BitVec.ofInt 64 0) = 0#64 := by
    rw [show BitVec.ofInt 64 0 = 0#64 from rfl, BitVec.and_zero]
  unfold bits
  simp
  rfl
theorem and_one (p : Int) (hp : 0 ≤ p ∧ p ≤ 7) : (bits .and .i64 p 1 = 1 ↔ p % 2 = 1) := by
  have : p = 0 ∨ p = 1 ∨ p = 2 ∨ p = 3 ∨ p = 4 ∨ p = 5 ∨ p = 6 ∨ p = 7 := by omega
  rcases this with rfl | rfl | rfl | rfl | rfl | rfl | rfl | rfl <;> decide
theorem map_cases {ss : List Seg} (hg : Good ss) (s p : Int) : mapS ss s p = (0, 1, ss) ∨ mapS ss s p = (0, 3, ss) ∨ ∃ a, mapS ss s p = (a, 0, insS (newS a (up s) p) ss) ∧ (1 ≤ s ∧ s ≤ 1048576) ∧ (0 ≤ p ∧ p ≤ 7) ∧ gapS s 4096 ss = some a ∧ 4096 ≤ a ∧ a + up s ≤ 4294967296 ∧ a % 64 = 0 ∧ freeS ss a (up s) := by
  unfold mapS
  split
  · rename_i hb
    obtain ⟨h1, h2⟩ := (Bool.and_eq_true _ _).mp hb
    cases hgp : gapS s 4096 ss with
    | none => exact .inr (.inl rfl)
    | some a =>
      obtain ⟨g1, g2, g3, g4⟩ := gapS_free hg (fun x hx => (hg.fit x hx).1) hgp
      have g5 := g4 (by omega)
      have h3 := up_fit g5 g1 (size_of h1) (by omega)
      exact .inr (.inr ⟨a, rfl, size_of h1, perm_of h2, rfl, g1, h3.2.2.2.2.2, g5, freeS_up hg g5 g3⟩)
  · exact .inl rfl
theorem new_asks {ss : List Seg} (hg : Good ss) {a s p : Int} (hg' : Good (insS (newS a (up s) p) ss)) (hs : 1 ≤ s ∧ s ≤ 1048576) (hp : 0 ≤ p ∧ p ≤ 7) (hf : freeS ss a (up s)) :
    goesS (insS (newS a (up s) p) ss) a s 0 = 0 ∧ gotS (insS (newS a (up s) p) ss) a s = zeros s.toNat ∧ goesS (insS (newS a (up s) p) ss) a s 1 = (if p % 2 = 1 then 0 else 52) ∧
      unmapS (insS (newS a (up s) p) ss) a = (0, ss) ∧ unmapS ss a = (50, ss) := by
  have hu : s ≤ up s := by unfold up; omega
  have hh : holdS (insS (newS a (up s) p) ss) a s = some (newS a (up s) p) := hold_mem hg' (mem_ins _ _) hs.1 (Int.le_refl _) (by show a + s ≤ a + up s; omega)
  have hno : ∀ x ∈ ss, x.at_ ≠ a := free_not hg (by omega) hf
  refine ⟨?_, ?_, ?_, ?_, ?_⟩
  · unfold goesS
    rw [if_neg (by omega), hh]
    exact if_pos (and_zero p)
  · unfold gotS
    rw [hh]
    show (List.range s.toNat).map (fun _ => (0 : UInt8)) = zeros s.toNat
    unfold zeros
    rw [List.map_const', List.length_range]
  · unfold goesS
    rw [if_neg (by omega), hh]
    show (if bits .and .i64 p 1 = 1 then (0 : Int) else 52) = _
    by_cases h : p % 2 = 1
    · rw [if_pos h, if_pos ((and_one p hp).2 h)]
    · rw [if_neg h, if_neg fun e => h ((and_one p hp).1 e)]
  · unfold unmapS
    rw [if_pos (has_ins (newS a (up s) p) ss), show delS (insS (newS a (up s) p) ss) a = ss from del_ins (x := newS a (up s) p) hno]
  · unfold unmapS
    rw [if_neg (by rw [has_none hno]; decide)]
end Go.Proofs.Ythbdncojekpanaa
