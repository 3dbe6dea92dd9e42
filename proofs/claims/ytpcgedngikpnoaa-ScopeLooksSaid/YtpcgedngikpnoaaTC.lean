/-
  Buckets that are filled: rows of places, each a row of its own.
-/
import Derived.Test.YtpcgedngikpnoaaTB
namespace Go.Proofs.Ytpcgedngikpnoaa
set_option maxRecDepth 100000
set_option linter.unusedSimpArgs false
set_option linter.unusedVariables false
open Go.RowKit

def il (l : List Int) : List Value := l.map fun i => .int .i64 i
theorem il_len (l : List Int) : (il l).length = l.length := by simp [il]
abbrev sl (p : Option Addr × Nat) (r : List Int) : Value := .slice p.1 r.length p.2
theorem sl_app (A : Option Addr) (c : Nat) (l : List Int) (x : Int) : sl (A, c) (l ++ [x]) = .slice A (l.length + 1) c := by simp [sl]
def slvs (n : Nat) (f : Nat → List Int) (s : Nat → Option Addr × Nat) : List Value := (List.range n).map fun k => sl (s k) (f k)
theorem slvs_get {n : Nat} {f : Nat → List Int} {s : Nat → Option Addr × Nat} {k : Nat} (hk : k < n) : (slvs n f s)[k]? = some (sl (s k) (f k)) := by simp [slvs, hk]
theorem own_ne {w : World} {B1 B2 s1 s2 n1 n2 : Nat} {e1 e2 : TypeId} {v1 v2 : Value} {x1 x2 : List Value} (h1 : w.ownsRow B1 e1 s1 v1 n1 x1) (h2 : w.ownsRow B2 e2 s2 v2 n2 x2) (hne : e1 ≠ e2) : ∀ k, v1.ownBlock = some k → v2.ownBlock ≠ some k := by
  intro k hk1 hk2
  rcases h1.2 with ⟨rfl, _⟩ | ⟨g1, c1, cur1, rfl, _, hh1, _⟩
  · cases hk1
  · rcases h2.2 with ⟨rfl, _⟩ | ⟨g2, c2, cur2, rfl, _, hh2, _⟩
    · cases hk2
    · injection hk1 with hk1
      injection hk2 with hk2
      have a1 : g1 = k := hk1
      have a2 : g2 = k := hk2
      subst a1
      subst a2
      rw [hh1] at hh2
      simp at hh2
      exact hne hh2.2
/-- Rows of places, each a block of its own. -/
structure Bks (w : World) (B g n : Nat) (f : Nat → List Int) (s : Nat → Option Addr × Nat) : Prop where
  out : w.ownsRow B 30 1 (.slice (some ⟨g, 0, none⟩) n n) n (slvs n f s)
  own : ∀ k, k < n → w.ownsRow B 3 1 (sl (s k) (f k)) (f k).length (il (f k))
  apart : ∀ i j, i < n → j < n → i ≠ j → ∀ q, (sl (s i) (f i)).ownBlock = some q → (sl (s j) (f j)).ownBlock ≠ some q
section
variable {w w1 w2 : World} {B g n : Nat} {f : Nat → List Int} {s : Nat → Option Addr × Nat}
theorem Bks.grown {r : Option Nat} (h : Bks w B g n f s) (hg : w.grownBy w1 r) (h1 : r ≠ some g) (h2 : ∀ k, k < n → ∀ q, (sl (s k) (f k)).ownBlock = some q → r ≠ some q) : Bks w1 B g n f s :=
  ⟨h.out.kept hg (.inr fun e => h1 e.symm), fun k hk => (h.own k hk).kept hg (by
    cases hq : (sl (s k) (f k)).ownBlock with
    | none => exact .inl rfl
    | some q => exact .inr fun e => h2 k hk q hq e.symm), h.apart⟩
theorem Bks.below (h : Bks w B g n f s) (hb : Below w.heap.size w w1) : Bks w1 B g n f s := h.grown (Siv.grow_below hb none) (by intro h; cases h) (fun _ _ _ _ h => by cases h)
theorem Bks.push (h : Bks w B g n f s) {i : Nat} (hi : i < n) {A' : Option Addr} {c' : Nat} {x : Int} (ho : w2.ownsRow B 3 1 (.slice A' ((f i).length + 1) c') ((f i).length + 1) (il (f i) ++ [.int .i64 x]))
    (hg : w.grownBy w2 (sl (s i) (f i)).ownBlock) (hb : (Value.slice A' ((f i).length + 1) c').ownBlock = (sl (s i) (f i)).ownBlock ∨ (Value.slice A' ((f i).length + 1) c').ownBlock = some w.heap.size) :
    Bks (w2.setCell ⟨g, i, none⟩ (.slice A' ((f i).length + 1) c')) B g n (fun k => if k = i then f i ++ [x] else f k) (fun k => if k = i then (A', c') else s k) := by
  have hne : (Value.slice (some ⟨g, 0, none⟩) n n).ownBlock = none ∨ (Value.slice (some ⟨g, 0, none⟩) n n).ownBlock ≠ (sl (s i) (f i)).ownBlock := .inr fun e => own_ne h.out (h.own i hi) (by decide) g rfl e.symm
  have ho2 := h.out.kept hg hne
  obtain ⟨ho3, hg3⟩ := ho2.stored i (.slice A' ((f i).length + 1) c')
  have hnew : (Value.slice A' ((f i).length + 1) c').ownBlock ≠ some g := fun e => own_ne ho ho2 (by decide) g e rfl
  refine ⟨?_, ?_, ?_⟩
  · have e : (slvs n f s).set i (.slice A' ((f i).length + 1) c') = slvs n (fun k => if k = i then f i ++ [x] else f k) (fun k => if k = i then (A', c') else s k) := by
      apply List.ext_getElem
      · simp [slvs]
      · intro j h1 h2
        simp only [slvs, List.getElem_set, List.getElem_map, List.getElem_range]
        by_cases hj : j = i
        · subst hj
          simp
        · rw [if_neg (fun e => hj e.symm)]
          simp [hj]
    rw [← e]
    exact ho3
  · intro k hk
    by_cases hki : k = i
    · subst hki
      simp only [if_true, List.length_append, List.length_singleton, sl_app]
      have e : il (f k ++ [x]) = il (f k) ++ [.int .i64 x] := by simp [il]
      rw [e]
      refine ho.kept hg3 ?_
      exact .inr hnew
    · simp only [if_neg hki]
      have h1 : w2.ownsRow B 3 1 (sl (s k) (f k)) (f k).length (il (f k)) := (h.own k hk).kept hg (by
        cases hq : (sl (s k) (f k)).ownBlock with
        | none => exact .inl rfl
        | some q => exact .inr fun e => h.apart k i hk hi hki q hq e.symm)
      exact h1.kept hg3 (.inr fun e => own_ne h1 ho2 (by decide) g e rfl)
  · intro a b ha hb' hab q hq
    by_cases hai : a = i
    · subst hai
      have hbi : b ≠ a := fun e => hab e.symm
      simp only [if_neg hbi]
      simp only [if_true, sl_app] at hq
      rcases hb with hb | hb
      · rw [hb] at hq
        exact h.apart a b ha hb' hab q hq
      · rw [hb] at hq
        injection hq with hq
        intro e
        have := ((h.own b hb').lt q e).2
        omega
    · simp only [if_neg hai] at hq
      by_cases hbi : b = i
      · subst hbi
        simp only [if_true, sl_app]
        rcases hb with hb | hb
        · rw [hb]
          exact h.apart a b ha hb' hab q hq
        · rw [hb]
          intro e
          injection e with e
          have := ((h.own a ha).lt q hq).2
          omega
      · simp only [if_neg hbi]
        exact h.apart a b ha hb' hab q hq
end
/-- Which symbols' places stand in a bucket. -/
def inB (ss : List Sym) (cnt b i : Nat) : Bool := match ss[i]? with
  | some s => seenB s && (bkt (hashS s.name) cnt == b)
  | none => false
def fillS (ss : List Sym) (cnt k b : Nat) : List Int := ((List.range k).filter (inB ss cnt b)).map fun (i : Nat) => (i : Int)
theorem fill_succ (ss : List Sym) (cnt k b : Nat) : fillS ss cnt (k + 1) b = fillS ss cnt k b ++ (if inB ss cnt b k = true then [(k : Int)] else []) := by
  unfold fillS
  rw [List.range_succ, List.filter_append, List.map_append]
  congr 1
  by_cases h : inB ss cnt b k = true
  · simp [h]
  · simp [h]
theorem fill_len (ss : List Sym) (cnt k b : Nat) : (fillS ss cnt k b).length ≤ k := by
  unfold fillS
  rw [List.length_map]
  have := List.length_filter_le (inB ss cnt b) (List.range k)
  simpa using this
theorem Bks.same {w : World} {B g n : Nat} {f f' : Nat → List Int} {s : Nat → Option Addr × Nat} (h : Bks w B g n f s) (e : ∀ k, k < n → f' k = f k) : Bks w B g n f' s := by
  have e1 : slvs n f' s = slvs n f s := by
    unfold slvs
    apply List.map_congr_left
    intro k hk
    rw [e k (List.mem_range.1 hk)]
  exact ⟨by rw [e1]; exact h.out, fun k hk => by rw [e k hk]; exact h.own k hk, fun i j hi hj hij q hq => by rw [e i hi] at hq; rw [e j hj]; exact h.apart i j hi hj hij q hq⟩
end Go.Proofs.Ytpcgedngikpnoaa
