/-
  Several rows of numbers beside one another; what is still to be done of a walk in depth.
-/
import Derived.Test.YtkaejcpnlphdpaaJ
import Derived.Deep.LoopGhost
namespace Go.Proofs.Ytkaejcpnlphdpaa
open Go.RowKit

/-- As D, with the number of steps. -/
inductive DC (g : Gr) : Nat → List Int → List Int → List Int → List Int → List Int → Prop
  | nil (C o) : DC g 0 C o [] C o
  | skip {c C o x l C' o'} : x ∈ C → DC g c C o l C' o' → DC g (c + 1) C o (x :: l) C' o'
  | go {c1 c2 C o x l C1 o1 C' o'} : x ∉ C → DC g c1 (C ++ [x]) o (adj g x) C1 o1 → DC g c2 C1 (o1 ++ [x]) l C' o' → DC g (c1 + c2 + 2) C o (x :: l) C' o'
theorem D.cnt {g : Gr} {C o l C' o' : List Int} (h : D g C o l C' o') : ∃ c, DC g c C o l C' o' := by
  induction h with
  | nil C o => exact ⟨0, .nil C o⟩
  | skip hx _ ih => obtain ⟨c, h⟩ := ih; exact ⟨c + 1, .skip hx h⟩
  | go hx _ _ ih1 ih2 => obtain ⟨c1, h1⟩ := ih1; obtain ⟨c2, h2⟩ := ih2; exact ⟨c1 + c2 + 2, .go hx h1 h2⟩
/-- What a row of entered nodes, the last one first, each with how many of its edges were gone along, still leads to. -/
def Fin (g : Gr) : Nat → List (Int × Nat) → List Int → List Int → List Int → List Int → Prop
  | c, [], C, o, C', o' => c = 0 ∧ C = C' ∧ o = o'
  | c, (x, k) :: ts, C, o, C', o' => ∃ c1 c2 C1 o1, c = c1 + 1 + c2 ∧ k ≤ (adj g x).length ∧ DC g c1 C o ((adj g x).drop k) C1 o1 ∧ Fin g c2 ts C1 (o1 ++ [x]) C' o'
section
variable {g : Gr} {c k : Nat} {x : Int} {ts : List (Int × Nat)} {C o C' o' : List Int}
theorem Fin.pop (h : Fin g c ((x, k) :: ts) C o C' o') (hk : k = (adj g x).length) : ∃ c2, c2 < c ∧ Fin g c2 ts C (o ++ [x]) C' o' := by
  obtain ⟨c1, c2, C1, o1, rfl, _, h2, h3⟩ := h
  rw [hk, List.drop_length] at h2
  cases h2
  exact ⟨c2, by omega, h3⟩
theorem Fin.next (h : Fin g c ((x, k) :: ts) C o C' o') (hk : k < (adj g x).length) : (((adj g x)[k] ∈ C ∧ ∃ c2, c2 < c ∧ Fin g c2 ((x, k + 1) :: ts) C o C' o') ∨ ((adj g x)[k] ∉ C ∧ ∃ c2, c2 < c ∧ Fin g c2 (((adj g x)[k], 0) :: (x, k + 1) :: ts) (C ++ [(adj g x)[k]]) o C' o')) := by
  obtain ⟨c1, c2, C1, o1, rfl, h1, h2, h3⟩ := h
  rw [List.drop_eq_getElem_cons hk] at h2
  generalize (adj g x)[k] = y at *
  cases h2 with
  | skip hy h4 => exact .inl ⟨hy, _, (by omega), _, _, _, _, rfl, hk, h4, h3⟩
  | go hy h4 h5 => exact .inr ⟨hy, _, (by omega), _, _, _, _, rfl, Nat.zero_le _, h4, _, _, _, _, rfl, hk, h5, h3⟩
theorem Fin.le (h : Fin g c ((x, k) :: ts) C o C' o') : k ≤ (adj g x).length := by
  obtain ⟨_, _, _, _, _, h1, _⟩ := h
  exact h1
theorem Fin.first {c : Nat} (h : DC g c C [] [x] C' o') (hx : x ∉ C) : ∃ c, Fin g c [(x, 0)] (C ++ [x]) [] C' o' := by
  cases h with
  | skip hy => exact absurd hy hx
  | go hy h4 h5 => cases h5; exact ⟨_, _, _, _, _, rfl, Nat.zero_le _, h4, rfl, rfl, rfl⟩
end

/-! Rows. -/
abbrev Rr := Option Addr × Nat × List Int
abbrev Rr.v (x : Rr) : Value := .slice x.1 x.2.2.length x.2.1
/-- Rows of numbers of the call's own, no two of which share a block. -/
structure Rw (w : World) (B : Nat) (L : List Rr) : Prop where
  own : ∀ x ∈ L, w.ownsRow B 3 1 (.slice x.1 x.2.2.length x.2.1) x.2.2.length (ints x.2.2)
  sep : L.Pairwise fun x y => ∀ k, row x.1 = some k → row y.1 ≠ some k
section
variable {w w' w4 : World} {B c : Nat} {L l1 l2 : List Rr} {A : Option Addr} {xs : List Int}
theorem Rw.at_ (h : Rw w B (l1 ++ (A, c, xs) :: l2)) : w.ownsRow B 3 1 (.slice A xs.length c) xs.length (ints xs) := h.own (A, c, xs) (by simp)
theorem Rw.below (h : Rw w B L) (hb : Below w.heap.size w w') : Rw w' B L := ⟨fun x hx => own_kept (h.own x hx) fun k hk => hb.block k ((h.own x hx).lt k hk).2, h.sep⟩
/-- One row is another one now. -/
theorem Rw.turn {A' : Option Addr} {c' : Nat} {xs' : List Int} (h : Rw w B (l1 ++ (A, c, xs) :: l2)) (hk : ∀ k, B ≤ k → k < w.heap.size → row A ≠ some k → w4.heap[k]? = w.heap[k]?) (hown : w4.ownsRow B 3 1 (.slice A' xs'.length c') xs'.length (ints xs')) (hat : ∀ k, row A' = some k → row A = some k ∨ w.heap.size ≤ k) :
    Rw w4 B (l1 ++ (A', c', xs') :: l2) := by
  have hs := h.sep
  rw [List.pairwise_append, List.pairwise_cons] at hs
  obtain ⟨s1, ⟨s2, s3⟩, s4⟩ := hs
  have hl : ∀ y ∈ l1 ++ (A, c, xs) :: l2, ∀ k, row y.1 = some k → B ≤ k ∧ k < w.heap.size := fun y hy k hk => (h.own y hy).lt k (by rw [row_own]; exact hk)
  have n1 : ∀ y ∈ l1, ∀ k, row y.1 = some k → row A ≠ some k := fun y hy k hk => s4 y hy (A, c, xs) (by simp) k hk
  have n2 : ∀ y ∈ l2, ∀ k, row y.1 = some k → row A ≠ some k := fun y hy k hk e => s2 y hy k e hk
  have hold : ∀ y ∈ l1 ++ (A, c, xs) :: l2, (∀ k, row y.1 = some k → row A ≠ some k) → w4.ownsRow B 3 1 (.slice y.1 y.2.2.length y.2.1) y.2.2.length (ints y.2.2) := fun y hy hn => own_kept (h.own y hy) fun k hkk => by
    rw [row_own] at hkk
    obtain ⟨a, b⟩ := hl y hy k hkk
    exact hk k a b (hn k hkk)
  refine ⟨fun y hy => ?_, ?_⟩
  · rcases List.mem_append.1 hy with h1 | h1
    · exact hold y (List.mem_append_left _ h1) (n1 y h1)
    · rcases List.mem_cons.1 h1 with rfl | h1
      · exact hown
      · exact hold y (List.mem_append_right _ (List.mem_cons_of_mem _ h1)) (n2 y h1)
  · rw [List.pairwise_append, List.pairwise_cons]
    refine ⟨s1, ⟨fun y hy k hk e => ?_, s3⟩, fun y hy z hz k hk => ?_⟩
    · rcases hat k hk with h1 | h1
      · exact s2 y hy k h1 e
      · have := (hl y (by simp [hy]) k e).2; omega
    · rcases List.mem_cons.1 hz with rfl | hz
      · intro e
        rcases hat k e with h1 | h1
        · exact n1 y hy k hk h1
        · have := (hl y (by simp [hy]) k hk).2; omega
      · exact s4 y hy z (List.mem_cons_of_mem _ hz) k hk
theorem Rw.push {obj : Obj} {A' : Option Addr} {c' : Nat} {m : Int} (h : Rw w B (l1 ++ (A, c, xs) :: l2)) (hB : B ≤ w.heap.size) (hg4 : (w.alloc obj).grownBy w4 (row A))
    (hown : w4.ownsRow B 3 1 (.slice A' (xs.length + 1) c') (xs.length + 1) (ints xs ++ [.int .i64 m])) (hat : row A' = row A ∨ row A' = some (w.alloc obj).heap.size) : Rw w4 B (l1 ++ (A', c', xs ++ [m]) :: l2) ∧ Below B w w4 := by
  have hs : (w.alloc obj).heap.size = w.heap.size + 1 := alloc_size w obj
  have hk4 : ∀ k, k < w.heap.size → row A ≠ some k → w4.heap[k]? = w.heap[k]? := fun k h1 h2 => (hg4.block k (by omega) (Ne.symm h2)).trans (Below.heap_alloc w obj k h1)
  have hsz := hg4.size
  refine ⟨h.turn (fun k _ h1 h2 => hk4 k h1 h2) (by simpa using hown) fun k hk => ?_, ⟨hg4.os, hg4.tape, hg4.output, by omega, fun k hk => hk4 k (by omega) fun e => ?_⟩⟩
  · rcases hat with e | e
    · exact .inl (e ▸ hk)
    · rw [hk] at e; injection e with e; exact .inr (by omega)
  · have := (h.at_.lt k (by rw [row_own]; exact e)).1
    omega
theorem Rw.store {r j : Nat} {v : Int} (h : Rw w B (l1 ++ (some ⟨r, 0, none⟩, c, xs) :: l2)) (hj : j < xs.length) : Rw (w.setCell ⟨r, j, none⟩ (.int .i64 v)) B (l1 ++ (some ⟨r, 0, none⟩, c, xs.set j v) :: l2) ∧ Below B w (w.setCell ⟨r, j, none⟩ (.int .i64 v)) := by
  have hr := h.at_.lt r rfl
  refine ⟨h.turn (fun k _ _ h2 => heap_setCell_other w ⟨r, j, none⟩ k _ fun e => h2 (by rw [e]; rfl)) ?_ fun k hk => .inl hk, ⟨rfl, rfl, rfl, by simp [World.setCell], fun k hk => heap_setCell_other w ⟨r, j, none⟩ k _ (by simp only; omega)⟩⟩
  have := own_put h.at_ j (by omega) (.int .i64 v)
  rw [List.length_set, show ints (xs.set j v) = (ints xs).set j (.int .i64 v) from List.map_set]
  exact this
theorem own_take {e : TypeId} {n : Nat} {vs : List Value} (h : w.ownsRow B e 1 (.slice A n c) n vs) (k : Nat) (hk : k ≤ n) : w.ownsRow B e 1 (.slice A k c) k (vs.take k) := by
  have h0 : vs.length = n * 1 := h.1
  refine ⟨by rw [List.length_take]; omega, ?_⟩
  rcases h.2 with ⟨hv, h1⟩ | ⟨g2, cap, cur, hv, hb, hh, h4, h5, h6, hx⟩
  · injection hv with a b d
    subst a d
    obtain rfl : k = 0 := by omega
    exact .inl ⟨rfl, rfl⟩
  · injection hv with a b d
    subst a d
    refine .inr ⟨g2, c, cur, rfl, hb, hh, by omega, h5, h6, ?_⟩
    rw [← hx, List.take_take]
    congr 1
    omega
theorem Rw.take (h : Rw w B (l1 ++ (A, c, xs) :: l2)) (k : Nat) (hk : k ≤ xs.length) : Rw w B (l1 ++ (A, c, xs.take k) :: l2) := by
  refine h.turn (fun _ _ _ _ => rfl) ?_ fun k hk => .inl hk
  have hl : (xs.take k).length = k := by rw [List.length_take]; omega
  rw [hl, show ints (xs.take k) = (ints xs).take k from List.map_take]
  exact own_take h.at_ k hk
end
theorem own_one {w : World} {B g : Nat} {e : TypeId} {v : Value} (h : Bx w g #[v] e) (hB : B ≤ g) : w.ownsRow B e 1 (.slice (some ⟨g, 0, none⟩) 1 1) 1 [v] :=
  ⟨by simp, .inr ⟨g, 1, #[v], rfl, hB, h, Nat.le_refl _, by decide, by simp, rfl⟩⟩
end Go.Proofs.Ytkaejcpnlphdpaa
