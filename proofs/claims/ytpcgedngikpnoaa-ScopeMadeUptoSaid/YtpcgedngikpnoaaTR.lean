/-
  A table copied.
-/
import Derived.Test.YtpcgedngikpnoaaTMLoad
import Derived.Test.YtpcgedngikpnoaaFF
namespace Go.Proofs.Ytpcgedngikpnoaa
set_option maxRecDepth 100000
set_option linter.unusedSimpArgs false
set_option linter.unusedVariables false
open Go.RowKit

/-- A copy that is made row by row: in the box g3, behind the world w3. -/
structure Cp (w w3 : World) (g3 : Nat) (f : Nat → List Int) (Af : Option Addr) (wl cf : Nat) (sh : Int) (wr : World) (k : Nat) (A' : Option Addr) (c' : Nat) (s : Nat → Option Addr × Nat) : Prop where
  bel : Below w.heap.size w wr
  kp : ∀ q, q < w3.heap.size → q ≠ g3 → wr.heap[q]? = w3.heap[q]?
  sz : w3.heap.size ≤ wr.heap.size
  box : Tx wr g3 (tabA A' k c' Af wl cf sh)
  out : wr.ownsRow w3.heap.size 30 1 (.slice A' k c') k (slvs k f s)
  own : ∀ i, i < k → wr.ownsRow w3.heap.size 3 1 (sl (s i) (f i)) (f i).length (il (f i))
section
variable {w w3 wr w' w6 : World} {g3 wl cf k c' : Nat} {f : Nat → List Int} {Af A' : Option Addr} {sh : Int} {s : Nat → Option Addr × Nat}
theorem Cp.grow (h : Cp w w3 g3 f Af wl cf sh wr k A' c' s) (hg3 : g3 < w3.heap.size) (hg : wr.grownBy w' none) : Cp w w3 g3 f Af wl cf sh w' k A' c' s :=
  ⟨h.bel.grown hg h.bel.size (fun q hq => by cases hq), fun q hq hn => (hg.block q (Nat.lt_of_lt_of_le hq h.sz) (by intro e; cases e)).trans (h.kp q hq hn), Nat.le_trans h.sz hg.size,
    (hg.block g3 (Nat.lt_of_lt_of_le hg3 h.sz) (by intro e; cases e)).trans h.box,
    h.out.kept hg (by cases hq : (Value.slice A' k c').ownBlock with
      | none => exact .inl rfl
      | some q => exact .inr fun e => by cases e),
    fun i hi => (h.own i hi).kept hg (by cases hq : (sl (s i) (f i)).ownBlock with
      | none => exact .inl rfl
      | some q => exact .inr fun e => by cases e)⟩
theorem Cp.push (h : Cp w w3 g3 f Af wl cf sh wr k A' c' s) (hg3 : g3 < w3.heap.size) (hw : w.heap.size ≤ g3) {A2 A3 : Option Addr} {c2 c3 : Nat} (hr : wr.ownsRow w3.heap.size 3 1 (.slice A2 (f k).length c2) (f k).length (il (f k)))
    (ho : w6.ownsRow w3.heap.size 30 1 (.slice A3 (k + 1) c3) (k + 1) (slvs k f s ++ [.slice A2 (f k).length c2])) (hg : wr.grownBy w6 (Value.slice A' k c').ownBlock) :
    Cp w w3 g3 f Af wl cf sh (w6.setCell ⟨g3, 0, none⟩ (.slice A3 (k + 1) c3)) (k + 1) A3 c3 (fun i => if i = k then (A2, c2) else s i) := by
  have hne : ∀ q, q < w3.heap.size → some q ≠ (Value.slice A' k c').ownBlock := fun q hq e => by
    have := (h.out.lt q e.symm).1
    omega
  have hsz : w3.heap.size ≤ w6.heap.size := Nat.le_trans h.sz hg.size
  have hbox : Tx w6 g3 (tabA A' k c' Af wl cf sh) := (hg.block g3 (Nat.lt_of_lt_of_le hg3 h.sz) (hne g3 hg3)).trans h.box
  have hel : slvs k f s ++ [.slice A2 (f k).length c2] = slvs (k + 1) f (fun i => if i = k then (A2, c2) else s i) := by
    unfold slvs
    rw [List.range_succ, List.map_append]
    congr 1
    · apply List.map_congr_left
      intro i hi
      have : i ≠ k := by have := List.mem_range.1 hi; omega
      show sl (s i) (f i) = sl (if i = k then (A2, c2) else s i) (f i)
      rw [if_neg this]
    · simp
  rw [hel] at ho
  refine ⟨?_, ?_, ?_, ?_, ?_, ?_⟩
  · exact (h.bel.grown hg h.bel.size (fun q hq => by have := (h.out.lt q hq).1; omega)).setCell (p := ⟨g3, 0, none⟩) hw _
  · intro q hq hn
    rw [Below.heap_setCell w6 ⟨g3, 0, none⟩ _ q hn, hg.block q (Nat.lt_of_lt_of_le hq h.sz) (hne q hq)]
    exact h.kp q hq hn
  · simp [World.setCell]
    exact hsz
  · exact heap_setCell_same w6 g3 0 _ _ _ hbox
  · exact own_cell ho hg3 0 _
  · intro i hi
    refine own_cell ?_ hg3 0 _
    by_cases hik : i = k
    · subst hik
      simp only [if_true]
      refine hr.kept hg ?_
      cases hq : (Value.slice A2 (f i).length c2).ownBlock with
      | none => exact .inl rfl
      | some q => exact .inr fun e => own_ne hr h.out (by decide) q hq e.symm
    · simp only [if_neg hik]
      have hki := h.own i (by omega)
      refine hki.kept hg ?_
      cases hq : (sl (s i) (f i)).ownBlock with
      | none => exact .inl rfl
      | some q => exact .inr fun e => own_ne hki h.out (by decide) q hq e.symm
end
theorem rws_of_own {w : World} {B n c : Nat} {A : Option Addr} {f : Nat → List Int} {s : Nat → Option Addr × Nat} (ho : w.ownsRow B 30 1 (.slice A n c) n (slvs n f s)) (hr : ∀ i, i < n → w.ownsRow B 3 1 (sl (s i) (f i)) (f i).length (il (f i))) : Rws w (fun k => k < w.heap.size) A n c f := by
  have h := Src.of_own ho
  exact ⟨h.nil, h.cap, fun ad hA hn => (h.blk ad hA hn).2.2, fun ad hA k hk => ⟨(s k).1, (s k).2, h.at_ ad hA k _ (slvs_get hk), (Src.of_own (hr k hk)).weak fun q hq => hq.2.2⟩⟩
theorem results_cell_one {fn : Func} {p : Tmp} {ty : TypeId} (h : fn.results = #[.cell p ty]) (tmps : Array Value) (P : Program) (w : World) :
    (results fn tmps).run P w = ((asAddr (tmps.getD p undef)).run P w).andThen fun a w₁ => (loadVar ty a).run P w₁ := by
  simp only [results, h]
  simp [Sem.run_bind, Result.andThen]
end Go.Proofs.Ytpcgedngikpnoaa
