/-
  fill.
-/
import Derived.Test.YtpcgedngikpnoaaTC
namespace Go.Proofs.Ytpcgedngikpnoaa
set_option maxRecDepth 100000
set_option linter.unusedSimpArgs false
set_option linter.unusedVariables false
open Go.RowKit

/-- As append_one, and where the new row lies. -/
theorem append_one2 {w : World} {ops : Array Oper} {rest : List Oper} {o : Oper} {a : Act} {Q : Exit → Act → World → Prop} (hgd : o.guard = none) (s x : Operand) (t e : TypeId) (z : Value) (bytes : Nat)
    (ho : o.op = .call { callee := .builtin .append, args := #[s, x], argTypes := #[t, t] }) (ht : Try.prog.underlying t = some (.slice e)) (hinfo : (Try.prog.info? e).map (fun i => (i.zero, i.size, i.bytes)) = some (some z, 1, bytes)) (hzs : z.cells.size = 1)
    (base : Nat) (A : Option Addr) (n c : Nat) (xs : List Value) (hs : a.eval s = .slice A n c) (hown : w.ownsRow base e 1 (.slice A n c) n xs) (g : Nat) (u : Value)
    (hx : a.eval x = .slice (some ⟨g, 0, none⟩) 1 1) (hc : w.cell? ⟨g, 0, none⟩ = some u) (hu : u.oneCell' = true) (h63 : n + 1 ≤ maxLen) (hb : (n + 1) * bytes ≤ 140737488355328) (hbase : base ≤ w.heap.size)
    (h : ∀ A' c' w', w'.ownsRow base e 1 (.slice A' (n + 1) c') (n + 1) (xs ++ [u]) → w.grownBy w' (Value.slice A n c).ownBlock → ((Value.slice A' (n + 1) c').ownBlock = (Value.slice A n c).ownBlock ∨ (Value.slice A' (n + 1) c').ownBlock = some w.heap.size) → wpList Try.prog ops Q rest (a.put o.dst (.slice A' (n + 1) c')) w') : wpList Try.prog ops Q (o :: rest) a w := by
  obtain ⟨i, hi⟩ : ∃ i, Try.prog.info? e = some i := by
    cases hq : Try.prog.info? e with
    | none => rw [hq] at hinfo; cases hinfo
    | some i => exact ⟨i, rfl⟩
  rw [hi] at hinfo
  simp only [Option.map_some, Option.some.injEq, Prod.mk.injEq] at hinfo
  obtain ⟨h1, h2, h3⟩ := hinfo
  refine wpList_append_src hgd s x t ho base e i z bytes ht hi h1 h2 h3 hzs (.slice A n c) n xs hs hown (fun _ => True) _ 1 1 [u] hx ⟨rfl, (by intro h; cases h), Nat.le_refl _, (by intro _ _ _; trivial), ?_⟩ (by intro v hv; simp at hv; subst hv; exact hu) h63 hb hbase ?_
  · intro ad h j v hv
    cases h
    obtain rfl : j = 0 := by have := (List.getElem?_eq_some_iff.1 hv).1; simp at this; omega
    rw [plainAdd]
    simp at hv
    subst hv
    exact hc
  · intro v' w' hown' hg hw
    obtain ⟨A', c', rfl⟩ := own_slice hown'
    exact h A' c' w' hown' hg hw
theorem Bks.outer {w w2 : World} {B g n : Nat} {f : Nat → List Int} {s : Nat → Option Addr × Nat} (h : Bks w B g n f s) {i : Nat} (hi : i < n) (hg : w.grownBy w2 (sl (s i) (f i)).ownBlock) : w2.cell? ⟨g, i, none⟩ = some (sl (s i) (f i)) ∧ w2.frozen? ⟨g, i, none⟩ = false := by
  have ho2 := h.out.kept hg (.inr fun e => own_ne h.out (h.own i hi) (by decide) g rfl e.symm)
  exact ⟨by rw [ho2.cellAt i (by omega), slvs_get hi], ho2.frozenAt i⟩
theorem made_nils (n : Nat) : (madeCells (Value.slice none 0 0).cells (n * 1)).toList = slvs n (fun _ => []) (fun _ => (none, 0)) := by
  apply List.ext_getElem
  · simp [madeCells, slvs]
  · intro i h1 h2
    simp [madeCells, slvs, Value.cells, Nat.mod_one, sl]
theorem Bks.new {w w1 : World} {B n : Nat} (h : w1.ownsRow B 30 1 (.slice (some ⟨w.heap.size, 0, none⟩) n n) n (madeCells (Value.slice none 0 0).cells (n * 1)).toList) : Bks w1 B w.heap.size n (fun _ => []) (fun _ => (none, 0)) := by
  rw [made_nils] at h
  exact ⟨h, fun k _ => World.ownsRow_nil _ _ _ _, fun i j _ _ _ q hq => by cases hq⟩
end Go.Proofs.Ytpcgedngikpnoaa
