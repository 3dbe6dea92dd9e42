/-
  The hashes of names that are seen.
-/
import Derived.Test.YtpcgedngikpnoaaTA
namespace Go.Proofs.Ytpcgedngikpnoaa
set_option maxRecDepth 100000
set_option linter.unusedSimpArgs false
set_option linter.unusedVariables false
open Go.RowKit

theorem Try.info_u32 : (Try.prog.info? 71).map (fun i => (i.zero, i.size, i.bytes)) = some (some (.int .u32 0), 1, 4) := by kernel_rfl
theorem Try.info_int : (Try.prog.info? 3).map (fun i => (i.zero, i.size, i.bytes)) = some (some (.int .i64 0), 1, 8) := by kernel_rfl
theorem Try.info_ints : (Try.prog.info? 30).map (fun i => (i.zero, i.size, i.bytes)) = some (some (.slice none 0 0), 1, 24) := by kernel_rfl
/-- One value is appended to a row of the call's own. -/
theorem append_one {w : World} {ops : Array Oper} {rest : List Oper} {o : Oper} {a : Act} {Q : Exit → Act → World → Prop} (hgd : o.guard = none) (s x : Operand) (t e : TypeId) (z : Value) (bytes : Nat)
    (ho : o.op = .call { callee := .builtin .append, args := #[s, x], argTypes := #[t, t] }) (ht : Try.prog.underlying t = some (.slice e)) (hinfo : (Try.prog.info? e).map (fun i => (i.zero, i.size, i.bytes)) = some (some z, 1, bytes)) (hzs : z.cells.size = 1)
    (base : Nat) (A : Option Addr) (n c : Nat) (xs : List Value) (hs : a.eval s = .slice A n c) (hown : w.ownsRow base e 1 (.slice A n c) n xs) (g : Nat) (u : Value)
    (hx : a.eval x = .slice (some ⟨g, 0, none⟩) 1 1) (hc : w.cell? ⟨g, 0, none⟩ = some u) (hu : u.oneCell' = true) (h63 : n + 1 ≤ maxLen) (hb : (n + 1) * bytes ≤ 140737488355328) (hbase : base ≤ w.heap.size)
    (h : ∀ A' c' w', w'.ownsRow base e 1 (.slice A' (n + 1) c') (n + 1) (xs ++ [u]) → w.grownBy w' (Value.slice A n c).ownBlock → wpList Try.prog ops Q rest (a.put o.dst (.slice A' (n + 1) c')) w') : wpList Try.prog ops Q (o :: rest) a w := by
  obtain ⟨i, hi⟩ : ∃ i, Try.prog.info? e = some i := by
    cases hq : Try.prog.info? e with
    | none => rw [hq] at hinfo; cases hinfo
    | some i => exact ⟨i, rfl⟩
  rw [hi] at hinfo
  simp only [Option.map_some, Option.some.injEq, Prod.mk.injEq] at hinfo
  obtain ⟨h1, h2, h3⟩ := hinfo
  refine wpList_append_src hgd s x t ho base e i z bytes ht hi h1 h2 h3 hzs (.slice A n c) n xs hs hown (fun _ => True) _ 1 1 [u] hx ⟨rfl, (by intro h; cases h), Nat.le_refl _, (by intro _ _ _; trivial), ?_⟩ (by intro v hv; simp at hv; subst hv; exact hu) h63 hb hbase ?_
  · intro ad h j v hv
    cases h
    obtain rfl : j = 0 := by have := (List.getElem?_eq_some_iff.1 hv).1; simp at this; omega
    rw [plainAdd]
    simp at hv
    subst hv
    exact hc
  · intro v' w' hown' hg _
    obtain ⟨A', c', rfl⟩ := own_slice hown'
    exact h A' c' w' hown' hg
def hashesS (ss : List Sym) : List UInt32 := (ss.filter seenB).map fun s => hashS s.name
theorem hashes_take {ss : List Sym} {k : Nat} (hk : k < ss.length) : hashesS (ss.take (k + 1)) = hashesS (ss.take k) ++ (if seenB ss[k] then [hashS ss[k].name] else []) := by
  unfold hashesS
  rw [List.take_succ_eq_append_getElem hk, List.filter_append, List.map_append]
  congr 1
  by_cases h : seenB ss[k] = true
  · simp [h]
  · simp [h]
theorem hashes_len (ss : List Sym) (k : Nat) : (hashesS (ss.take k)).length ≤ k := by
  unfold hashesS
  rw [List.length_map]
  have h1 := List.length_filter_le seenB (ss.take k)
  have h2 := List.length_take_le k ss
  omega
/-- Names that fit. -/
def Named (ss : List Sym) : Prop := ∀ s ∈ ss, s.name.length ≤ 140737488351232
theorem hsh_app (a : List UInt32) (x : UInt32) : Siv.hsh (a ++ [x]) = Siv.hsh a ++ [hv x] := by simp [Siv.hsh]
theorem own_alloc {w : World} {B : Nat} {e : TypeId} {v : Value} {n : Nat} {xs : List Value} (h : w.ownsRow B e 1 v n xs) (o : Obj) : (w.alloc o).ownsRow B e 1 v n xs := Siv.own_below h ((Below.refl _ _).alloc (Nat.le_refl _) o)
theorem below_grown {w a b : World} {r : Option Nat} (h : Below w.heap.size w a) (hg : a.grownBy b r) (hr : ∀ k, r = some k → w.heap.size ≤ k) : Below w.heap.size w b :=
  h.grown hg h.size hr
/-- A symbol of a list is laid into a new box. -/
theorem sym_box {w : World} (s : Sym) : Sx (w.alloc (.cells (symA s) 25)) w.heap.size s ∧ Below w.heap.size w (w.alloc (.cells (symA s) 25)) := ⟨Sx.new w s, box_below w s⟩
end Go.Proofs.Ytpcgedngikpnoaa
