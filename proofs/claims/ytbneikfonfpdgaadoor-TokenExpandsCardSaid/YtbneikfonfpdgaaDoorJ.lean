/-
  A text's parts that are not empty: the program's.
-/
import Derived.Test.YtbneikfonfpdgaaDoorI
import Derived.Test.YtbneikfonfpdgaaDoorG
import Derived.RangeFuncWrites
namespace Go.Proofs.YtbneikfonfpdgaaDoor
open Go.RowKit
attribute [local go_sem] Oper.semAt_some

theorem clone_any (s : Str) (w : World) (h : s.length ≤ 281474976710656) : Calls Tryd.prog 28 #[str s] w fun e w' => e = .returned (str s) ∧ Below w.heap.size w w' :=
  Tryd.stringslite_Clone ⟨s.toArray⟩ w (by rw [str_size]; exact h)
theorem sclone_any (s : Str) (w : World) (h : s.length ≤ 281474976710656) : Calls Tryd.prog 21 #[str s] w fun e w' => e = .returned (str s) ∧ Below w.heap.size w w' := by
  have HC := Lib.hid (clone_any s w h)
  go_enter Tryd.func21, Tryd.ntmps21
  go_wp2_with fail
  refine HC.out.mono ?_
  rintro e w1 ⟨rfl, hb⟩
  go_wp2
  go_ret
  exact ⟨rfl, hb⟩
theorem seq_any (s : Str) (w : World) : Calls Tryd.prog 20 #[str s, .string ⟨#[58]⟩] w fun e w' => e = .returned (.func (.func 32) #[] #[.pointer (some ⟨w.heap.size + 1, 0, none⟩), .pointer (some ⟨w.heap.size, 0, none⟩), .pointer (some ⟨w.heap.size + 2, 0, none⟩)]) ∧
    w' = ((w.alloc (.cells #[str s] 9)).alloc (.cells #[.string ⟨#[58]⟩] 9)).alloc (.cells #[.int .i64 0] 3) := by
  go_enter Tryd.func20, Tryd.ntmps20
  go_wp2
  go_ret
  exact ⟨rfl, rfl⟩

/-- Where Split stands: its box, and the parts that it has. -/
structure PS (w0 : World) (pre : List Str) (W : World) : Prop where
  below : Below w0.heap.size w0 W
  sz : w0.heap.size + 4 ≤ W.heap.size
  have_ : ∃ (A : Option Addr) (c : Nat), Bx W w0.heap.size #[.slice A (pre.filter full).length c] 27 ∧ W.ownsRow (w0.heap.size + 4) 9 1 (.slice A (pre.filter full).length c) (pre.filter full).length (strs (pre.filter full))
theorem PS.grown {w0 : World} {pre : List Str} {W W' : World} (h : PS w0 pre W) (r : Option Nat) (hg : W.grownBy W' r) (hr : ∀ k, r = some k → w0.heap.size < k) (hno : ∀ (k : Nat) A c, r = some k → W.ownsRow (w0.heap.size + 4) 9 1 (.slice A (pre.filter full).length c) (pre.filter full).length (strs (pre.filter full)) → (Value.slice A (pre.filter full).length c).ownBlock ≠ some k) : PS w0 pre W' := by
  obtain ⟨A, c, h2, h3⟩ := h.have_
  refine ⟨h.below.grown hg h.below.size (fun k hk => by have := hr k hk; omega), Nat.le_trans h.sz hg.size, A, c, (hg.block _ h2.lt (by intro e; have := hr _ e.symm; omega)).trans h2, ?_⟩
  refine h3.kept hg ?_
  cases r with
  | none => cases A with
    | none => exact .inl rfl
    | some a => exact .inr (by intro e; cases e)
  | some k => exact .inr (hno k A c rfl h3)
theorem PS.set {w0 : World} {pre : List Str} {W : World} (h : PS w0 pre W) (v : Value) : PS w0 pre (W.setCell ⟨w0.heap.size + 1, 0, none⟩ v) :=
  h.grown (some (w0.heap.size + 1)) (grownBy_setCell' W (w0.heap.size + 1) v) (fun k e => by cases e; omega) (fun k A c e ho e2 => by cases e; have := (ho.lt _ e2).1; omega)
theorem PS.put {w0 : World} {pre : List Str} {W : World} (h : PS w0 pre W) (l : Nat) (o o' : Obj) (hl : w0.heap.size + 4 ≤ l) (ho : W.heap[l]? = some o) (hc : o.isCells = false) : PS w0 pre (W.putObj l o') := by
  obtain ⟨A, c, h2, h3⟩ := h.have_
  exact ⟨h.below.grown (grownBy_putObj' W l o') h.below.size (fun k hk => by cases hk; omega), by simpa using h.sz, A, c, h2.put l o' (by omega), ownsRow_putObj h3 o' ho hc⟩
theorem PS.below' {w0 : World} {pre : List Str} {W W' : World} (h : PS w0 pre W) (hb : Below W.heap.size W W') : PS w0 pre W' :=
  h.grown none ⟨hb.os, hb.tape, hb.output, hb.size, fun k hk _ => hb.block k hk⟩ (fun k e => by cases e) (fun k _ _ e => by cases e)
theorem own_cells {W : World} {base : Nat} {e : TypeId} {sz : Nat} {v : Value} {n : Nat} {xs : List Value} (h : W.ownsRow base e sz v n xs) : ∀ (j : Nat) (o : Obj), v.ownBlock = some j → W.heap[j]? = some o → o.isCells = true := by
  intro j o hj ho
  rcases h.2 with ⟨rfl, _⟩ | ⟨g, cap, cur, rfl, _, hh, _⟩
  · cases hj
  · cases hj
    rw [hh] at ho
    cases ho
    rfl
theorem filter_snoc (pre : List Str) (x : Str) : (pre ++ [x]).filter full = pre.filter full ++ (if x = [] then [] else [x]) := by
  rw [List.filter_append]
  by_cases h : x = [] <;> simp [full, h]
end Go.Proofs.YtbneikfonfpdgaaDoor
