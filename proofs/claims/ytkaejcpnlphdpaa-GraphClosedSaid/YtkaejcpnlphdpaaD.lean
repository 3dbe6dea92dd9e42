/-
  A walk in memory: its box, the nodes that are closed, the order; close.
-/
import Derived.Test.YtkaejcpnlphdpaaC
namespace Go.Proofs.Ytkaejcpnlphdpaa
open Go.RowKit

theorem info3 {P : Program} {t : TypeId} {z : Value} {a b : Nat} (h : (P.info? t).map (fun i => (i.zero, i.size, i.bytes)) = some (some z, a, b)) : ∃ i, P.info? t = some i ∧ i.zero = some z ∧ i.size = a ∧ i.bytes = b := by
  obtain ⟨i, hi, hz⟩ := Option.map_eq_some_iff.1 h
  simp only [Prod.mk.injEq] at hz
  exact ⟨i, hi, hz.1, hz.2.1, hz.2.2⟩
/-- A block that holds just these cells. -/
def Bx (w : World) (g : Nat) (cs : Array Value) (t : TypeId) : Prop := w.heap[g]? = some (.cells cs t (0, 0))
section
variable {w w' : World} {g : Nat} {cs : Array Value} {t : TypeId}
theorem Bx.new (w : World) (cs : Array Value) (t : TypeId) : Bx (w.alloc (.cells cs t)) w.heap.size cs t := heap_alloc_new _ _
theorem Bx.c (h : Bx w g cs t) (j : Nat) : w.cell? ⟨g, j, none⟩ = cs[j]? := cell_of_row w g j _ _ _ h
theorem Bx.f (h : Bx w g cs t) (j : Nat) : w.frozen? ⟨g, j, none⟩ = false := frozen_of_row w g j _ _ h
theorem Bx.lt (h : Bx w g cs t) : g < w.heap.size := by
  rcases Nat.lt_or_ge g w.heap.size with h1 | h1
  · exact h1
  · have := h; unfold Bx at this; rw [Array.getElem?_eq_none h1] at this; cases this
theorem Bx.keep (h : Bx w g cs t) (hk : w'.heap[g]? = w.heap[g]?) : Bx w' g cs t := hk.trans h
theorem Bx.below (h : Bx w g cs t) (hb : Below w.heap.size w w') : Bx w' g cs t := (hb.block g h.lt).trans h
theorem Bx.set (h : Bx w g cs t) (o : Nat) (v : Value) : Bx (w.setCell ⟨g, o, none⟩ v) g (cs.setIfInBounds o v) t := heap_setCell_same w g o cs t v h
end
theorem own_put {w : World} {B n c r sz : Nat} {e : TypeId} {xs : List Value} (h : w.ownsRow B e sz (.slice (some ⟨r, 0, none⟩) n c) n xs) (j : Nat) (_hj : j < n * sz) (v : Value) : (w.setCell ⟨r, j, none⟩ v).ownsRow B e sz (.slice (some ⟨r, 0, none⟩) n c) n (xs.set j v) := by
  refine ⟨by rw [List.length_set]; exact h.1, ?_⟩
  rcases h.2 with h1 | ⟨g2, cap, cur, hv, hb, hh, h4, h5, h6, hx⟩
  · cases h1.1
  · injection hv with h1 _ h3
    injection h1 with h1
    injection h1 with h1
    subst h1 h3
    refine .inr ⟨r, c, cur.setIfInBounds j v, rfl, hb, heap_setCell_same w r j cur e v hh, h4, h5, by simpa using h6, ?_⟩
    rw [← hx, Array.toList_setIfInBounds, List.take_set]
theorem own_bx {w : World} {B n c r sz : Nat} {e : TypeId} {xs : List Value} (h : w.ownsRow B e sz (.slice (some ⟨r, 0, none⟩) n c) n xs) : ∃ cur, Bx w r cur e ∧ n * sz ≤ cur.size ∧ cur.toList.take (n * sz) = xs := by
  rcases h.2 with h1 | ⟨g2, cap, cur, hv, hb, hh, h4, h5, h6, hx⟩
  · cases h1.1
  · injection hv with h1 _ h3
    injection h1 with h1
    injection h1 with h1
    subst h1 h3
    exact ⟨cur, hh, by rw [h6]; exact Nat.mul_le_mul_right _ h4, hx⟩
/-- An owned row stays where its block does. -/
theorem own_kept {w w' : World} {B n sz : Nat} {e : TypeId} {v : Value} {xs : List Value} (h : w.ownsRow B e sz v n xs) (hk : ∀ k, v.ownBlock = some k → w'.heap[k]? = w.heap[k]?) : w'.ownsRow B e sz v n xs := by
  refine ⟨h.1, ?_⟩
  rcases h.2 with h1 | ⟨g', cap, cur, hv, hb, hh, hx⟩
  · exact .inl h1
  · exact .inr ⟨g', cap, cur, hv, hb, (hk g' (by rw [hv]; rfl)).trans hh, hx⟩
/-- Which nodes are closed. -/
abbrev bools (n : Nat) (C : List Int) : List Value := (List.range n).map fun (k : Nat) => .bool (decide ((k : Int) ∈ C))
theorem bools_get (n : Nat) (C : List Int) (k : Nat) (h : k < n) : (bools n C)[k]? = some (.bool (decide ((k : Int) ∈ C))) := by simp [h]
theorem bools_set (n : Nat) (C : List Int) (k : Nat) : (bools n C).set k (.bool true) = bools n (C ++ [(k : Int)]) := by
  apply List.ext_getElem?
  intro j
  rw [List.getElem?_set]
  by_cases hj : j < n
  · by_cases hk : k = j
    · subst hk
      rw [bools_get n _ k hj]
      simp [hj]
    · rw [if_neg hk, bools_get n _ j hj, bools_get n _ j hj]
      have : ((j : Int) ∈ C ++ [(k : Int)]) ↔ (j : Int) ∈ C := by
        simp only [List.mem_append, List.mem_singleton]
        constructor
        · rintro (h | h)
          · exact h
          · omega
        · exact .inl
      simp only [this]
  · simp [hj]
    omega
theorem bools_congr (n : Nat) {C D : List Int} (h : ∀ x, x ∈ C ↔ x ∈ D) : bools n C = bools n D := by unfold bools; simp only [h]
theorem bools_nil (n : Nat) : (madeCells (Value.bool false).cells (n * 1)).toList = bools n [] := by
  apply List.ext_getElem
  · simp [madeCells, bools]
  · intro i h1 h2
    simp [madeCells, bools, Value.cells, Nat.mod_one]
/-- Only the block r has other cells. -/
structure Only (r : Nat) (w w' : World) : Prop where
  os : w'.os = w.os
  tape : w'.tape = w.tape
  output : w'.output = w.output
  size : w'.heap.size = w.heap.size
  block : ∀ k, k ≠ r → w'.heap[k]? = w.heap[k]?
theorem Only.refl (r : Nat) (w : World) : Only r w w := ⟨rfl, rfl, rfl, rfl, fun _ _ => rfl⟩
theorem Only.set {r : Nat} {w w' : World} (h : Only r w w') (j : Nat) (v : Value) : Only r w (w'.setCell ⟨r, j, none⟩ v) :=
  ⟨h.os, h.tape, h.output, (by simp [World.setCell]; exact h.size), fun k hk => (heap_setCell_other w' ⟨r, j, none⟩ k v hk).trans (h.block k hk)⟩
theorem Only.below {r B : Nat} {w w' : World} (h : Only r w w') (hB : B ≤ r) : Below B w w' := ⟨h.os, h.tape, h.output, Nat.le_of_eq h.size.symm, fun k hk => h.block k (by omega)⟩
set_option maxRecDepth 100000 in
set_option maxHeartbeats 1000000 in
theorem close_any (B g gc n : Nat) (E O A : Option Addr) (ne ce no co c : Nat) (C l : List Int) (w : World) (hb : Bx w g #[.slice E ne ce, .slice (some ⟨gc, 0, none⟩) n n, .slice O no co] 44) (hgc : g ≠ gc)
    (ho : w.ownsRow B 4 1 (.slice (some ⟨gc, 0, none⟩) n n) n (bools n C)) (h : Src w (fun k => k ≠ gc) A l.length c (ints l)) (hl : nodesB n l = true) (hn : l.length ≤ 4611686018427387904) :
    Calls Try.prog 26 #[.pointer (some ⟨g, 0, none⟩), .slice A l.length c] w fun e w' => e = .returned (.tuple #[]) ∧ w'.ownsRow B 4 1 (.slice (some ⟨gc, 0, none⟩) n n) n (bools n (C ++ l)) ∧ Only gc w w' := by
  have HBX := Lib.hid hb
  have HO := Lib.hid ho
  have HS := Lib.hid h
  have HL := Lib.hid hl
  clear hb ho h hl
  go_enter Try.func26, Try.ntmps26
  go_wp2_with fail
  go_loopw [8] (fun i wr => ∃ k : Nat, k ≤ l.length ∧ i = .int .i64 (k : Int) ∧ wr.ownsRow B 4 1 (.slice (some ⟨gc, 0, none⟩) n n) n (bools n (C ++ l.take k)) ∧ Only gc w wr) (fun i _ => l.length - (intOf i).toNat)
  case atStart => exact ⟨0, Nat.zero_le _, rfl, by simpa using HO.out, Only.refl _ _⟩
  case round =>
    obtain ⟨k, hk, rfl, hy, hB⟩ := hrel
    have HB := Lib.hid hB
    have HY := Lib.hid hy
    clear hB hy
    by_cases hlt : k < l.length
    · cases A with
      | none => have := (HS.out.nil rfl).1; omega
      | some ad =>
        have hc := (HS.out.keep (fun j hj _ => HB.out.block j hj)).at_ ad rfl k _ (ints_get l k hlt)
        obtain ⟨m, hm, hmn⟩ := node_nat (nodes_mem HL.out (List.getElem_mem hlt))
        have HT := Lib.hid (show bools n (C ++ l.take (k + 1)) = (bools n (C ++ l.take k)).set m (.bool true) by rw [bools_set, List.take_succ_eq_append_getElem hlt, ← List.append_assoc, hm])
        rw [hm] at hc
        have k1 : wr.cell? ⟨g, 1, none⟩ = some (.slice (some ⟨gc, 0, none⟩) n n) := (HBX.out.keep (HB.out.block g hgc)).c 1
        obtain ⟨cur, hbc, hsz, -⟩ := own_bx HY.out
        have k2 : wr.cell? ⟨gc, m, none⟩ = some (cur[m]'(by omega)) := (hbc.c m).trans (Array.getElem?_eq_getElem _)
        have k3 : wr.frozen? ⟨gc, m, none⟩ = false := hbc.f m
        generalize cur[m]'(by omega) = u at k2
        have HFIN := Lib.hid (show (wr.setCell ⟨gc, m, none⟩ (.bool true)).ownsRow B 4 1 (.slice (some ⟨gc, 0, none⟩) n n) n (bools n (C ++ l.take (k + 1))) ∧ Only gc w (wr.setCell ⟨gc, m, none⟩ (.bool true)) from ⟨by rw [HT.out]; exact own_put HY.out m (by omega) _, HB.out.set m _⟩)
        clear hm hsz hbc HT
        go_wp2_with fail
        go_roundw
        case rel => exact ⟨k + 1, by omega, by go_num, HFIN.out.1, HFIN.out.2⟩
        case measure => simp [intOf]; omega
    · obtain rfl : k = l.length := by omega
      have hy := HY.out
      rw [List.take_length] at hy
      go_wp2_with fail
      first | go_ret | go_end0
      exact ⟨rfl, hy, HB.out⟩
end Go.Proofs.Ytkaejcpnlphdpaa
