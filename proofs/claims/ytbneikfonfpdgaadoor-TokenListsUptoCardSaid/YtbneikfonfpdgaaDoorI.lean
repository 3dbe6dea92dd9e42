/-
  A text's parts, one behind the other: the library's iterator.
-/
import Derived.Test.YtbneikfonfpdgaaDoorE
import Derived.RangeFuncNested
import Derived.RangeFuncBound
import Derived.RangeFuncCalls
import Derived.RangeFuncLeaves
import Derived.RangeFuncFrom
import Derived.RangeFuncBox
import Derived.Shelf.Abstract
import Derived.Shelf.RegionOpen
import Derived.OwnWalkIn
import Derived.TacticsInMore
import Derived.LoopNIn
import Derived.LoopIn
namespace Go.Proofs.YtbneikfonfpdgaaDoor
open Go.RowKit
attribute [local go_sem] Oper.semAt_some

/-- A block that holds just these cells. -/
def Bx (w : World) (g : Nat) (cs : Array Value) (t : TypeId) : Prop := w.heap[g]? = some (.cells cs t (0, 0))
section
variable {w w' : World} {g : Nat} {cs : Array Value} {t : TypeId}
theorem Bx.new (w : World) (cs : Array Value) (t : TypeId) : Bx (w.alloc (.cells cs t)) w.heap.size cs t := heap_alloc_new _ _
theorem Bx.c (h : Bx w g cs t) (j : Nat) : w.cell? ⟨g, j, none⟩ = cs[j]? := cell_of_row w g j _ _ _ h
theorem Bx.f (h : Bx w g cs t) (j : Nat) : w.frozen? ⟨g, j, none⟩ = false := frozen_of_row w g j _ _ h
theorem Bx.lt (h : Bx w g cs t) : g < w.heap.size := by
  rcases Nat.lt_or_ge g w.heap.size with h' | h'
  · exact h'
  · have h2 : w.heap[g]? = _ := h
    rw [Array.getElem?_eq_none h'] at h2; cases h2
theorem Bx.alloc (h : Bx w g cs t) (o : Obj) : Bx (w.alloc o) g cs t := (Below.heap_alloc w o g h.lt).trans h
theorem Bx.other (h : Bx w g cs t) {a : Addr} (ha : g ≠ a.block) (u : Value) : Bx (w.setCell a u) g cs t := (Below.heap_setCell w a u g ha).trans h
theorem Bx.put (h : Bx w g cs t) (l : Nat) (o : Obj) (hl : g ≠ l) : Bx (w.putObj l o) g cs t := (World.putObj_heap_other hl).trans h
end
/-- A text's first end at a sign, if there is one. -/
theorem first_cut (c : UInt8) (s : Str) : (∃ i : Nat, Lib.indexByte s c = (i : Int) ∧ i < s.length ∧ spl c s = s.take i :: spl c (s.drop (i + 1))) ∨ (Lib.indexByte s c = -1 ∧ spl c s = [s]) := by
  have hge := Lib.indexByte_ge s c
  by_cases hm : Lib.indexByte s c = -1
  · refine .inr ⟨hm, spl_no c s ?_⟩
    have hno := Lib.indexByte_none hm
    intro x hx e
    obtain ⟨k, hk, rfl⟩ := List.getElem_of_mem hx
    exact hno k (by rw [List.getElem?_eq_getElem hk, e])
  · obtain ⟨i, hi⟩ : ∃ i : Nat, Lib.indexByte s c = i := ⟨(Lib.indexByte s c).toNat, by omega⟩
    obtain ⟨h1, h2⟩ := Lib.indexByte_some hi
    have hlt := (List.getElem?_eq_some_iff.1 h1).1
    have hsi : s[i] = c := by
      rw [List.getElem?_eq_getElem hlt] at h1
      exact Option.some.inj h1
    have hsp : s = s.take i ++ c :: s.drop (i + 1) := by
      conv => lhs; rw [← List.take_append_drop i s, List.drop_eq_getElem_cons hlt, hsi]
    have hno : ∀ x ∈ s.take i, x ≠ c := by
      intro x hx e
      obtain ⟨k, hk, rfl⟩ := List.getElem_of_mem hx
      rw [List.length_take] at hk
      rw [List.getElem_take] at e
      exact h2 k (by omega) (by rw [List.getElem?_eq_getElem (by omega), e])
    refine .inl ⟨i, hi, hlt, ?_⟩
    conv => lhs; rw [hsp]
    exact spl_app c _ _ hno
/-- What the iterator's box holds, read off the world. -/
def leftIn (w : World) (g : Nat) : Nat := match w.cell? ⟨g, 0, none⟩ with
  | some (.string b) => b.size
  | _ => 0
/-- The iterator's three boxes: the text that is left, the sign, and how much of it is kept. -/
structure It (w : World) (g : Nat) (s : Str) : Prop where
  b0 : Bx w g #[str s] 9
  b1 : Bx w (g + 1) #[.string ⟨#[58]⟩] 9
  b2 : Bx w (g + 2) #[.int .i64 0] 3
theorem It.keep {w w' : World} {g : Nat} {s : Str} (h : It w g s) (hk : ∀ k, g ≤ k → k < g + 3 → w'.heap[k]? = w.heap[k]?) : It w' g s :=
  ⟨(hk _ (by omega) (by omega)).trans h.b0, (hk _ (by omega) (by omega)).trans h.b1, (hk _ (by omega) (by omega)).trans h.b2⟩
theorem It.set {w : World} {g : Nat} {s : Str} (h : It w g s) (r : Str) : It (w.setCell ⟨g, 0, none⟩ (str r)) g r :=
  ⟨heap_setCell_same w g 0 _ _ (str r) h.b0, h.b1.other (by simp) _, h.b2.other (by simp) _⟩
theorem It.left {w : World} {g : Nat} {s : Str} (h : It w g s) : leftIn w g = s.length := by
  unfold leftIn
  rw [h.b0.c 0]
  simp [ByteArray.size]

set_option maxRecDepth 100000 in
set_option maxHeartbeats 2000000 in
/-- The iterator: for every loop body that leaves its boxes alone. -/
theorem seq1_in (n : Nat) (hn : 1 ≤ n) (l g : Nat) (s : Str) (hs : s.length ≤ 9223372036854775806) (J : List Str → World → Prop)
    (hset : ∀ pre W v, J pre W → J pre (W.setCell ⟨g, 0, none⟩ v))
    (hY : ∀ pre x more W, J pre W → spl 58 s = pre ++ x :: more → x.length ≤ s.length → YieldAt Fence.wide (n - 1) Tryd.prog l #[str x] W fun e W' =>
      e = .returned (.bool true) ∧ J (pre ++ [x]) W' ∧ ∀ k, g ≤ k → k < g + 3 → W'.heap[k]? = W.heap[k]?)
    (W : World) (hb : It W g s) (h0 : J [] W) :
    CallsIn Fence.wide n Tryd.prog 32 #[.func (.yield l) #[] #[], .pointer (some ⟨g + 1, 0, none⟩), .pointer (some ⟨g, 0, none⟩), .pointer (some ⟨g + 2, 0, none⟩)] W fun e W' => (∃ v, e = .returned v) ∧ J (spl 58 s) W' := by
  refine callsIn_of_wp Tryd.func32 rfl trivial ?_ rfl
  simp only [Tryd.ntmps32, List.size_toArray, List.length_cons, List.length_nil, Nat.reduceAdd, Nat.reduceSub, Array.replicate_succ, Array.replicate_zero, List.push_toArray, List.append_toArray, List.nil_append, List.cons_append]
  have k1 := hb.b1.c 0
  gi_wp2_with fail
  gi_loopw [7, 8] (fun _ _ wr => ∃ (pre : List Str) (rest : Str), spl 58 s = pre ++ spl 58 rest ∧ rest.length ≤ s.length ∧ It wr g rest ∧ J pre wr) (fun _ _ wr => leftIn wr g)
  case atStart => exact ⟨[], s, rfl, Nat.le_refl _, hb, h0⟩
  case round =>
    obtain ⟨pre, rest, hl, hrl, hit, hJ⟩ := hrel
    have hc0 : wr.cell? ⟨g, 0, none⟩ = some (str rest) := hit.b0.c 0
    have hf0 := hit.b0.f 0
    have hc1 : wr.cell? ⟨g + 1, 0, none⟩ = some (.string ⟨#[58]⟩) := hit.b1.c 0
    have hc2 : wr.cell? ⟨g + 2, 0, none⟩ = some (.int .i64 0) := hit.b2.c 0
    have hix := Tryd.strings_Index_one ⟨rest.toArray⟩ 58 wr
    have HIX := Lib.hid (show Calls Tryd.prog 34 #[str rest, .string ⟨#[58]⟩] wr fun e w' => e = .returned (.int .i64 (Lib.indexByte rest 58)) ∧ w' = wr from hix)
    clear hix
    rcases first_cut 58 rest with ⟨i, hi, hlt, hln⟩ | ⟨hi, hln⟩
    · rw [hi] at HIX
      have hzz : (ByteArray.mk rest.toArray).size = rest.length := by simp [ByteArray.size]
      have hs1 : ∀ w', (Instr.slice 9 (str rest) none (some (.int .i64 (i : Int))) none).run Tryd.prog w' = .ok (str (rest.take i)) w' := by
        intro w'
        rw [str, run_slice_string_h (w := w') 9 ⟨rest.toArray⟩ (by kernel_rfl) .i64 (i : Int) (by omega) (by rw [hzz]; omega), ByteArray.extract_mk, show ((i : Int)).toNat = i by omega]
        simp
      have hs2 : ∀ w', (Instr.slice 9 (str rest) (some (.int .i64 ((i : Int) + 1))) none none).run Tryd.prog w' = .ok (str (rest.drop (i + 1))) w' := by
        intro w'
        rw [str, run_slice_string_l (w := w') 9 ⟨rest.toArray⟩ (by kernel_rfl) .i64 ((i : Int) + 1) (by omega) (by rw [hzz]; omega), ByteArray.extract_mk, show ((i : Int) + 1).toNat = i + 1 by omega, hzz, List.take_of_length_le (by simp)]
      have hi1 : (0 : Int) ≤ (i : Int) + 1 := by omega
      have hi2 : (i : Int) + 1 ≤ (rest.length : Int) := by omega
      have hi0 : (0 : Int) ≤ (i : Int) := by omega
      obtain ⟨fn, tmps, assign, body, hy, hR⟩ := hY pre (rest.take i) (spl 58 (rest.drop (i + 1))) wr hJ (by rw [hl, hln]) (by rw [List.length_take]; omega)
      have HR := Lib.hid hR
      have HHL := Lib.hid hl
      have HIT := Lib.hid hit
      clear hR hl hit
      generalize hx1 : rest.take i = x1 at *
      generalize hx2 : rest.drop (i + 1) = x2 at *
      have HX2 := Lib.hid hx2
      clear hx1 hx2
      gi_wp2_with fail
      refine ⟨trivial, (callsIn_wide.2 HIX.out).mono ?_⟩
      rintro e w2 ⟨rfl, rfl⟩
      gi_wp2_with fail
      refine HR.out.mono ?_
      rintro e W3 ⟨rfl, hJ3, hk3⟩
      have hit3 := HIT.out.keep hk3
      have H3 := Lib.hid (hit3.set x2)
      have HS3 := Lib.hid (hset (pre ++ [x1]) W3 (str x2) hJ3)
      have hm3 := H3.out.left
      have hm2 := HIT.out.left
      have d0 : W3.cell? ⟨g, 0, none⟩ = some (str rest) := hit3.b0.c 0
      have e0 := hit3.b0.f 0
      have d1 : W3.cell? ⟨g + 1, 0, none⟩ = some (.string ⟨#[58]⟩) := hit3.b1.c 0
      have hx2l : x2.length < rest.length := by
        rw [← HX2.out, List.length_drop]
        omega
      have HM := Lib.hid (And.intro hm3 hm2)
      clear hit3 hk3 hJ3 hm3 hm2 hc0 hf0 hc1 hc2
      gi_wp2
      exact ⟨⟨pre ++ [x1], x2, by rw [HHL.out, hln, List.append_assoc]; rfl, by omega, H3.out, HS3.out⟩, by rw [HM.out.1, HM.out.2]; exact hx2l⟩
    · rw [hi] at HIX
      obtain ⟨fn, tmps, assign, body, hy, hR⟩ := hY pre rest [] wr hJ (by rw [hl, hln]) hrl
      have HR := Lib.hid hR
      have HHL := Lib.hid hl
      clear hR hl
      gi_wp2_with fail
      refine ⟨trivial, (callsIn_wide.2 HIX.out).mono ?_⟩
      rintro e w2 ⟨rfl, rfl⟩
      gi_wp2_with fail
      refine HR.out.mono ?_
      rintro e W3 ⟨rfl, hJ3, hk3⟩
      have HJ3 := Lib.hid hJ3
      clear hJ3 hk3
      gi_wp2
      refine ⟨rfl, _, results_none rfl _ _ _, ⟨_, rfl⟩, ?_⟩
      rw [HHL.out, hln]
      exact HJ3.out
end Go.Proofs.YtbneikfonfpdgaaDoor
