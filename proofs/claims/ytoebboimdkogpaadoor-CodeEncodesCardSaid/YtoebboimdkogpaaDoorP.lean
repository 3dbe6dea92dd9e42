/-
  A text's lines: the library's iterator.
-/
import Derived.Test.YtoebboimdkogpaaDoorL
import Derived.RangeFuncNested
import Derived.RangeFuncBound
import Derived.RangeFuncCalls
import Derived.RangeFuncLeaves
import Derived.Shelf.Abstract
import Derived.Shelf.RegionOpen
import Derived.OwnWalkIn
import Derived.TacticsInMore
import Derived.LoopNIn
import Derived.LoopIn
namespace Go.Proofs.YtoebboimdkogpaaDoor
open Go.RowKit
attribute [local go_sem] Oper.semAt_some

/-- The lines of a text, without their ends. -/
def lns : Str → List Str
  | [] => []
  | c :: l => if c = 10 then [] :: lns l else match lns l with
    | [] => [[c]]
    | p :: ps => (c :: p) :: ps
theorem lns_app : ∀ (a b : Str), (∀ x ∈ a, x ≠ 10) → lns (a ++ 10 :: b) = a :: lns b
  | [], b, _ => by rw [List.nil_append, lns, if_pos rfl]
  | c :: a, b, h => by
    rw [List.cons_append, lns, if_neg (h c (by simp)), lns_app a b (fun x hx => h x (by simp [hx]))]
theorem lns_one : ∀ (a : Str), (∀ x ∈ a, x ≠ 10) → a ≠ [] → lns a = [a]
  | [], _, h => absurd rfl h
  | [c], h, _ => by rw [lns, if_neg (h c (by simp)), lns]
  | c :: d :: a, h, _ => by
    rw [lns, if_neg (h c (by simp)), lns_one (d :: a) (fun x hx => h x (by simp [hx])) (by simp)]
/-- The first line's end, if there is one. -/
theorem first_line (s : Str) : (∃ i : Nat, Lib.indexByte s 10 = (i : Int) ∧ i < s.length ∧ lns s = s.take i :: lns (s.drop (i + 1)) ∧ Lib.trimSuffix (s.take (i + 1)) [10] = s.take i) ∨ (Lib.indexByte s 10 = -1 ∧ (s ≠ [] → lns s = [s]) ∧ Lib.trimSuffix s [10] = s) := by
  have hge := Lib.indexByte_ge s 10
  by_cases hm : Lib.indexByte s 10 = -1
  · have hno := Lib.indexByte_none hm
    have hx : ∀ x ∈ s, x ≠ 10 := by
      intro x hx e
      obtain ⟨k, hk, rfl⟩ := List.getElem_of_mem hx
      exact hno k (by rw [List.getElem?_eq_getElem hk, e])
    refine .inr ⟨hm, lns_one s hx, ?_⟩
    unfold Lib.trimSuffix Lib.hasSuffix
    rw [if_neg]
    intro h
    rw [List.isSuffixOf_iff_suffix] at h
    obtain ⟨t, ht⟩ := h
    exact hx 10 (by rw [← ht]; simp) rfl
  · obtain ⟨i, hi⟩ : ∃ i : Nat, Lib.indexByte s 10 = i := ⟨(Lib.indexByte s 10).toNat, by omega⟩
    obtain ⟨h1, h2⟩ := Lib.indexByte_some hi
    have hlt := (List.getElem?_eq_some_iff.1 h1).1
    have hsi : s[i] = 10 := by
      rw [List.getElem?_eq_getElem hlt] at h1
      exact Option.some.inj h1
    have hsp : s = s.take i ++ 10 :: s.drop (i + 1) := by
      conv => lhs; rw [← List.take_append_drop i s, List.drop_eq_getElem_cons hlt, hsi]
    have hno : ∀ x ∈ s.take i, x ≠ 10 := by
      intro x hx e
      obtain ⟨k, hk, rfl⟩ := List.getElem_of_mem hx
      rw [List.length_take] at hk
      rw [List.getElem_take] at e
      exact h2 k (by omega) (by rw [List.getElem?_eq_getElem (by omega), e])
    refine .inl ⟨i, hi, hlt, ?_, ?_⟩
    · conv => lhs; rw [hsp]
      exact lns_app _ _ hno
    · rw [List.take_succ_eq_append_getElem hlt, hsi]
      unfold Lib.trimSuffix Lib.hasSuffix
      rw [if_pos (by rw [List.isSuffixOf_iff_suffix]; exact ⟨_, rfl⟩)]
      simp

/-- What the iterator's box holds, read off the world. -/
def leftIn (w : World) (g : Nat) : Nat := match w.cell? ⟨g, 0, none⟩ with
  | some (.string b) => b.size
  | _ => 0

set_option maxRecDepth 100000 in
set_option maxHeartbeats 2000000 in
/-- The iterator: for every loop body that leaves its box alone. -/
theorem lines1_in (n : Nat) (hn : 1 ≤ n) (l g : Nat) (s : Str) (hs : s.length ≤ 9223372036854775806) (J Jx : List Str → World → Prop)
    (hset : ∀ pre W v, J pre W → J pre (W.setCell ⟨g, 0, none⟩ v))
    (hdrew : ∀ pre W k, J pre W → J pre (W.drewN k))
    (hY : ∀ pre x more W, J pre W → lns s = pre ++ Lib.trimSuffix x [10] :: more → x.length ≤ s.length → YieldAt Fence.wide (n - 1) Tryd.prog l #[str x] W fun e W' =>
      (e = .returned (.bool true) ∧ J (pre ++ [Lib.trimSuffix x [10]]) W' ∧ W'.heap[g]? = W.heap[g]?) ∨ (e = .returned (.bool false) ∧ Jx (pre ++ [Lib.trimSuffix x [10]]) W'))
    (W : World) (hb : Bx W g #[str s] 9) (h0 : J [] W) :
    CallsIn Fence.wide n Tryd.prog 47 #[.func (.yield l) #[] #[], .pointer (some ⟨g, 0, none⟩)] W fun e W' => (∃ v, e = .returned v) ∧ (J (lns s) W' ∨ ∃ pre, pre <+: lns s ∧ Jx pre W') := by
  refine callsIn_of_wp Tryd.func47 rfl trivial ?_ rfl
  simp only [Tryd.ntmps47, List.size_toArray, List.length_cons, List.length_nil, Nat.reduceAdd, Nat.reduceSub, Array.replicate_succ, Array.replicate_zero, List.push_toArray, List.append_toArray, List.nil_append, List.cons_append]
  gi_wp2_with fail
  gi_loopw [3] (fun _ wr => ∃ (pre : List Str) (rest : Str), lns s = pre ++ lns rest ∧ rest.length ≤ s.length ∧ Bx wr g #[str rest] 9 ∧ J pre wr) (fun _ wr => leftIn wr g)
  case atStart => exact ⟨[], s, rfl, Nat.le_refl _, hb, h0⟩
  case round =>
    obtain ⟨pre, rest, hl, hrl, hbx, hJ⟩ := hrel
    have hc0 : wr.cell? ⟨g, 0, none⟩ = some (str rest) := hbx.c 0
    have hf0 := hbx.f 0
    by_cases hre : rest.length = 0
    · have hrn : rest = [] := List.eq_nil_of_length_eq_zero hre
      subst hrn
      gi_wp2
      go_end0
      refine ⟨⟨_, rfl⟩, .inl ?_⟩
      rw [hl, lns, List.append_nil]
      exact hJ
    · have hpos : (0 : Int) < (rest.length : Int) := by omega
      have hix := Tryd.strings_IndexByte ⟨rest.toArray⟩ 10 wr
      have HIX := Lib.hid (show Calls Tryd.prog 48 #[str rest, .int .u8 10] wr fun e w' => e = .returned (.int .i64 (Lib.indexByte rest 10)) ∧ w' = wr from hix)
      clear hix
      rcases first_line rest with ⟨i, hi, hlt, hln, htr⟩ | ⟨hi, hln, htr⟩
      · rw [hi] at HIX
        have hw1 : wrap64 ((i : Int) + 1) = ((i + 1 : Nat) : Int) := by
          rw [IntWalk.wrap64_in _ (by omega)]; omega
        have hzz : (ByteArray.mk rest.toArray).size = rest.length := by simp [ByteArray.size]
        have hs1 : ∀ w', (Instr.slice 9 (str rest) none (some (.int .i64 ((i : Int) + 1))) none).run Tryd.prog w' = .ok (str (rest.take (i + 1))) w' := by
          intro w'
          rw [str, run_slice_string_h (w := w') 9 ⟨rest.toArray⟩ (by kernel_rfl) .i64 ((i : Int) + 1) (by omega) (by rw [hzz]; omega), ByteArray.extract_mk, show ((i : Int) + 1).toNat = i + 1 by omega]
          simp
        have hs2 : ∀ w', (Instr.slice 9 (str rest) (some (.int .i64 ((i : Int) + 1))) none none).run Tryd.prog w' = .ok (str (rest.drop (i + 1))) w' := by
          intro w'
          rw [str, run_slice_string_l (w := w') 9 ⟨rest.toArray⟩ (by kernel_rfl) .i64 ((i : Int) + 1) (by omega) (by rw [hzz]; omega), ByteArray.extract_mk, show ((i : Int) + 1).toNat = i + 1 by omega, hzz, List.take_of_length_le (by simp)]
        have hi1 : (0 : Int) ≤ (i : Int) + 1 := by omega
        have hi2 : (i : Int) + 1 ≤ (rest.length : Int) := by omega
        have hi0 : (0 : Int) ≤ (i : Int) := by omega
        obtain ⟨fn, tmps, assign, body, hy, hR⟩ := hY pre (rest.take (i + 1)) (lns (rest.drop (i + 1))) (wr.setCell ⟨g, 0, none⟩ (str (rest.drop (i + 1)))).drew (hdrew pre _ 1 (hset pre wr _ hJ)) (by rw [hl, hln, htr]) (by rw [List.length_take]; omega)
        have HR := Lib.hid hR
        have HHL := Lib.hid hl
        clear hR hl
        generalize hx1 : rest.take (i + 1) = x1 at *
        generalize hx2 : rest.drop (i + 1) = x2 at *
        have HX2 := Lib.hid hx2
        clear hx1 hx2
        gi_wp2_with fail
        refine ⟨trivial, (callsIn_wide.2 HIX.out).mono ?_⟩
        rintro e w2 ⟨rfl, rfl⟩
        gi_wp2_with fail
        gi_region
        gi_wp2_with fail
        refine HR.out.mono ?_
        rintro e W3 (⟨rfl, hJ3, hk3⟩ | ⟨rfl, hJx3⟩)
        · have hbx3 : Bx W3 g #[str x2] 9 := hk3.trans (heap_setCell_same w2 g 0 _ _ (str x2) hbx)
          have hm3 : leftIn W3 g = x2.length := by
            unfold leftIn
            rw [hbx3.c 0]
            simp [ByteArray.size]
          have hm2 : leftIn w2 g = rest.length := by
            unfold leftIn
            rw [hc0]
            simp [ByteArray.size]
          have hx2l : x2.length < rest.length := by
            rw [← HX2.out, List.length_drop]
            omega
          have H3 := Lib.hid (And.intro hbx3 (And.intro hm3 hm2))
          have HJ3 := Lib.hid hJ3
          clear hbx3 hm3 hm2 hk3 hJ3
          gi_wp2
          exact ⟨⟨pre ++ [Lib.trimSuffix x1 [10]], x2, by rw [HHL.out, hln, ← htr, List.append_assoc]; rfl, by omega, H3.out.1, HJ3.out⟩, by rw [H3.out.2.1, H3.out.2.2]; exact hx2l⟩
        · have HJ3 := Lib.hid hJx3
          clear hJx3
          gi_wp2
          refine bodyPost_ret (results_none rfl _ _ _) rfl ?_
          exact ⟨⟨_, rfl⟩, .inr ⟨_, ⟨lns x2, by rw [HHL.out, hln, ← htr, List.append_assoc]; rfl⟩, HJ3.out⟩⟩
      · rw [hi] at HIX
        have hln' := hln (by intro e; subst e; simp at hre)
        obtain ⟨fn, tmps, assign, body, hy, hR⟩ := hY pre rest [] (wr.setCell ⟨g, 0, none⟩ (str [])) (hset pre wr _ hJ) (by rw [hl, hln', htr]) hrl
        have HR := Lib.hid hR
        have HHL := Lib.hid hl
        clear hR hl
        gi_wp2_with fail
        refine ⟨trivial, (callsIn_wide.2 HIX.out).mono ?_⟩
        rintro e w2 ⟨rfl, rfl⟩
        gi_wp2_with fail
        refine HR.out.mono ?_
        rintro e W3 (⟨rfl, hJ3, hk3⟩ | ⟨rfl, hJx3⟩)
        · have hbx3 : Bx W3 g #[str []] 9 := hk3.trans (heap_setCell_same w2 g 0 _ _ (str []) hbx)
          have hm3 : leftIn W3 g = 0 := by
            unfold leftIn
            rw [hbx3.c 0]
            rfl
          have hm2 : leftIn w2 g = rest.length := by
            unfold leftIn
            rw [hc0]
            simp [ByteArray.size]
          have H3 := Lib.hid (And.intro hbx3 (And.intro hm3 hm2))
          have HJ3 := Lib.hid hJ3
          clear hbx3 hm3 hm2 hk3 hJ3
          gi_wp2
          exact ⟨⟨pre ++ [Lib.trimSuffix rest [10]], [], by rw [HHL.out, hln', htr, List.append_assoc]; rfl, by simp, H3.out.1, HJ3.out⟩, by rw [H3.out.2.1, H3.out.2.2]; omega⟩
        · have HJ3 := Lib.hid hJx3
          clear hJx3
          gi_wp2
          refine bodyPost_ret (results_none rfl _ _ _) rfl ?_
          exact ⟨⟨_, rfl⟩, .inr ⟨_, ⟨[], by rw [HHL.out, hln', htr, List.append_nil]⟩, HJ3.out⟩⟩
end Go.Proofs.YtoebboimdkogpaaDoor
