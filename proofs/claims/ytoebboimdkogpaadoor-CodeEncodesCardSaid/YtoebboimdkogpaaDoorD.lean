/-
  Whether an instruction may be: the document's answer.
-/
import Derived.Test.YtoebboimdkogpaaDoorA
namespace Go.Proofs.YtoebboimdkogpaaDoor
open Go.RowKit

/-- What stands behind a name, a letter each. -/
def formL (s : Shp) : Str := [97, 98, 99].take s.regs ++ if s.num then [110] else []
theorem u8_int (c d : UInt8) : ((c.toNat : Int) == (d.toNat : Int)) = (c == d) := by
  rw [Bool.eq_iff_iff]
  simp only [beq_iff_eq]
  constructor
  · intro h
    exact UInt8.toNat_inj.1 (by omega)
  · intro h
    rw [h]

set_option maxHeartbeats 4000000 in
set_option maxRecDepth 100000 in
theorem rname_in (k : Nat) (hk : k < 23) (w : World) :
    Calls Tryd.prog 34 #[.int .i64 k] w fun e w' => e = .returned (.tuple #[str (shapes[k]'hk).name, str (formL (shapes[k]'hk)), .bool true]) ∧ w = w' := by
  obtain rfl | rfl | rfl | rfl | rfl | rfl | rfl | rfl | rfl | rfl | rfl | rfl | rfl | rfl | rfl | rfl | rfl | rfl | rfl | rfl | rfl | rfl | rfl : k = 0 ∨ k = 1 ∨ k = 2 ∨ k = 3 ∨ k = 4 ∨ k = 5 ∨ k = 6 ∨ k = 7 ∨ k = 8 ∨ k = 9 ∨ k = 10 ∨ k = 11 ∨ k = 12 ∨ k = 13 ∨ k = 14 ∨ k = 15 ∨ k = 16 ∨ k = 17 ∨ k = 18 ∨ k = 19 ∨ k = 20 ∨ k = 21 ∨ k = 22 := by omega
  all_goals
    go_enter Tryd.func34, Tryd.ntmps34
    go_wp2
    go_ret3
    exact ⟨rfl, rfl⟩

set_option maxHeartbeats 4000000 in
set_option maxRecDepth 100000 in
theorem rname_out (op : Int) (h : op < 0 ∨ 23 ≤ op) (w : World) :
    Calls Tryd.prog 34 #[.int .i64 op] w fun e w' => e = .returned (.tuple #[str [], str [], .bool false]) ∧ w = w' := by
  have hs : ∀ j : Int, 0 ≤ j → j < 23 → (op == j) = false := by
    intro j h1 h2
    rw [beq_eq_false_iff_ne]
    omega
  have h0 := hs 0 (by omega) (by omega)
  have h1 := hs 1 (by omega) (by omega)
  have h2 := hs 2 (by omega) (by omega)
  have h3 := hs 3 (by omega) (by omega)
  have h4 := hs 4 (by omega) (by omega)
  have h5 := hs 5 (by omega) (by omega)
  have h6 := hs 6 (by omega) (by omega)
  have h7 := hs 7 (by omega) (by omega)
  have h8 := hs 8 (by omega) (by omega)
  have h9 := hs 9 (by omega) (by omega)
  have h10 := hs 10 (by omega) (by omega)
  have h11 := hs 11 (by omega) (by omega)
  have h12 := hs 12 (by omega) (by omega)
  have h13 := hs 13 (by omega) (by omega)
  have h14 := hs 14 (by omega) (by omega)
  have h15 := hs 15 (by omega) (by omega)
  have h16 := hs 16 (by omega) (by omega)
  have h17 := hs 17 (by omega) (by omega)
  have h18 := hs 18 (by omega) (by omega)
  have h19 := hs 19 (by omega) (by omega)
  have h20 := hs 20 (by omega) (by omega)
  have h21 := hs 21 (by omega) (by omega)
  have h22 := hs 22 (by omega) (by omega)
  clear hs h
  go_enter Tryd.func34, Tryd.ntmps34
  go_wp2
  go_ret3
  exact ⟨rfl, rfl⟩

def partOf (i : Ins) (f : UInt8) : Int := if f = 97 then i.a else if f = 98 then i.b else if f = 99 then i.c else i.n
theorem part_any (i : Ins) (f : UInt8) (w : World) :
    Calls Tryd.prog 35 #[insV i, .int .u8 f.toNat] w fun e w' => e = .returned (.int .i64 (partOf i f)) ∧ Below w.heap.size w w' := by
  have hb := Lib.hid ((Below.refl w.heap.size w).alloc (Nat.le_refl _) (.cells #[.int .i64 i.op, .int .i64 i.a, .int .i64 i.b, .int .i64 i.c, .int .i64 i.n] 35))
  have e0 : ((f.toNat : Int) == 97) = (f == 97) := u8_int f 97
  have e1 : ((f.toNat : Int) == 98) = (f == 98) := u8_int f 98
  have e2 : ((f.toNat : Int) == 99) = (f == 99) := u8_int f 99
  by_cases h0 : f = 97
  · subst h0
    go_enter Tryd.func35, Tryd.ntmps35
    go_wp2
    go_ret
    exact ⟨rfl, hb.out⟩
  · by_cases h1 : f = 98
    · subst h1
      go_enter Tryd.func35, Tryd.ntmps35
      go_wp2
      go_ret
      exact ⟨rfl, hb.out⟩
    · by_cases h2 : f = 99
      · subst h2
        go_enter Tryd.func35, Tryd.ntmps35
        go_wp2
        go_ret
        exact ⟨rfl, hb.out⟩
      · have hp := Lib.hid (show partOf i f = i.n by rw [partOf, if_neg h0, if_neg h1, if_neg h2])
        rw [beq_eq_false_iff_ne.2 h0] at e0
        rw [beq_eq_false_iff_ne.2 h1] at e1
        rw [beq_eq_false_iff_ne.2 h2] at e2
        clear h0 h1 h2
        go_enter Tryd.func35, Tryd.ntmps35
        go_wp2
        go_ret
        exact ⟨by rw [hp.out]; rfl, hb.out⟩

theorem stands_any (l : Str) (f : UInt8) (w : World) (hl : l.length ≤ 9223372036854775807) :
    Calls Tryd.prog 36 #[str l, .int .u8 f.toNat] w fun e w' => e = .returned (.bool (decide (f ∈ l))) ∧ w = w' := by
  go_enter Tryd.func36, Tryd.ntmps36
  go_wp2_with fail
  go_loop [5] (fun i => ∃ k : Nat, k ≤ l.length ∧ i = .int .i64 k ∧ f ∉ l.take k) (fun i => l.length - (intOf i).toNat)
  case atStart => exact ⟨0, Nat.zero_le _, rfl, by simp⟩
  case round =>
    obtain ⟨k, hk, rfl, hn⟩ := hrel
    by_cases hkl : k < l.length
    · have he : ((((⟨l.toArray⟩ : ByteArray)[k]'(by simpa [ByteArray.size] using hkl)).toNat : Int) == (f.toNat : Int)) = (l[k] == f) := u8_int l[k] f
      by_cases hf : l[k] = f
      · rw [hf, beq_self_eq_true] at he
        have hm := Lib.hid (show decide (f ∈ l) = true from decide_eq_true (hf ▸ List.getElem_mem hkl))
        clear hf hn
        go_wp2
        go_ret
        exact ⟨by rw [hm.out]; rfl, rfl⟩
      · rw [beq_eq_false_iff_ne.2 hf] at he
        have hm := Lib.hid (show f ∉ l.take (k + 1) by
          rw [List.take_succ_eq_append_getElem hkl]
          intro h
          rcases List.mem_append.1 h with h | h
          · exact hn h
          · exact hf (List.mem_singleton.1 h).symm)
        clear hf hn
        go_wp2
        go_round
        case rel => exact ⟨k + 1, by omega, by go_num, hm.out⟩
        case measure => simp [intOf]; omega
    · obtain rfl : k = l.length := by omega
      rw [List.take_length] at hn
      have hm := Lib.hid (show decide (f ∈ l) = false from decide_eq_false hn)
      clear hn
      go_wp2
      go_ret
      exact ⟨by rw [hm.out]; rfl, rfl⟩

def rangedB (f : UInt8) (n : Int) : Bool := if f = 110 then decide (-2147483648 ≤ n) && decide (n ≤ 2147483647) else decide (0 ≤ n) && decide (n ≤ 15)
theorem ranged_any (f : UInt8) (n : Int) (w : World) :
    Calls Tryd.prog 37 #[.int .u8 f.toNat, .int .i64 n] w fun e w' => e = .returned (.bool (rangedB f n)) ∧ w = w' := by
  have e0 : ((f.toNat : Int) == 110) = (f == 110) := u8_int f 110
  by_cases h0 : f = 110
  · subst h0
    have hu : rangedB 110 n = (decide (-2147483648 ≤ n) && decide (n ≤ 2147483647)) := rfl
    have hm := Lib.hid hu
    clear hu
    go_enter Tryd.func37, Tryd.ntmps37
    go_wp2
    all_goals
      go_ret
      refine ⟨?_, rfl⟩
      refine congrArg (fun b => Ending.returned (Value.bool b)) ?_
      rw [hm.out, Bool.eq_iff_iff]
      simp
      try omega
  · rw [beq_eq_false_iff_ne.2 h0] at e0
    have hu : rangedB f n = (decide (0 ≤ n) && decide (n ≤ 15)) := by rw [rangedB, if_neg h0]
    have hm := Lib.hid hu
    clear hu h0
    go_enter Tryd.func37, Tryd.ntmps37
    go_wp2
    all_goals
      go_ret
      refine ⟨?_, rfl⟩
      refine congrArg (fun b => Ending.returned (Value.bool b)) ?_
      rw [hm.out, Bool.eq_iff_iff]
      simp
      try omega
end Go.Proofs.YtoebboimdkogpaaDoor
