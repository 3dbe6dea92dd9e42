/-
  Whether an instruction may be: the program's functions.
-/
import Derived.Test.YtoebboimdkogpaaDoorA
import Derived.ChangeKeysEq
namespace Go.Proofs.YtoebboimdkogpaaDoor
open Go.RowKit

abbrev regsV (a b c : Int) : Value := .agg #[.int .i64 a, .int .i64 b, .int .i64 c]
abbrev shpV (s : Shp) : Value := .agg #[str s.name, .int .i64 s.regs, .bool s.num]

theorem registers_any (i : Ins) (w : World) :
    Calls Tryd.prog 32 #[insV i] w fun e w' => e = .returned (regsV i.a i.b i.c) ∧ Below w.heap.size w w' := by
  go_enter Tryd.func32, Tryd.ntmps32
  go_wp2_with fail
  exact bodyPost_ret (v := regsV i.a i.b i.c) (by simp [results, Tryd.results32, go_sem]) rfl ⟨rfl, ((Below.refl _ _).alloc (Nat.le_refl _) _).alloc (by simp) _⟩

theorem takesNum_any (s : Shp) (n : Int) (w : World) :
    Calls Tryd.prog 33 #[shpV s, .int .i64 n] w fun e w' => e = .returned (.bool (numOk s.num n)) ∧ Below w.heap.size w w' := by
  have hb := (Below.refl w.heap.size w).alloc (Nat.le_refl _) (.cells #[str s.name, .int .i64 s.regs, .bool s.num] 58)
  cases hn : s.num
  all_goals
    rw [hn] at hb
    go_enter Tryd.func33, Tryd.ntmps33
    go_wp2
  all_goals
    go_ret
    refine ⟨?_, hb⟩
    refine congrArg (fun b => Ending.returned (Value.bool b)) ?_
    rw [Bool.eq_iff_iff]
    simp [numOk]
    try omega

theorem run_sizeOf_int (w : World) : (sizeOf 3).run Tryd.prog w = .ok 1 w := by
  have h : (Tryd.prog.info? 3).map (·.size) = some 1 := by kernel_rfl
  cases hq : Tryd.prog.info? 3 with
  | none => simp [hq] at h
  | some i => simp [sizeOf, typeInfo, hq]; simpa [hq] using h
theorem index_regs (a b c : Int) (w : World) :
    (Instr.index 61 (regsV a b c) (.int .i64 0)).run Tryd.prog w = .ok (.int .i64 a) w ∧ (Instr.index 61 (regsV a b c) (.int .i64 1)).run Tryd.prog w = .ok (.int .i64 b) w ∧ (Instr.index 61 (regsV a b c) (.int .i64 2)).run Tryd.prog w = .ok (.int .i64 c) w := by
  have h0 := run_part_plain (P := Tryd.prog) (e := 3) (by kernel_rfl) (w := w) (xs := #[.int .i64 a, .int .i64 b, .int .i64 c]) (off := 0) (v := .int .i64 a) rfl
  have h1 := run_part_plain (P := Tryd.prog) (e := 3) (by kernel_rfl) (w := w) (xs := #[.int .i64 a, .int .i64 b, .int .i64 c]) (off := 1) (v := .int .i64 b) rfl
  have h2 := run_part_plain (P := Tryd.prog) (e := 3) (by kernel_rfl) (w := w) (xs := #[.int .i64 a, .int .i64 b, .int .i64 c]) (off := 2) (v := .int .i64 c) rfl
  have hs := run_sizeOf_int (w := w)
  refine ⟨?_, ?_, ?_⟩
  all_goals simp [Instr.index, asIntOf, Sem.run_bind, run_underlying Tryd.underlying61, hs, h0, h1, h2]

/-- Where the registers' loop stands. -/
def RegIn (r : Nat) (a b c : Int) (i : Value) : Prop :=
  i = .int .i64 0 ∨ (i = .int .i64 1 ∧ regOk (decide (0 < r)) a = true) ∨ (i = .int .i64 2 ∧ regOk (decide (0 < r)) a = true ∧ regOk (decide (1 < r)) b = true) ∨ (i = .int .i64 3 ∧ regOk (decide (0 < r)) a = true ∧ regOk (decide (1 < r)) b = true ∧ regOk (decide (2 < r)) c = true)
theorem RegIn.to1 {r : Nat} {a b c : Int} (h : regOk (decide (0 < r)) a = true) : RegIn r a b c (.int .i64 1) := Or.inr (Or.inl ⟨rfl, h⟩)
theorem RegIn.to2 {r : Nat} {a b c : Int} (h : regOk (decide (0 < r)) a = true) (h1 : regOk (decide (1 < r)) b = true) : RegIn r a b c (.int .i64 2) := Or.inr (Or.inr (Or.inl ⟨rfl, h, h1⟩))
theorem RegIn.to3 {r : Nat} {a b c : Int} (h : regOk (decide (0 < r)) a = true) (h1 : regOk (decide (1 < r)) b = true) (h2 : regOk (decide (2 < r)) c = true) : RegIn r a b c (.int .i64 3) := Or.inr (Or.inr (Or.inr ⟨rfl, h, h1, h2⟩))
theorem reg_cases (a : Int) : (a = 0) ∨ ((a != 0) = true ∧ (a < 0) ∧ decide (a < 0) = true ∧ ∀ k, regOk k a = false) ∨ ((a != 0) = true ∧ ¬ a < 0 ∧ decide (a < 0) = false ∧ 16 ≤ a ∧ decide (16 ≤ a) = true ∧ ∀ k, regOk k a = false) ∨ ((a != 0) = true ∧ ¬ a < 0 ∧ decide (a < 0) = false ∧ ¬ 16 ≤ a ∧ decide (16 ≤ a) = false ∧ ∀ k, regOk k a = k) := by
  rcases (by omega : a < 0 ∨ 16 ≤ a ∨ a = 0 ∨ (0 < a ∧ a < 16)) with h | h | h | h
  · refine .inr (.inl ⟨by simp; omega, h, by simp; omega, fun k => ?_⟩)
    have : ¬ 0 ≤ a := by omega
    simp [regOk, this]
  · refine .inr (.inr (.inl ⟨by simp; omega, by omega, by simp; omega, h, by simp; omega, fun k => ?_⟩))
    have : ¬ a < 16 := by omega
    simp [regOk, this]
  · exact .inl h
  · refine .inr (.inr (.inr ⟨by simp; omega, by omega, by simp; omega, by omega, by simp; omega, fun k => ?_⟩))
    have h1 : 0 ≤ a := by omega
    have h2 : ¬ a = 0 := by omega
    simp [regOk, h.2, h1, h2]
theorem regOk_zero (k : Bool) : regOk k 0 = true := by simp [regOk]
set_option maxHeartbeats 4000000 in
set_option maxRecDepth 100000 in
theorem takesRegs_k (nm : Str) (r : Nat) (m : Bool) (hr : r ≤ 3) (a b c : Int) (w : World) :
    Calls Tryd.prog 31 #[shpV ⟨nm, r, m⟩, regsV a b c] w fun e w' => e = .returned (.bool (regsOk r a b c)) ∧ Below w.heap.size w w' := by
  have HB := Lib.hid (show Below w.heap.size w ((w.alloc (.cells #[str nm, .int .i64 r, .bool m] 58)).alloc (.cells #[.int .i64 a, .int .i64 b, .int .i64 c] 61)) from ((Below.refl w.heap.size w).alloc (Nat.le_refl _) _).alloc (by simp) _)
  have HR : Hid (regsOk r a b c = (regOk (decide (0 < r)) a && (regOk (decide (1 < r)) b && regOk (decide (2 < r)) c))) := Lib.hid rfl
  have i0 := fun w' => (index_regs a b c w').1
  have i1 := fun w' => (index_regs a b c w').2.1
  have i2 := fun w' => (index_regs a b c w').2.2
  generalize regsOk r a b c = R at *
  obtain ⟨ri, hri⟩ : ∃ ri, ri = r := ⟨_, rfl⟩
  have HRI := Lib.hid hri
  clear hri
  obtain rfl | rfl | rfl | rfl : r = 0 ∨ r = 1 ∨ r = 2 ∨ r = 3 := by omega
  all_goals
    clear hr
    go_enter Tryd.func31, Tryd.ntmps31
    go_wp2_with fail
    go_loop [9] (fun i => RegIn ri a b c i) (fun i => 3 - (intOf i).toNat)
    case atStart => exact Or.inl rfl
    case round =>
     obtain rfl | ⟨rfl, hp⟩ | ⟨rfl, hp, hq⟩ | ⟨rfl, hp, hq, hr⟩ := hrel
     · rcases reg_cases a with rfl | ⟨e0, e1, e2, hv⟩ | ⟨e0, e1, e2, e3, e4, hv⟩ | ⟨e0, e1, e2, e3, e4, hv⟩
       · go_wp2
         exact ⟨RegIn.to1 (regOk_zero _), by simp [intOf]⟩
       · have HV := Lib.hid hv
         clear hv
         go_wp2
         go_ret
         exact ⟨by rw [HR.out, HV.out]; simp, HB.out⟩
       · have HV := Lib.hid hv
         clear hv
         go_wp2
         go_ret
         exact ⟨by rw [HR.out, HV.out]; simp, HB.out⟩
       · have HV := Lib.hid hv
         clear hv
         go_wp2
         all_goals (first
           | exact ⟨RegIn.to1 ((HV.out _).trans (by rw [HRI.out]; decide)), by simp [intOf]⟩
           | (go_ret; exact ⟨by rw [HR.out, HV.out]; simp, HB.out⟩))
     · have HP := Lib.hid hp
       clear hp
       rcases reg_cases b with rfl | ⟨e0, e1, e2, hv⟩ | ⟨e0, e1, e2, e3, e4, hv⟩ | ⟨e0, e1, e2, e3, e4, hv⟩
       · go_wp2
         exact ⟨RegIn.to2 HP.out (regOk_zero _), by simp [intOf]⟩
       · have HV := Lib.hid hv
         clear hv
         go_wp2
         go_ret
         exact ⟨by rw [HR.out, HV.out]; simp, HB.out⟩
       · have HV := Lib.hid hv
         clear hv
         go_wp2
         go_ret
         exact ⟨by rw [HR.out, HV.out]; simp, HB.out⟩
       · have HV := Lib.hid hv
         clear hv
         go_wp2
         all_goals (first
           | exact ⟨RegIn.to2 HP.out ((HV.out _).trans (by rw [HRI.out]; decide)), by simp [intOf]⟩
           | (go_ret; exact ⟨by rw [HR.out, HV.out]; simp, HB.out⟩))
     · have HP := Lib.hid (And.intro hp hq)
       clear hp hq
       rcases reg_cases c with rfl | ⟨e0, e1, e2, hv⟩ | ⟨e0, e1, e2, e3, e4, hv⟩ | ⟨e0, e1, e2, e3, e4, hv⟩
       · go_wp2
         exact ⟨RegIn.to3 HP.out.1 HP.out.2 (regOk_zero _), by simp [intOf]⟩
       · have HV := Lib.hid hv
         clear hv
         go_wp2
         go_ret
         exact ⟨by rw [HR.out, HV.out]; simp, HB.out⟩
       · have HV := Lib.hid hv
         clear hv
         go_wp2
         go_ret
         exact ⟨by rw [HR.out, HV.out]; simp, HB.out⟩
       · have HV := Lib.hid hv
         clear hv
         go_wp2
         all_goals (first
           | exact ⟨RegIn.to3 HP.out.1 HP.out.2 ((HV.out _).trans (by rw [HRI.out]; decide)), by simp [intOf]⟩
           | (go_ret; exact ⟨by rw [HR.out, HV.out]; simp, HB.out⟩))
     · have hrr : R = true := by
         have hri := HRI.out
         rw [hri] at hp hq hr
         rw [HR.out, hp, hq, hr]
         rfl
       have HRR := Lib.hid hrr
       clear hp hq hr hrr
       go_wp2
       all_goals (first
        | (exfalso; omega)
        | (go_ret; exact ⟨by rw [HRR.out]; rfl, HB.out⟩))
theorem takesRegs_any (s : Shp) (hs : s.regs ≤ 3) (a b c : Int) (w : World) :
    Calls Tryd.prog 31 #[shpV s, regsV a b c] w fun e w' => e = .returned (.bool (regsOk s.regs a b c)) ∧ Below w.heap.size w w' := takesRegs_k s.name s.regs s.num hs a b c w

theorem may_out (i : Ins) (hi : i.op < 0 ∨ 23 ≤ i.op) (w : World) :
    Calls Tryd.prog 16 #[insV i] w fun e w' => e = .returned (.int .i64 40) ∧ Below w.heap.size w w' := by
  go_enter Tryd.func16, Tryd.ntmps16
  go_wp2_with fail
  all_goals (first
    | (go_ret; exact ⟨rfl, (Below.refl _ _).alloc (Nat.le_refl _) _⟩)
    | (exfalso; omega))
end Go.Proofs.YtoebboimdkogpaaDoor
