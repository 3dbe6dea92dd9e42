/-
  Instructions: which may be, their bytes and their lines, as plain functions; the table of their names in memory.
  Whether an instruction may be: the program's functions.
  May: whether an instruction may be.
-/
import Derived.Test.YtfkhfjefddgkoaaDoorZSC
import Derived.Lib.SplitLaws
import Derived.Laws.Strings3
import Derived.IntWalk
import Derived.Deep.MidRow
import Derived.Lib.AppendIntMem
import Derived.ChangeKeysEq
import Derived.Deep.RegionHeld3
namespace Go.Proofs.YtfkhfjefddgkoaaDoor.Cod
open Go.RowKit

abbrev Str := List UInt8
/-- A text. -/
abbrev str (l : Str) : Value := .string ⟨l.toArray⟩
theorem str_of (s : ByteArray) : Value.string s = str s.data.toList := by rw [str, Lib.mk_data]
/-- An int. -/
def I64 (n : Int) : Prop := -9223372036854775808 ≤ n ∧ n ≤ 9223372036854775807

/-- An instruction. -/
structure Ins where
  op : Int
  a : Int
  b : Int
  c : Int
  n : Int
theorem Ins.ext' {i j : Ins} (h0 : i.op = j.op) (h1 : i.a = j.a) (h2 : i.b = j.b) (h3 : i.c = j.c) (h4 : i.n = j.n) : i = j := by
  cases i; cases j; simp at *; exact ⟨h0, h1, h2, h3, h4⟩
abbrev insC (i : Ins) : List Value := [.int .i64 i.op, .int .i64 i.a, .int .i64 i.b, .int .i64 i.c, .int .i64 i.n]
abbrev insV (i : Ins) : Value := .agg #[.int .i64 i.op, .int .i64 i.a, .int .i64 i.b, .int .i64 i.c, .int .i64 i.n]
structure Ins.ok (i : Ins) : Prop where
  op : I64 i.op
  a : I64 i.a
  b : I64 i.b
  c : I64 i.c
  n : I64 i.n

/-- A name, the number of registers behind it, and whether a number follows. -/
structure Shp where
  name : Str
  regs : Nat
  num : Bool
def shapes : List Shp := [
  ⟨[104, 97, 108, 116], 0, false⟩,
  ⟨[109, 111, 118, 105], 1, true⟩,
  ⟨[109, 111, 118], 2, false⟩,
  ⟨[97, 100, 100], 3, false⟩,
  ⟨[115, 117, 98], 3, false⟩,
  ⟨[109, 117, 108], 3, false⟩,
  ⟨[100, 105, 118], 3, false⟩,
  ⟨[108, 101, 115, 115], 3, false⟩,
  ⟨[115, 97, 109, 101], 3, false⟩,
  ⟨[108, 100], 2, true⟩,
  ⟨[115, 116], 2, true⟩,
  ⟨[108, 100, 112], 1, true⟩,
  ⟨[108, 101, 97], 1, true⟩,
  ⟨[106, 109, 112], 0, true⟩,
  ⟨[106, 122], 1, true⟩,
  ⟨[99, 97, 108, 108], 0, true⟩,
  ⟨[99, 97, 108, 108, 114], 1, false⟩,
  ⟨[106, 109, 112, 114], 1, false⟩,
  ⟨[114, 101, 116], 0, false⟩,
  ⟨[111, 117, 116], 1, false⟩,
  ⟨[116, 112], 1, false⟩,
  ⟨[116, 108, 115], 2, false⟩,
  ⟨[98, 105, 110, 100], 0, true⟩]
theorem shapes_len : shapes.length = 23 := rfl
def shapeOf (op : Int) : Option Shp := if 0 ≤ op then shapes[op.toNat]? else none
def regOk (isOp : Bool) (r : Int) : Bool := (isOp || r == 0) && (decide (0 ≤ r) && decide (r < 16))
def regsOk (k : Nat) (a b c : Int) : Bool := regOk (decide (0 < k)) a && (regOk (decide (1 < k)) b && regOk (decide (2 < k)) c)
def numOk (num : Bool) (n : Int) : Bool := if num then decide (-2147483648 ≤ n) && decide (n ≤ 2147483647) else n == 0
def mayB (i : Ins) : Bool := match shapeOf i.op with
  | none => false
  | some s => regsOk s.regs i.a i.b i.c && numOk s.num i.n
theorem shapeOf_in (k : Nat) (hk : k < 23) : shapeOf (k : Int) = some (shapes[k]'hk) := by
  rw [shapeOf, if_pos (by omega), Int.toNat_natCast]
  exact List.getElem?_eq_getElem (show k < shapes.length from hk)
theorem shapeOf_out {op : Int} (h : op < 0 ∨ 23 ≤ op) : shapeOf op = none := by
  unfold shapeOf
  split
  · rw [List.getElem?_eq_none]
    rw [shapes_len]
    omega
  · rfl
theorem shapeOf_some {op : Int} {s : Shp} (h : shapeOf op = some s) : ∃ (k : Nat) (hk : k < 23), op = k ∧ s = shapes[k]'hk := by
  by_cases ho : op < 0 ∨ 23 ≤ op
  · rw [shapeOf_out ho] at h; cases h
  · refine ⟨op.toNat, by omega, by omega, ?_⟩
    have := shapeOf_in op.toNat (by omega)
    rw [show ((op.toNat : Nat) : Int) = op by omega, h] at this
    exact Option.some.inj this

/-! The table in memory. -/
def shC : List Value := shapes.flatMap fun s => [str s.name, .int .i64 s.regs, .bool s.num]
def Shps (w : World) : Prop := ∀ j v, shC[j]? = some v → w.cell? ⟨0, j, none⟩ = some v
theorem shC_at : ∀ (k : Nat) (hk : k < 23), shC[k * 3]? = some (str (shapes[k]'hk).name) ∧ shC[k * 3 + 1]? = some (.int .i64 (shapes[k]'hk).regs) ∧ shC[k * 3 + 2]? = some (.bool (shapes[k]'hk).num)
  | 0, _ => ⟨rfl, rfl, rfl⟩
  | 1, _ => ⟨rfl, rfl, rfl⟩
  | 2, _ => ⟨rfl, rfl, rfl⟩
  | 3, _ => ⟨rfl, rfl, rfl⟩
  | 4, _ => ⟨rfl, rfl, rfl⟩
  | 5, _ => ⟨rfl, rfl, rfl⟩
  | 6, _ => ⟨rfl, rfl, rfl⟩
  | 7, _ => ⟨rfl, rfl, rfl⟩
  | 8, _ => ⟨rfl, rfl, rfl⟩
  | 9, _ => ⟨rfl, rfl, rfl⟩
  | 10, _ => ⟨rfl, rfl, rfl⟩
  | 11, _ => ⟨rfl, rfl, rfl⟩
  | 12, _ => ⟨rfl, rfl, rfl⟩
  | 13, _ => ⟨rfl, rfl, rfl⟩
  | 14, _ => ⟨rfl, rfl, rfl⟩
  | 15, _ => ⟨rfl, rfl, rfl⟩
  | 16, _ => ⟨rfl, rfl, rfl⟩
  | 17, _ => ⟨rfl, rfl, rfl⟩
  | 18, _ => ⟨rfl, rfl, rfl⟩
  | 19, _ => ⟨rfl, rfl, rfl⟩
  | 20, _ => ⟨rfl, rfl, rfl⟩
  | 21, _ => ⟨rfl, rfl, rfl⟩
  | 22, _ => ⟨rfl, rfl, rfl⟩
  | n + 23, h => absurd h (by omega)
theorem Shps.at_ {w : World} (h : Shps w) (k : Nat) (hk : k < 23) : w.cell? ⟨0, k * 3, none⟩ = some (str (shapes[k]'hk).name) ∧ w.cell? ⟨0, k * 3 + 1, none⟩ = some (.int .i64 (shapes[k]'hk).regs) ∧ w.cell? ⟨0, k * 3 + 2, none⟩ = some (.bool (shapes[k]'hk).num) :=
  ⟨h _ _ (shC_at k hk).1, h _ _ (shC_at k hk).2.1, h _ _ (shC_at k hk).2.2⟩
theorem Shps.pos {w : World} (h : Shps w) : 0 < w.heap.size := World.block_lt_of_cell? w _ (h.at_ 0 (by omega)).1
theorem Shps.keep {w w' : World} (h : Shps w) (hk : ∀ k, k < w.heap.size → w'.heap[k]? = w.heap[k]?) : Shps w' := fun j v hv => by
  have h1 := h j v hv
  rw [World.cell?_of_block (hk _ (World.block_lt_of_cell? w _ h1))]
  exact h1
theorem Shps.below {w w' : World} (h : Shps w) (hb : Below w.heap.size w w') : Shps w' := h.keep fun k hk => hb.block k hk
theorem shapes_regs : ∀ (k : Nat) (hk : k < 23), (shapes[k]'hk).regs ≤ 3 := by decide

/-! Below. -/
theorem cell_below {w w' : World} (hb : Below w.heap.size w w') {a : Addr} {u : Value} (h : w.cell? a = some u) : w'.cell? a = some u := (hb.cell (World.block_lt_of_cell? w _ h)).trans h
theorem cell_alloc {w : World} {a : Addr} {u : Value} (h : w.cell? a = some u) (o : Obj) : (w.alloc o).cell? a = some u := by
  rw [World.cell?_alloc_lt w _ _ (World.block_lt_of_cell? w _ h)]; exact h
theorem plainAdd (b o k : Nat) : (⟨b, o, none⟩ : Addr).add k = ⟨b, o + k, none⟩ := by unfold Addr.add; split <;> simp_all

/-- A block that holds just these cells. -/
def Bx (w : World) (g : Nat) (cs : Array Value) (t : TypeId) : Prop := w.heap[g]? = some (.cells cs t (0, 0))
section
variable {w w' : World} {g : Nat} {cs : Array Value} {t : TypeId}
theorem Bx.new (w : World) (cs : Array Value) (t : TypeId) : Bx (w.alloc (.cells cs t)) w.heap.size cs t := heap_alloc_new _ _
theorem Bx.c (h : Bx w g cs t) (j : Nat) : w.cell? ⟨g, j, none⟩ = cs[j]? := cell_of_row w g j _ _ _ h
theorem Bx.f (h : Bx w g cs t) (j : Nat) : w.frozen? ⟨g, j, none⟩ = false := frozen_of_row w g j _ _ h
theorem Bx.lt (h : Bx w g cs t) : g < w.heap.size := by
  rcases Nat.lt_or_ge g w.heap.size with hlt | hge
  · exact hlt
  · have h' : w.heap[g]? = _ := h
    rw [Array.getElem?_eq_none hge] at h'; cases h'
theorem Bx.below (h : Bx w g cs t) (hb : Below w.heap.size w w') : Bx w' g cs t := (hb.block g h.lt).trans h
theorem Bx.below' {B : Nat} (h : Bx w g cs t) (hb : Below B w w') (hg : g < B) : Bx w' g cs t := (hb.block g hg).trans h
theorem Bx.alloc (h : Bx w g cs t) (o : Obj) : Bx (w.alloc o) g cs t := (Below.heap_alloc w o g h.lt).trans h
theorem Bx.other (h : Bx w g cs t) {a : Addr} (ha : g ≠ a.block) (u : Value) : Bx (w.setCell a u) g cs t := (Below.heap_setCell w a u g ha).trans h
end
end Go.Proofs.YtfkhfjefddgkoaaDoor.Cod

namespace Go.Proofs.YtfkhfjefddgkoaaDoor.Cod
open Go.RowKit

abbrev regsV (a b c : Int) : Value := .agg #[.int .i64 a, .int .i64 b, .int .i64 c]
abbrev shpV (s : Shp) : Value := .agg #[str s.name, .int .i64 s.regs, .bool s.num]

theorem registers_any (i : Ins) (w : World) :
    Calls Tryd.prog 107 #[insV i] w fun e w' => e = .returned (regsV i.a i.b i.c) ∧ Below w.heap.size w w' := by
  go_enter Tryd.func107, Tryd.ntmps107
  go_wp2_with fail
  exact bodyPost_ret (v := regsV i.a i.b i.c) (by simp [results, Tryd.results107, go_sem]) rfl ⟨rfl, ((Below.refl _ _).alloc (Nat.le_refl _) _).alloc (by simp) _⟩

theorem takesNum_any (s : Shp) (n : Int) (w : World) :
    Calls Tryd.prog 108 #[shpV s, .int .i64 n] w fun e w' => e = .returned (.bool (numOk s.num n)) ∧ Below w.heap.size w w' := by
  have hb := (Below.refl w.heap.size w).alloc (Nat.le_refl _) (.cells #[str s.name, .int .i64 s.regs, .bool s.num] 156)
  cases hn : s.num
  all_goals
    rw [hn] at hb
    go_enter Tryd.func108, Tryd.ntmps108
    go_wp2
  all_goals
    go_ret
    refine ⟨?_, hb⟩
    refine congrArg (fun b => Ending.returned (Value.bool b)) ?_
    rw [Bool.eq_iff_iff]
    simp [numOk]
    try omega

theorem run_sizeOf_int (w : World) : (sizeOf 3).run Tryd.prog w = .ok 1 w := by
  have h : (Tryd.prog.info? 3).map (·.size) = some 1 := by kernel_rfl
  cases hq : Tryd.prog.info? 3 with
  | none => simp [hq] at h
  | some i => simp [sizeOf, typeInfo, hq]; simpa [hq] using h
theorem index_regs (a b c : Int) (w : World) :
    (Instr.index 159 (regsV a b c) (.int .i64 0)).run Tryd.prog w = .ok (.int .i64 a) w ∧ (Instr.index 159 (regsV a b c) (.int .i64 1)).run Tryd.prog w = .ok (.int .i64 b) w ∧ (Instr.index 159 (regsV a b c) (.int .i64 2)).run Tryd.prog w = .ok (.int .i64 c) w := by
  have h0 := run_part_plain (P := Tryd.prog) (e := 3) (by kernel_rfl) (w := w) (xs := #[.int .i64 a, .int .i64 b, .int .i64 c]) (off := 0) (v := .int .i64 a) rfl
  have h1 := run_part_plain (P := Tryd.prog) (e := 3) (by kernel_rfl) (w := w) (xs := #[.int .i64 a, .int .i64 b, .int .i64 c]) (off := 1) (v := .int .i64 b) rfl
  have h2 := run_part_plain (P := Tryd.prog) (e := 3) (by kernel_rfl) (w := w) (xs := #[.int .i64 a, .int .i64 b, .int .i64 c]) (off := 2) (v := .int .i64 c) rfl
  have hs := run_sizeOf_int (w := w)
  refine ⟨?_, ?_, ?_⟩
  all_goals simp [Instr.index, asIntOf, Sem.run_bind, run_underlying Tryd.underlying159, hs, h0, h1, h2]

/-- Where the registers' loop stands. -/
def RegIn (r : Nat) (a b c : Int) (i : Value) : Prop :=
  i = .int .i64 0 ∨ (i = .int .i64 1 ∧ regOk (decide (0 < r)) a = true) ∨ (i = .int .i64 2 ∧ regOk (decide (0 < r)) a = true ∧ regOk (decide (1 < r)) b = true) ∨ (i = .int .i64 3 ∧ regOk (decide (0 < r)) a = true ∧ regOk (decide (1 < r)) b = true ∧ regOk (decide (2 < r)) c = true)
theorem RegIn.to1 {r : Nat} {a b c : Int} (h : regOk (decide (0 < r)) a = true) : RegIn r a b c (.int .i64 1) := Or.inr (Or.inl ⟨rfl, h⟩)
theorem RegIn.to2 {r : Nat} {a b c : Int} (h : regOk (decide (0 < r)) a = true) (h1 : regOk (decide (1 < r)) b = true) : RegIn r a b c (.int .i64 2) := Or.inr (Or.inr (Or.inl ⟨rfl, h, h1⟩))
theorem RegIn.to3 {r : Nat} {a b c : Int} (h : regOk (decide (0 < r)) a = true) (h1 : regOk (decide (1 < r)) b = true) (h2 : regOk (decide (2 < r)) c = true) : RegIn r a b c (.int .i64 3) := Or.inr (Or.inr (Or.inr ⟨rfl, h, h1, h2⟩))
theorem reg_cases (a : Int) : (a = 0) ∨ ((a != 0) = true ∧ (a < 0) ∧ decide (a < 0) = true ∧ ∀ k, regOk k a = false) ∨ ((a != 0) = true ∧ ¬ a < 0 ∧ decide (a < 0) = false ∧ 16 ≤ a ∧ decide (16 ≤ a) = true ∧ ∀ k, regOk k a = false) ∨ ((a != 0) = true ∧ ¬ a < 0 ∧ decide (a < 0) = false ∧ ¬ 16 ≤ a ∧ decide (16 ≤ a) = false ∧ ∀ k, regOk k a = k) := by
  rcases (by omega : a < 0 ∨ 16 ≤ a ∨ a = 0 ∨ (0 < a ∧ a < 16)) with h | h | h | h
  · refine .inr (.inl ⟨by simp; omega, h, by simp; omega, fun k => ?_⟩)
    have : ¬ 0 ≤ a := by omega
    simp [regOk, this]
  · refine .inr (.inr (.inl ⟨by simp; omega, by omega, by simp; omega, h, by simp; omega, fun k => ?_⟩))
    have : ¬ a < 16 := by omega
    simp [regOk, this]
  · exact .inl h
  · refine .inr (.inr (.inr ⟨by simp; omega, by omega, by simp; omega, by omega, by simp; omega, fun k => ?_⟩))
    have h1 : 0 ≤ a := by omega
    have h2 : ¬ a = 0 := by omega
    simp [regOk, h.2, h1, h2]
theorem regOk_zero (k : Bool) : regOk k 0 = true := by simp [regOk]
set_option maxHeartbeats 4000000 in
set_option maxRecDepth 100000 in
theorem takesRegs_k (nm : Str) (r : Nat) (m : Bool) (hr : r ≤ 3) (a b c : Int) (w : World) :
    Calls Tryd.prog 106 #[shpV ⟨nm, r, m⟩, regsV a b c] w fun e w' => e = .returned (.bool (regsOk r a b c)) ∧ Below w.heap.size w w' := by
  have HB := Lib.hid (show Below w.heap.size w ((w.alloc (.cells #[str nm, .int .i64 r, .bool m] 156)).alloc (.cells #[.int .i64 a, .int .i64 b, .int .i64 c] 159)) from ((Below.refl w.heap.size w).alloc (Nat.le_refl _) _).alloc (by simp) _)
  have HR : Hid (regsOk r a b c = (regOk (decide (0 < r)) a && (regOk (decide (1 < r)) b && regOk (decide (2 < r)) c))) := Lib.hid rfl
  have i0 := fun w' => (index_regs a b c w').1
  have i1 := fun w' => (index_regs a b c w').2.1
  have i2 := fun w' => (index_regs a b c w').2.2
  generalize regsOk r a b c = R at *
  obtain ⟨ri, hri⟩ : ∃ ri, ri = r := ⟨_, rfl⟩
  have HRI := Lib.hid hri
  clear hri
  obtain rfl | rfl | rfl | rfl : r = 0 ∨ r = 1 ∨ r = 2 ∨ r = 3 := by omega
  all_goals
    clear hr
    go_enter Tryd.func106, Tryd.ntmps106
    go_wp2_with fail
    go_loop [9] (fun i => RegIn ri a b c i) (fun i => 3 - (intOf i).toNat)
    case atStart => exact Or.inl rfl
    case round =>
     obtain rfl | ⟨rfl, hp⟩ | ⟨rfl, hp, hq⟩ | ⟨rfl, hp, hq, hr⟩ := hrel
     · rcases reg_cases a with rfl | ⟨e0, e1, e2, hv⟩ | ⟨e0, e1, e2, e3, e4, hv⟩ | ⟨e0, e1, e2, e3, e4, hv⟩
       · go_wp2
         exact ⟨RegIn.to1 (regOk_zero _), by simp [intOf]⟩
       · have HV := Lib.hid hv
         clear hv
         go_wp2
         go_ret
         exact ⟨by rw [HR.out, HV.out]; simp, HB.out⟩
       · have HV := Lib.hid hv
         clear hv
         go_wp2
         go_ret
         exact ⟨by rw [HR.out, HV.out]; simp, HB.out⟩
       · have HV := Lib.hid hv
         clear hv
         go_wp2
         all_goals (first
           | exact ⟨RegIn.to1 ((HV.out _).trans (by rw [HRI.out]; decide)), by simp [intOf]⟩
           | (go_ret; exact ⟨by rw [HR.out, HV.out]; simp, HB.out⟩))
     · have HP := Lib.hid hp
       clear hp
       rcases reg_cases b with rfl | ⟨e0, e1, e2, hv⟩ | ⟨e0, e1, e2, e3, e4, hv⟩ | ⟨e0, e1, e2, e3, e4, hv⟩
       · go_wp2
         exact ⟨RegIn.to2 HP.out (regOk_zero _), by simp [intOf]⟩
       · have HV := Lib.hid hv
         clear hv
         go_wp2
         go_ret
         exact ⟨by rw [HR.out, HV.out]; simp, HB.out⟩
       · have HV := Lib.hid hv
         clear hv
         go_wp2
         go_ret
         exact ⟨by rw [HR.out, HV.out]; simp, HB.out⟩
       · have HV := Lib.hid hv
         clear hv
         go_wp2
         all_goals (first
           | exact ⟨RegIn.to2 HP.out ((HV.out _).trans (by rw [HRI.out]; decide)), by simp [intOf]⟩
           | (go_ret; exact ⟨by rw [HR.out, HV.out]; simp, HB.out⟩))
     · have HP := Lib.hid (And.intro hp hq)
       clear hp hq
       rcases reg_cases c with rfl | ⟨e0, e1, e2, hv⟩ | ⟨e0, e1, e2, e3, e4, hv⟩ | ⟨e0, e1, e2, e3, e4, hv⟩
       · go_wp2
         exact ⟨RegIn.to3 HP.out.1 HP.out.2 (regOk_zero _), by simp [intOf]⟩
       · have HV := Lib.hid hv
         clear hv
         go_wp2
         go_ret
         exact ⟨by rw [HR.out, HV.out]; simp, HB.out⟩
       · have HV := Lib.hid hv
         clear hv
         go_wp2
         go_ret
         exact ⟨by rw [HR.out, HV.out]; simp, HB.out⟩
       · have HV := Lib.hid hv
         clear hv
         go_wp2
         all_goals (first
           | exact ⟨RegIn.to3 HP.out.1 HP.out.2 ((HV.out _).trans (by rw [HRI.out]; decide)), by simp [intOf]⟩
           | (go_ret; exact ⟨by rw [HR.out, HV.out]; simp, HB.out⟩))
     · have hrr : R = true := by
         have hri := HRI.out
         rw [hri] at hp hq hr
         rw [HR.out, hp, hq, hr]
         rfl
       have HRR := Lib.hid hrr
       clear hp hq hr hrr
       go_wp2
       all_goals (first
        | (exfalso; omega)
        | (go_ret; exact ⟨by rw [HRR.out]; rfl, HB.out⟩))
theorem takesRegs_any (s : Shp) (hs : s.regs ≤ 3) (a b c : Int) (w : World) :
    Calls Tryd.prog 106 #[shpV s, regsV a b c] w fun e w' => e = .returned (.bool (regsOk s.regs a b c)) ∧ Below w.heap.size w w' := takesRegs_k s.name s.regs s.num hs a b c w

theorem may_out (i : Ins) (hi : i.op < 0 ∨ 23 ≤ i.op) (w : World) :
    Calls Tryd.prog 102 #[insV i] w fun e w' => e = .returned (.int .i64 40) ∧ Below w.heap.size w w' := by
  go_enter Tryd.func102, Tryd.ntmps102
  go_wp2_with fail
  all_goals (first
    | (go_ret; exact ⟨rfl, (Below.refl _ _).alloc (Nat.le_refl _) _⟩)
    | (exfalso; omega))
end Go.Proofs.YtfkhfjefddgkoaaDoor.Cod

namespace Go.Proofs.YtfkhfjefddgkoaaDoor.Cod
open Go.RowKit

/-- An instruction's box and its shape's. -/
def MayAt (w0 w : World) (i : Ins) (s : Shp) : Prop :=
  Below w0.heap.size w0 w ∧ Bx w w0.heap.size #[.int .i64 i.op, .int .i64 i.a, .int .i64 i.b, .int .i64 i.c, .int .i64 i.n] 51 ∧ Bx w (w0.heap.size + 1) #[str s.name, .int .i64 s.regs, .bool s.num] 156
theorem MayAt.on {w0 w w' : World} {i : Ins} {s : Shp} (h : MayAt w0 w i s) (hb : Below w.heap.size w w') : MayAt w0 w' i s :=
  ⟨h.1.trans (hb.mono h.1.size), h.2.1.below hb, h.2.2.below hb⟩

theorem MayAt.cells {w0 w : World} {i : Ins} {s : Shp} (h : MayAt w0 w i s) : w.cell? ⟨w0.heap.size, 0, none⟩ = some (.int .i64 i.op) ∧ w.cell? ⟨w0.heap.size, 1, none⟩ = some (.int .i64 i.a) ∧ w.cell? ⟨w0.heap.size, 2, none⟩ = some (.int .i64 i.b) ∧ w.cell? ⟨w0.heap.size, 3, none⟩ = some (.int .i64 i.c) ∧ w.cell? ⟨w0.heap.size, 4, none⟩ = some (.int .i64 i.n) ∧
    w.cell? ⟨w0.heap.size + 1, 0, none⟩ = some (str s.name) ∧ w.cell? ⟨w0.heap.size + 1, 1, none⟩ = some (.int .i64 s.regs) ∧ w.cell? ⟨w0.heap.size + 1, 2, none⟩ = some (.bool s.num) :=
  ⟨h.2.1.c 0, h.2.1.c 1, h.2.1.c 2, h.2.1.c 3, h.2.1.c 4, h.2.2.c 0, h.2.2.c 1, h.2.2.c 2⟩

set_option maxHeartbeats 4000000 in
set_option maxRecDepth 100000 in
theorem may_in (i : Ins) (k : Nat) (hk : k < 23) (hop : i.op = k) (w : World) (hs : Shps w) :
    Calls Tryd.prog 102 #[insV i] w fun e w' => e = .returned (.int .i64 (if mayB i then 0 else 40)) ∧ Below w.heap.size w w' := by
  have hm : mayB i = (regsOk (shapes[k]'hk).regs i.a i.b i.c && numOk (shapes[k]'hk).num i.n) := by
    rw [mayB, hop, shapeOf_in k hk]
  have hr := shapes_regs k hk
  obtain ⟨c0, c1, c2⟩ := hs.at_ k hk
  generalize hsq : shapes[k]'hk = s at *
  clear hsq
  obtain ⟨op, a, b, c, n⟩ := i
  simp only at hop
  subst hop
  have d0 := cell_alloc c0 (.cells #[.int .i64 (k : Int), .int .i64 a, .int .i64 b, .int .i64 c, .int .i64 n] 51)
  have d1 := cell_alloc c1 (.cells #[.int .i64 (k : Int), .int .i64 a, .int .i64 b, .int .i64 c, .int .i64 n] 51)
  have d2 := cell_alloc c2 (.cells #[.int .i64 (k : Int), .int .i64 a, .int .i64 b, .int .i64 c, .int .i64 n] 51)
  have h0 : (k : Int) < 23 := by omega
  have hM : MayAt w ((w.alloc (.cells #[.int .i64 (k : Int), .int .i64 a, .int .i64 b, .int .i64 c, .int .i64 n] 51)).alloc (.cells #[str s.name, .int .i64 s.regs, .bool s.num] 156)) ⟨k, a, b, c, n⟩ s :=
    ⟨((Below.refl w.heap.size w).alloc (Nat.le_refl _) _).alloc (by simp) _, (Bx.new w _ _).alloc _, by simpa using Bx.new (w.alloc (.cells #[.int .i64 (k : Int), .int .i64 a, .int .i64 b, .int .i64 c, .int .i64 n] 51)) #[str s.name, .int .i64 s.regs, .bool s.num] 156⟩
  have HD := Lib.hid (hM.on (drew_below _))
  have HC := Lib.hid (hM.on (drew_below _)).cells
  have HK1 := Lib.hid (fun (w1 : World) (h : MayAt w w1 ⟨k, a, b, c, n⟩ s) => (registers_any ⟨k, a, b, c, n⟩ w1).mono (R' := fun e w' => e = .returned (regsV a b c) ∧ MayAt w w' ⟨k, a, b, c, n⟩ s ∧ _) (fun e w' h2 => ⟨h2.1, h.on h2.2, (h.on h2.2).cells⟩))
  have HK2 := Lib.hid (fun (w1 : World) (h : MayAt w w1 ⟨k, a, b, c, n⟩ s) => (takesRegs_any s hr a b c w1).mono (R' := fun e w' => e = .returned (.bool (regsOk s.regs a b c)) ∧ MayAt w w' ⟨k, a, b, c, n⟩ s ∧ _) (fun e w' h2 => ⟨h2.1, h.on h2.2, (h.on h2.2).cells⟩))
  have HK3 := Lib.hid (fun (w1 : World) (h : MayAt w w1 ⟨k, a, b, c, n⟩ s) => (takesNum_any s n w1).mono (R' := fun e w' => e = .returned (.bool (numOk s.num n)) ∧ MayAt w w' ⟨k, a, b, c, n⟩ s ∧ _) (fun e w' h2 => ⟨h2.1, h.on h2.2, (h.on h2.2).cells⟩))
  have HM := Lib.hid hm
  clear hm hr hs
  simp only at HM
  generalize hRR : (if mayB ⟨(k : Int), a, b, c, n⟩ = true then (0 : Int) else 40) = RR
  have HRR := Lib.hid hRR
  clear hRR
  cases hq1 : regsOk s.regs a b c
  · rw [hq1] at HK2 HM
    have HM := Lib.hid (show RR = 40 by rw [← HRR.out, HM.out]; rfl)
    clear HRR
    have HC2 := Lib.hid hM.cells
    clear HK3 HC hM
    go_enter Tryd.func102, Tryd.ntmps102
    go_wp2_with fail
    generalize (w.alloc (.cells #[.int .i64 (k : Int), .int .i64 a, .int .i64 b, .int .i64 c, .int .i64 n] 51)).alloc (.cells #[str s.name, .int .i64 s.regs, .bool s.num] 156) = w2 at *
    obtain ⟨q0, q1, q2, q3, q4, q5, q6, q7⟩ := HC2.out
    clear d0 d1 d2 c0 c1 c2 HC2
    first | (go_region_with (first
      | (go_at_call 107; refine (HK1.out _ HD.out).mono ?_; rintro e w9 ⟨rfl, ht9, p0, p1, p2, p3, p4, p5, p6, p7⟩; have HT9 := Lib.hid ht9; clear ht9)
      | (go_at_call 106; refine (HK2.out _ HT9.out).mono ?_; rintro e w10 ⟨rfl, ht10, r0, r1, r2, r3, r4, r5, r6, r7⟩; have HT10 := Lib.hid ht10; clear ht10))) | (fail)
    all_goals
      go_wp2
      go_ret
      exact ⟨by rw [HM.out]; rfl, HT10.out.1⟩
  · clear hM
    rw [hq1] at HK2 HM
    cases hq2 : numOk s.num n
    all_goals
      rw [hq2] at HM HK3
      have HM := Lib.hid (show RR = _ by rw [← HRR.out, HM.out])
      clear HRR
      go_enter Tryd.func102, Tryd.ntmps102
      go_wp2_with fail
      generalize (w.alloc (.cells #[.int .i64 (k : Int), .int .i64 a, .int .i64 b, .int .i64 c, .int .i64 n] 51)).alloc (.cells #[str s.name, .int .i64 s.regs, .bool s.num] 156) = w2 at *
      obtain ⟨q0, q1, q2, q3, q4, q5, q6, q7⟩ := HC.out
      clear d0 d1 d2 c0 c1 c2 HC
      go_region_held3 (fun w' => w'.cell? ⟨w.heap.size, 0, none⟩ = some (.int .i64 (k : Int)) ∧ w'.cell? ⟨w.heap.size, 1, none⟩ = some (.int .i64 a) ∧ w'.cell? ⟨w.heap.size, 2, none⟩ = some (.int .i64 b) ∧ w'.cell? ⟨w.heap.size, 3, none⟩ = some (.int .i64 c) ∧ w'.cell? ⟨w.heap.size, 4, none⟩ = some (.int .i64 n) ∧ w'.cell? ⟨w.heap.size + 1, 0, none⟩ = some (str s.name) ∧ w'.cell? ⟨w.heap.size + 1, 1, none⟩ = some (.int .i64 s.regs) ∧ w'.cell? ⟨w.heap.size + 1, 2, none⟩ = some (.bool s.num)) (first | (exact ⟨by assumption, by assumption, by assumption, by assumption, by assumption, by assumption, by assumption, by assumption⟩) | go_keep) (first
        | (go_at_call 107; with_reducible refine (HK1.out _ HD.out).mono ?_; rintro e w9 ⟨rfl, ht9, p0, p1, p2, p3, p4, p5, p6, p7⟩; have HT9 := Lib.hid ht9; clear ht9)
        | (go_at_call 106; with_reducible refine (HK2.out _ HT9.out).mono ?_; rintro e w10 ⟨rfl, ht10, r0, r1, r2, r3, r4, r5, r6, r7⟩; have HT10 := Lib.hid ht10; clear ht10)
        | (go_at_call 108; with_reducible refine (HK3.out _ HT10.out).mono ?_; rintro e w11 ⟨rfl, ht11, s0, s1, s2, s3, s4, s5, s6, s7⟩; have HT11 := Lib.hid ht11; clear ht11))
    all_goals
      go_wp2
      go_ret
      exact ⟨by rw [HM.out]; rfl, HT11.out.1⟩
end Go.Proofs.YtfkhfjefddgkoaaDoor.Cod
