/-
  Instructions: which may be, their bytes and their lines, as plain functions; the table of their names in memory.
-/
import Derived.Test.YtoebboimdkogpaaDoorCom
import Derived.Test.YtoebboimdkogpaaDoorSh
import Derived.Laws.Strings3
import Derived.IntWalk
import Derived.Deep.MidRow
import Derived.Lib.AppendIntMem
namespace Go.Proofs.YtoebboimdkogpaaDoor
open Go.RowKit

abbrev Str := List UInt8
/-- A text. -/
abbrev str (l : Str) : Value := .string ⟨l.toArray⟩
theorem str_of (s : ByteArray) : Value.string s = str s.data.toList := by rw [str, Lib.mk_data]
/-- An int. -/
def I64 (n : Int) : Prop := -9223372036854775808 ≤ n ∧ n ≤ 9223372036854775807

/-- An instruction. -/
structure Ins where
  op : Int
  a : Int
  b : Int
  c : Int
  n : Int
theorem Ins.ext' {i j : Ins} (h0 : i.op = j.op) (h1 : i.a = j.a) (h2 : i.b = j.b) (h3 : i.c = j.c) (h4 : i.n = j.n) : i = j := by
  cases i; cases j; simp at *; exact ⟨h0, h1, h2, h3, h4⟩
abbrev insC (i : Ins) : List Value := [.int .i64 i.op, .int .i64 i.a, .int .i64 i.b, .int .i64 i.c, .int .i64 i.n]
abbrev insV (i : Ins) : Value := .agg #[.int .i64 i.op, .int .i64 i.a, .int .i64 i.b, .int .i64 i.c, .int .i64 i.n]
structure Ins.ok (i : Ins) : Prop where
  op : I64 i.op
  a : I64 i.a
  b : I64 i.b
  c : I64 i.c
  n : I64 i.n

/-- A name, the number of registers behind it, and whether a number follows. -/
structure Shp where
  name : Str
  regs : Nat
  num : Bool
def shapes : List Shp := [
  ⟨[104, 97, 108, 116], 0, false⟩,
  ⟨[109, 111, 118, 105], 1, true⟩,
  ⟨[109, 111, 118], 2, false⟩,
  ⟨[97, 100, 100], 3, false⟩,
  ⟨[115, 117, 98], 3, false⟩,
  ⟨[109, 117, 108], 3, false⟩,
  ⟨[100, 105, 118], 3, false⟩,
  ⟨[108, 101, 115, 115], 3, false⟩,
  ⟨[115, 97, 109, 101], 3, false⟩,
  ⟨[108, 100], 2, true⟩,
  ⟨[115, 116], 2, true⟩,
  ⟨[108, 100, 112], 1, true⟩,
  ⟨[108, 101, 97], 1, true⟩,
  ⟨[106, 109, 112], 0, true⟩,
  ⟨[106, 122], 1, true⟩,
  ⟨[99, 97, 108, 108], 0, true⟩,
  ⟨[99, 97, 108, 108, 114], 1, false⟩,
  ⟨[106, 109, 112, 114], 1, false⟩,
  ⟨[114, 101, 116], 0, false⟩,
  ⟨[111, 117, 116], 1, false⟩,
  ⟨[116, 112], 1, false⟩,
  ⟨[116, 108, 115], 2, false⟩,
  ⟨[98, 105, 110, 100], 0, true⟩]
theorem shapes_len : shapes.length = 23 := rfl
def shapeOf (op : Int) : Option Shp := if 0 ≤ op then shapes[op.toNat]? else none
def regOk (isOp : Bool) (r : Int) : Bool := (isOp || r == 0) && (decide (0 ≤ r) && decide (r < 16))
def regsOk (k : Nat) (a b c : Int) : Bool := regOk (decide (0 < k)) a && (regOk (decide (1 < k)) b && regOk (decide (2 < k)) c)
def numOk (num : Bool) (n : Int) : Bool := if num then decide (-2147483648 ≤ n) && decide (n ≤ 2147483647) else n == 0
def mayB (i : Ins) : Bool := match shapeOf i.op with
  | none => false
  | some s => regsOk s.regs i.a i.b i.c && numOk s.num i.n
theorem shapeOf_in (k : Nat) (hk : k < 23) : shapeOf (k : Int) = some (shapes[k]'hk) := by
  rw [shapeOf, if_pos (by omega), Int.toNat_natCast]
  exact List.getElem?_eq_getElem (show k < shapes.length from hk)
theorem shapeOf_out {op : Int} (h : op < 0 ∨ 23 ≤ op) : shapeOf op = none := by
  unfold shapeOf
  split
  · rw [List.getElem?_eq_none]
    rw [shapes_len]
    omega
  · rfl
theorem shapeOf_some {op : Int} {s : Shp} (h : shapeOf op = some s) : ∃ (k : Nat) (hk : k < 23), op = k ∧ s = shapes[k]'hk := by
  by_cases ho : op < 0 ∨ 23 ≤ op
  · rw [shapeOf_out ho] at h; cases h
  · refine ⟨op.toNat, by omega, by omega, ?_⟩
    have := shapeOf_in op.toNat (by omega)
    rw [show ((op.toNat : Nat) : Int) = op by omega, h] at this
    exact Option.some.inj this

/-! The table in memory. -/
def shC : List Value := shapes.flatMap fun s => [str s.name, .int .i64 s.regs, .bool s.num]
def Shps (w : World) : Prop := ∀ j v, shC[j]? = some v → w.cell? ⟨0, j, none⟩ = some v
theorem shC_at : ∀ (k : Nat) (hk : k < 23), shC[k * 3]? = some (str (shapes[k]'hk).name) ∧ shC[k * 3 + 1]? = some (.int .i64 (shapes[k]'hk).regs) ∧ shC[k * 3 + 2]? = some (.bool (shapes[k]'hk).num)
  | 0, _ => ⟨rfl, rfl, rfl⟩
  | 1, _ => ⟨rfl, rfl, rfl⟩
  | 2, _ => ⟨rfl, rfl, rfl⟩
  | 3, _ => ⟨rfl, rfl, rfl⟩
  | 4, _ => ⟨rfl, rfl, rfl⟩
  | 5, _ => ⟨rfl, rfl, rfl⟩
  | 6, _ => ⟨rfl, rfl, rfl⟩
  | 7, _ => ⟨rfl, rfl, rfl⟩
  | 8, _ => ⟨rfl, rfl, rfl⟩
  | 9, _ => ⟨rfl, rfl, rfl⟩
  | 10, _ => ⟨rfl, rfl, rfl⟩
  | 11, _ => ⟨rfl, rfl, rfl⟩
  | 12, _ => ⟨rfl, rfl, rfl⟩
  | 13, _ => ⟨rfl, rfl, rfl⟩
  | 14, _ => ⟨rfl, rfl, rfl⟩
  | 15, _ => ⟨rfl, rfl, rfl⟩
  | 16, _ => ⟨rfl, rfl, rfl⟩
  | 17, _ => ⟨rfl, rfl, rfl⟩
  | 18, _ => ⟨rfl, rfl, rfl⟩
  | 19, _ => ⟨rfl, rfl, rfl⟩
  | 20, _ => ⟨rfl, rfl, rfl⟩
  | 21, _ => ⟨rfl, rfl, rfl⟩
  | 22, _ => ⟨rfl, rfl, rfl⟩
  | n + 23, h => absurd h (by omega)
theorem Shps.at_ {w : World} (h : Shps w) (k : Nat) (hk : k < 23) : w.cell? ⟨0, k * 3, none⟩ = some (str (shapes[k]'hk).name) ∧ w.cell? ⟨0, k * 3 + 1, none⟩ = some (.int .i64 (shapes[k]'hk).regs) ∧ w.cell? ⟨0, k * 3 + 2, none⟩ = some (.bool (shapes[k]'hk).num) :=
  ⟨h _ _ (shC_at k hk).1, h _ _ (shC_at k hk).2.1, h _ _ (shC_at k hk).2.2⟩
theorem Shps.pos {w : World} (h : Shps w) : 0 < w.heap.size := World.block_lt_of_cell? w _ (h.at_ 0 (by omega)).1
theorem Shps.keep {w w' : World} (h : Shps w) (hk : ∀ k, k < w.heap.size → w'.heap[k]? = w.heap[k]?) : Shps w' := fun j v hv => by
  have h1 := h j v hv
  rw [World.cell?_of_block (hk _ (World.block_lt_of_cell? w _ h1))]
  exact h1
theorem Shps.below {w w' : World} (h : Shps w) (hb : Below w.heap.size w w') : Shps w' := h.keep fun k hk => hb.block k hk
theorem shapes_regs : ∀ (k : Nat) (hk : k < 23), (shapes[k]'hk).regs ≤ 3 := by decide

/-! Below. -/
theorem cell_below {w w' : World} (hb : Below w.heap.size w w') {a : Addr} {u : Value} (h : w.cell? a = some u) : w'.cell? a = some u := (hb.cell (World.block_lt_of_cell? w _ h)).trans h
theorem cell_alloc {w : World} {a : Addr} {u : Value} (h : w.cell? a = some u) (o : Obj) : (w.alloc o).cell? a = some u := by
  rw [World.cell?_alloc_lt w _ _ (World.block_lt_of_cell? w _ h)]; exact h
theorem plainAdd (b o k : Nat) : (⟨b, o, none⟩ : Addr).add k = ⟨b, o + k, none⟩ := by unfold Addr.add; split <;> simp_all

/-- A block that holds just these cells. -/
def Bx (w : World) (g : Nat) (cs : Array Value) (t : TypeId) : Prop := w.heap[g]? = some (.cells cs t (0, 0))
section
variable {w w' : World} {g : Nat} {cs : Array Value} {t : TypeId}
theorem Bx.new (w : World) (cs : Array Value) (t : TypeId) : Bx (w.alloc (.cells cs t)) w.heap.size cs t := heap_alloc_new _ _
theorem Bx.c (h : Bx w g cs t) (j : Nat) : w.cell? ⟨g, j, none⟩ = cs[j]? := cell_of_row w g j _ _ _ h
theorem Bx.f (h : Bx w g cs t) (j : Nat) : w.frozen? ⟨g, j, none⟩ = false := frozen_of_row w g j _ _ h
theorem Bx.lt (h : Bx w g cs t) : g < w.heap.size := by
  rcases Nat.lt_or_ge g w.heap.size with hlt | hge
  · exact hlt
  · have h' : w.heap[g]? = _ := h
    rw [Array.getElem?_eq_none hge] at h'; cases h'
theorem Bx.below (h : Bx w g cs t) (hb : Below w.heap.size w w') : Bx w' g cs t := (hb.block g h.lt).trans h
theorem Bx.below' {B : Nat} (h : Bx w g cs t) (hb : Below B w w') (hg : g < B) : Bx w' g cs t := (hb.block g hg).trans h
theorem Bx.alloc (h : Bx w g cs t) (o : Obj) : Bx (w.alloc o) g cs t := (Below.heap_alloc w o g h.lt).trans h
theorem Bx.other (h : Bx w g cs t) {a : Addr} (ha : g ≠ a.block) (u : Value) : Bx (w.setCell a u) g cs t := (Below.heap_setCell w a u g ha).trans h
end
end Go.Proofs.YtoebboimdkogpaaDoor
