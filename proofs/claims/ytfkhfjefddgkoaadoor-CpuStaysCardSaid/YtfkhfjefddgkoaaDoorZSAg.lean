/-
  The machine as plain functions: contexts, events, what an instruction does; a machine in memory.
  The machine's small functions: trap, rest, oneIf, calculate.
  What register A becomes: value.
  One space behind a law's beginning; the document's examples.
-/
import Derived.Test.YtfkhfjefddgkoaaDoorZSAf
import Derived.Test.YtfkhfjefddgkoaaDoorZKJ
import Derived.Deep.RegionHeld3
import Derived.Deep.QuietTactic
namespace Go.Proofs.YtfkhfjefddgkoaaDoor
open Go.RowKit

abbrev Ins := Cod.Ins
/-- A context: the registers are sixteen. -/
structure Cx where
  pc : Int
  tp : Int
  rs : List Int
/-- An event. -/
structure Ev where
  kind : Int
  n : Int
  a : Int
  b : Int
  fault : Int
abbrev evA (e : Ev) : Array Value := #[.int .i64 e.kind, .int .i64 e.n, .int .i64 e.a, .int .i64 e.b, .int .i64 e.fault]
def ints (l : List Int) : List Value := l.map fun i => .int .i64 i
theorem ints_len (l : List Int) : (ints l).length = l.length := by simp [ints]
def cxC (c : Cx) : List Value := .int .i64 c.pc :: .int .i64 c.tp :: ints c.rs
def mcC (c : Cx) (s : Nat) : List Value := .int .i64 c.pc :: .int .i64 c.tp :: (ints c.rs ++ [.pointer (some ⟨s, 0, none⟩)])
def Cx.reg (c : Cx) (a : Int) : Int := c.rs.getD a.toNat 0
def Cx.put (c : Cx) (a v : Int) : Cx := { c with rs := c.rs.set a.toNat v }
def Cx.to (c : Cx) (v : Int) : Cx := { c with pc := v }
abbrev w64 (i : Int) : Int := wrap64 i
/-- A machine in memory. -/
structure Mc (w : World) (g : Nat) (c : Cx) (s : Nat) : Prop where
  bx : Bx w g (mcC c s).toArray 71
  len : c.rs.length = 16
section
variable {w w' : World} {g s : Nat} {c : Cx}
theorem Mc.keep (h : Mc w g c s) (hk : w'.heap[g]? = w.heap[g]?) : Mc w' g c s := ⟨hk.trans h.bx, h.len⟩
theorem Mc.below (h : Mc w g c s) (hb : Below w.heap.size w w') : Mc w' g c s := ⟨h.bx.below hb, h.len⟩
theorem Mc.beside {p : Nat → Prop} (h : Mc w g c s) (hb : Beside w w' p) (hn : ¬ p g) : Mc w' g c s := ⟨h.bx.beside hb hn, h.len⟩
theorem Mc.pc (h : Mc w g c s) : w.cell? ⟨g, 0, none⟩ = some (.int .i64 c.pc) := h.bx.c 0
theorem Mc.tp (h : Mc w g c s) : w.cell? ⟨g, 1, none⟩ = some (.int .i64 c.tp) := h.bx.c 1
theorem Mc.at_ (h : Mc w g c s) (a : Nat) (ha : a < 16) : w.cell? ⟨g, 2 + a, none⟩ = some (.int .i64 (c.reg (a : Int))) := by
  rw [h.bx.c (2 + a)]
  have hl : a < c.rs.length := by rw [h.len]; exact ha
  rw [List.getElem?_toArray, mcC, show 2 + a = a + 1 + 1 by omega, List.getElem?_cons_succ, List.getElem?_cons_succ, List.getElem?_append_left (by rw [ints_len]; exact hl)]
  simp [ints, Cx.reg, hl]
theorem Mc.space (h : Mc w g c s) : w.cell? ⟨g, 18, none⟩ = some (.pointer (some ⟨s, 0, none⟩)) := by
  rw [h.bx.c 18, List.getElem?_toArray, mcC, List.getElem?_cons_succ, List.getElem?_cons_succ, List.getElem?_append_right (by rw [ints_len, h.len]; omega)]
  simp [ints_len, h.len]
theorem Mc.fro (h : Mc w g c s) (j : Nat) : w.frozen? ⟨g, j, none⟩ = false := h.bx.f j
theorem Mc.jump (h : Mc w g c s) (v : Int) : Mc (w.setCell ⟨g, 0, none⟩ (.int .i64 v)) g (c.to v) s := ⟨heap_setCell_same w g 0 _ _ (.int .i64 v) h.bx, h.len⟩
theorem Mc.set (h : Mc w g c s) (a : Nat) (ha : a < 16) (v : Int) : Mc (w.setCell ⟨g, 2 + a, none⟩ (.int .i64 v)) g (c.put (a : Int) v) s := by
  refine ⟨?_, by simp [Cx.put, h.len]⟩
  have h1 := heap_setCell_same w g (2 + a) _ _ (.int .i64 v) h.bx
  have e : (mcC c s).toArray.setIfInBounds (2 + a) (.int .i64 v) = (mcC (c.put (a : Int) v) s).toArray := by
    have hl : a < (ints c.rs).length := by rw [ints_len, h.len]; exact ha
    rw [List.setIfInBounds_toArray, mcC, mcC, show 2 + a = a + 1 + 1 by omega, List.set_cons_succ, List.set_cons_succ, List.set_append_left _ _ hl]
    simp [ints, Cx.put, List.map_set]
  rw [e] at h1
  exact h1
end

/-! What an instruction does. -/
def calcM (op x y : Int) : Int × Int :=
  if op = 3 then (w64 (x + y), 0)
  else if op = 4 then (w64 (x - y), 0)
  else if op = 5 then (w64 (x * y), 0)
  else if op = 6 then (if y = 0 then (0, 1) else (w64 (x.tdiv y), 0))
  else if op = 7 then (if x < y then 1 else 0, 0)
  else if op = 8 then (if x = y then 1 else 0, 0)
  else (0, 40)
def valueM (ss : List Seg) (c : Cx) (i : Ins) : Int × Int :=
  if i.op = 1 then (i.n, 0)
  else if i.op = 2 then (c.reg i.b, 0)
  else if i.op = 9 then (wordS ss (w64 (c.reg i.b + i.n)) 1, goesS ss (w64 (c.reg i.b + i.n)) 8 1)
  else if i.op = 11 then (wordS ss (w64 (c.pc + i.n)) 1, goesS ss (w64 (c.pc + i.n)) 8 1)
  else if i.op = 12 then (w64 (c.pc + i.n), 0)
  else if i.op = 20 then (c.tp, 0)
  else calcM i.op (c.reg i.b) (c.reg i.c)
def callM (ss : List Seg) (c : Cx) (to : Int) : Int × Cx × List Seg :=
  ((storeS ss (w64 (c.reg 15 - 8)) (digs c.pc 8) 2).1, (c.put 15 (w64 (c.reg 15 - 8))).to to, (storeS ss (w64 (c.reg 15 - 8)) (digs c.pc 8) 2).2)
def retM (ss : List Seg) (c : Cx) : Int × Cx := (goesS ss (c.reg 15) 8 1, (c.put 15 (w64 (c.reg 15 + 8))).to (wordS ss (c.reg 15) 1))
def jumpM (ss : List Seg) (c : Cx) (i : Ins) : Int × Cx × List Seg :=
  if i.op = 13 then (0, c.to (w64 (c.pc + i.n)), ss)
  else if i.op = 14 then (0, if c.reg i.a = 0 then c.to (w64 (c.pc + i.n)) else c, ss)
  else if i.op = 17 then (0, c.to (c.reg i.a), ss)
  else if i.op = 15 then callM ss c (w64 (c.pc + i.n))
  else if i.op = 16 then callM ss c (c.reg i.a)
  else ((retM ss c).1, (retM ss c).2, ss)
def isJump (op : Int) : Bool := op == 13 || op == 14 || op == 15 || op == 16 || op == 17 || op == 18
def execM (ss : List Seg) (c : Cx) (i : Ins) : Ev × Int × Cx × List Seg :=
  if i.op = 19 then (⟨2, c.reg i.a, 0, 0, 0⟩, 0, c, ss)
  else if i.op = 21 then (⟨3, 0, i.a, i.b, 0⟩, 0, c, ss)
  else if i.op = 22 then (⟨4, i.n, 0, 0, 0⟩, 0, c, ss)
  else if i.op = 10 then (⟨0, 0, 0, 0, 0⟩, (storeS ss (w64 (c.reg i.b + i.n)) (digs (c.reg i.a) 8) 2).1, c, (storeS ss (w64 (c.reg i.b + i.n)) (digs (c.reg i.a) 8) 2).2)
  else if isJump i.op = true then (⟨0, 0, 0, 0, 0⟩, (jumpM ss c i).1, (jumpM ss c i).2.1, (jumpM ss c i).2.2)
  else (⟨0, 0, 0, 0, 0⟩, (valueM ss c i).2, c.put i.a (valueM ss c i).1, ss)
def trapE (e : Int) : Ev := ⟨5, 0, 0, 0, e⟩
/-- The instruction that stands at an address, or the fault. -/
def instM (ss : List Seg) (c : Cx) : Int × Option Ins :=
  if goesS ss c.pc 8 4 = 0 then (match Cod.decI (gotS ss c.pc 8) with
    | i :: _ => if Cod.mayB i = true then (0, some i) else (40, none)
    | [] => (40, none))
  else (goesS ss c.pc 8 4, none)
/-- One step: the event, the context, the memory. -/
def stepM (ss : List Seg) (c : Cx) : Ev × Cx × List Seg :=
  if c.pc = 0 then (⟨1, 0, 0, 0, 0⟩, c, ss)
  else match instM ss c with
    | (e, none) => (trapE e, c, ss)
    | (_, some i) => if (execM ss (c.to (w64 (c.pc + 8))) i).2.1 = 0 then ((execM ss (c.to (w64 (c.pc + 8))) i).1, (execM ss (c.to (w64 (c.pc + 8))) i).2.2.1, (execM ss (c.to (w64 (c.pc + 8))) i).2.2.2)
      else (trapE (execM ss (c.to (w64 (c.pc + 8))) i).2.1, c, (execM ss (c.to (w64 (c.pc + 8))) i).2.2.2)
end Go.Proofs.YtfkhfjefddgkoaaDoor

namespace Go.Proofs.YtfkhfjefddgkoaaDoor
open Go.RowKit

theorem trap_any (e : Int) (w : World) : Calls Tryd.prog 65 #[.int .i64 e] w fun en w' => en = .returned (.agg (evA (trapE e))) ∧ Below w.heap.size w w' := by
  have hb : Below w.heap.size w (w.alloc (.cells #[.int .i64 5, .int .i64 0, .int .i64 0, .int .i64 0, .int .i64 e] 37)) := (Below.refl _ _).alloc (Nat.le_refl _) _
  go_enter Tryd.func65, Tryd.ntmps65
  go_wp2_with fail
  exact bodyPost_ret (v := .agg (evA (trapE e))) (by simp [results, Tryd.results65, go_sem, trapE]) rfl ⟨rfl, hb⟩
theorem oneIf_any (b : Bool) (w : World) : Calls Tryd.prog 104 #[.bool b] w fun en w' => en = .returned (.int .i64 (if b then 1 else 0)) ∧ w = w' := by
  cases b
  · go_enter Tryd.func104, Tryd.ntmps104
    go_wp2_with fail
    go_ret
    exact ⟨rfl, rfl⟩
  · go_enter Tryd.func104, Tryd.ntmps104
    go_wp2_with fail
    go_ret
    exact ⟨rfl, rfl⟩
theorem rest_any (g s : Nat) (c : Cx) (w : World) (h : Mc w g c s) : Calls Tryd.prog 39 #[.pointer (some ⟨g, 0, none⟩)] w fun en w' => en = .returned (.agg (evA (if c.pc = 0 then ⟨1, 0, 0, 0, 0⟩ else ⟨6, 0, 0, 0, 0⟩))) ∧ Below w.heap.size w w' := by
  have hb1 : Below w.heap.size w (w.alloc (.cells #[.int .i64 1, .int .i64 0, .int .i64 0, .int .i64 0, .int .i64 0] 37)) := (Below.refl _ _).alloc (Nat.le_refl _) _
  have hb6 : Below w.heap.size w (w.alloc (.cells #[.int .i64 6, .int .i64 0, .int .i64 0, .int .i64 0, .int .i64 0] 37)) := (Below.refl _ _).alloc (Nat.le_refl _) _
  have k0 := (h.below ((Below.refl w.heap.size w).alloc (Nat.le_refl _) (.cells #[.int .i64 0, .int .i64 0, .int .i64 0, .int .i64 0, .int .i64 0] 37))).pc
  by_cases hz : c.pc = 0
  · have HZ := Lib.hid (show (if c.pc = 0 then (⟨1, 0, 0, 0, 0⟩ : Ev) else ⟨6, 0, 0, 0, 0⟩) = ⟨1, 0, 0, 0, 0⟩ from if_pos hz)
    rw [hz] at k0
    rw [HZ.out]
    clear hz h
    go_enter Tryd.func39, Tryd.ntmps39
    go_wp2_with fail
    exact bodyPost_ret (v := .agg #[.int .i64 1, .int .i64 0, .int .i64 0, .int .i64 0, .int .i64 0]) (by simp [results, Tryd.results39, go_sem]) rfl ⟨rfl, hb1⟩
  · have HZ := Lib.hid (show (if c.pc = 0 then (⟨1, 0, 0, 0, 0⟩ : Ev) else ⟨6, 0, 0, 0, 0⟩) = ⟨6, 0, 0, 0, 0⟩ from if_neg hz)
    rw [HZ.out]
    have hz' : (c.pc == 0) = false := by simpa using hz
    clear hz h
    go_enter Tryd.func39, Tryd.ntmps39
    go_wp2_with fail
    exact bodyPost_ret (v := .agg #[.int .i64 6, .int .i64 0, .int .i64 0, .int .i64 0, .int .i64 0]) (by simp [results, Tryd.results39, go_sem]) rfl ⟨rfl, hb6⟩
theorem calc_any (op x y : Int) (w : World) : Calls Tryd.prog 99 #[.int .i64 op, .int .i64 x, .int .i64 y] w fun en w' => en = .returned (.tuple #[.int .i64 (calcM op x y).1, .int .i64 (calcM op x y).2]) ∧ w = w' := by
  by_cases h3 : op = 3
  · subst h3
    go_enter Tryd.func99, Tryd.ntmps99
    go_wp2_with fail
    go_ret2
    exact ⟨rfl, rfl⟩
  by_cases h4 : op = 4
  · subst h4
    go_enter Tryd.func99, Tryd.ntmps99
    go_wp2_with fail
    go_ret2
    exact ⟨rfl, rfl⟩
  by_cases h5 : op = 5
  · subst h5
    go_enter Tryd.func99, Tryd.ntmps99
    go_wp2_with fail
    go_ret2
    exact ⟨rfl, rfl⟩
  by_cases h6 : op = 6
  · subst h6
    by_cases hy : y = 0
    · subst hy
      go_enter Tryd.func99, Tryd.ntmps99
      go_wp2_with fail
      go_ret2
      exact ⟨rfl, rfl⟩
    · have HC := Lib.hid (show calcM 6 x y = (w64 (x.tdiv y), 0) by simp [calcM, hy])
      go_enter Tryd.func99, Tryd.ntmps99
      go_wp2_with fail
      go_ret2
      rw [HC.out]
      exact ⟨rfl, rfl⟩
  by_cases h7 : op = 7
  · subst h7
    have HT := Lib.hid (fun w => oneIf_any true w)
    have HF := Lib.hid (fun w => oneIf_any false w)
    by_cases hxy : x < y
    · have HC := Lib.hid (show calcM 7 x y = (1, 0) by simp [calcM, hxy])
      have hd : decide (x < y) = true := decide_eq_true hxy
      go_enter Tryd.func99, Tryd.ntmps99
      go_wp2_with fail
      refine (HT.out _).mono ?_
      rintro e w2 ⟨rfl, rfl⟩
      go_wp2_with fail
      go_ret2
      rw [HC.out]
      exact ⟨rfl, rfl⟩
    · have HC := Lib.hid (show calcM 7 x y = (0, 0) by simp [calcM, hxy])
      have hd : decide (x < y) = false := decide_eq_false hxy
      go_enter Tryd.func99, Tryd.ntmps99
      go_wp2_with fail
      refine (HF.out _).mono ?_
      rintro e w2 ⟨rfl, rfl⟩
      go_wp2_with fail
      go_ret2
      rw [HC.out]
      exact ⟨rfl, rfl⟩
  by_cases h8 : op = 8
  · subst h8
    have HT := Lib.hid (fun w => oneIf_any true w)
    have HF := Lib.hid (fun w => oneIf_any false w)
    by_cases hxy : x = y
    · subst hxy
      have HC := Lib.hid (show calcM 8 x x = (1, 0) by simp [calcM])
      go_enter Tryd.func99, Tryd.ntmps99
      go_wp2_with fail
      refine (HT.out _).mono ?_
      rintro e w2 ⟨rfl, rfl⟩
      go_wp2_with fail
      go_ret2
      rw [HC.out]
      exact ⟨rfl, rfl⟩
    · have HC := Lib.hid (show calcM 8 x y = (0, 0) by simp [calcM, hxy])
      have hd : (x == y) = false := by simpa using hxy
      go_enter Tryd.func99, Tryd.ntmps99
      go_wp2_with fail
      refine (HF.out _).mono ?_
      rintro e w2 ⟨rfl, rfl⟩
      go_wp2_with fail
      go_ret2
      rw [HC.out]
      exact ⟨rfl, rfl⟩
  · have HC := Lib.hid (show calcM op x y = (0, 40) by simp [calcM, h3, h4, h5, h6, h7, h8])
    have g3 : (op == 3) = false := by simpa using h3
    have g4 : (op == 4) = false := by simpa using h4
    have g5 : (op == 5) = false := by simpa using h5
    have g6 : (op == 6) = false := by simpa using h6
    have g7 : (op == 7) = false := by simpa using h7
    have g8 : (op == 8) = false := by simpa using h8
    clear h3 h4 h5 h6 h7 h8
    go_enter Tryd.func99, Tryd.ntmps99
    go_wp2_with fail
    go_ret2
    rw [HC.out]
    exact ⟨rfl, rfl⟩
end Go.Proofs.YtfkhfjefddgkoaaDoor

namespace Go.Proofs.YtfkhfjefddgkoaaDoor
open Go.RowKit

theorem w64_i64 (i : Int) : I64 (w64 i) := by
  unfold I64 w64 wrap64
  omega
theorem w64_kind (i : Int) : IntKind.i64.wrap i = w64 i := by
  rw [IntKind.wrap_i64]
  unfold w64 wrap64
  omega
abbrev insA (op : Int) (a b c : Nat) (n : Int) : Array Value := #[.int .i64 op, .int .i64 (a : Int), .int .i64 (b : Int), .int .i64 (c : Int), .int .i64 n]
/-- Where a machine's function stands that only reads: the machine, the space, the instruction's box. -/
structure In6 (w w' : World) (B g s bx : Nat) (F : Nat → Prop) (c : Cx) (ss : List Seg) (op : Int) (a b k : Nat) (n : Int) : Prop where
  below : Below w.heap.size w w'
  lies : Lies w' B s F ss
  mach : Mc w' g c s
  box : Bx w' bx (insA op a b k n) 51
section
variable {w w' w'' : World} {B g s bx : Nat} {F : Nat → Prop} {c : Cx} {ss : List Seg} {op n : Int} {a b k : Nat}
theorem In6.new (h : Lies w B s F ss) (hm : Mc w g c s) : In6 w (w.alloc (.cells (insA op a b k n) 51)) B g s w.heap.size F c ss op a b k n :=
  have hb : Below w.heap.size w (w.alloc (.cells (insA op a b k n) 51)) := (Below.refl _ _).alloc (Nat.le_refl _) _
  ⟨hb, h.below hb, hm.below hb, Bx.new _ _ _⟩
theorem In6.on (h : In6 w w' B g s bx F c ss op a b k n) (hb : Below w'.heap.size w' w'') : In6 w w'' B g s bx F c ss op a b k n :=
  ⟨h.below.trans (hb.mono h.below.size), h.lies.below hb, h.mach.below hb, h.box.below hb⟩
theorem In6.cells (h : In6 w w' B g s bx F c ss op a b k n) : w'.cell? ⟨bx, 0, none⟩ = some (.int .i64 op) ∧ w'.cell? ⟨bx, 1, none⟩ = some (.int .i64 (a : Int)) ∧ w'.cell? ⟨bx, 2, none⟩ = some (.int .i64 (b : Int)) ∧ w'.cell? ⟨bx, 3, none⟩ = some (.int .i64 (k : Int)) ∧ w'.cell? ⟨bx, 4, none⟩ = some (.int .i64 n) :=
  ⟨h.box.c 0, h.box.c 1, h.box.c 2, h.box.c 3, h.box.c 4⟩
end
theorem below_draw6 {B : Nat} {w w' : World} (h : Below B w w') : Below B w w'.drew := ⟨h.os, h.tape, h.output, h.size, h.block⟩
set_option maxHeartbeats 8000000 in
theorem value_any {w : World} {B g s : Nat} {F : Nat → Prop} {c : Cx} {ss : List Seg} (op n : Int) (a b k : Nat) (h : Lies w B s F ss) (hm : Mc w g c s) (hb : b < 16) (hk : k < 16) :
    Calls Tryd.prog 87 #[.pointer (some ⟨g, 0, none⟩), .agg (insA op a b k n)] w fun en w' => en = .returned (.tuple #[.int .i64 (valueM ss c ⟨op, a, b, k, n⟩).1, .int .i64 (valueM ss c ⟨op, a, b, k, n⟩).2]) ∧ Below w.heap.size w w' := by
  have HI := Lib.hid (In6.new (op := op) (a := a) (b := b) (k := k) (n := n) h hm)
  generalize hw1 : w.alloc (.cells (insA op a b k n) 51) = w1 at *
  have hb0 : (0 : Int) ≤ (b : Int) := by omega
  have hb1 : (b : Int) < 16 := by omega
  have hk0 : (0 : Int) ≤ (k : Int) := by omega
  have hk1 : (k : Int) < 16 := by omega
  have HRB := Lib.hid (fun (X : World) (hx : Mc X g c s) => hx.at_ b hb)
  have HRK := Lib.hid (fun (X : World) (hx : Mc X g c s) => hx.at_ k hk)
  obtain ⟨c0, c1, c2, c3, c4⟩ := HI.out.cells
  have p0 := HI.out.mach.pc
  have p1 := HI.out.mach.tp
  have pb := HRB.out _ HI.out.mach
  have pk := HRK.out _ HI.out.mach
  have ps := HI.out.mach.space
  clear h hm
  by_cases h1 : op = 1
  · subst h1
    go_enter Tryd.func87, Tryd.ntmps87
    go_wp2_with fail
    go_ret2
    exact ⟨rfl, HI.out.below⟩
  by_cases h2 : op = 2
  · subst h2
    go_enter Tryd.func87, Tryd.ntmps87
    go_wp2_with fail
    go_quiet (fail)
    go_wp2_with fail
    go_ret2
    exact ⟨rfl, below_drewN HI.out.below _⟩
  by_cases h12 : op = 12
  · subst h12
    go_enter Tryd.func87, Tryd.ntmps87
    go_wp2_with fail
    go_quiet (fail)
    go_wp2_with fail
    go_ret2
    exact ⟨rfl, below_drewN HI.out.below _⟩
  by_cases h20 : op = 20
  · subst h20
    go_enter Tryd.func87, Tryd.ntmps87
    go_wp2_with fail
    go_ret2
    exact ⟨rfl, HI.out.below⟩
  have HWD := Lib.hid (show ∀ (i : Int) (X : World), Below w1.heap.size w1 X → Calls Tryd.prog 98 #[.pointer (some ⟨s, 0, none⟩), .int .i64 (IntKind.i64.wrap i)] X fun e w' => e = .returned (.tuple #[.int .i64 (wordS ss (w64 i) 1), .int .i64 (goesS ss (w64 i) 8 1)]) ∧ Below w1.heap.size w1 w' from
    fun i X hX => by rw [w64_kind]; exact (Word_s (w64_i64 i) (HI.out.lies.below hX)).mono fun _ _ hh => ⟨hh.1, hX.trans (hh.2.mono hX.size)⟩)
  have HKE := Lib.hid (show ∀ X, Below w1.heap.size w1 X → (X.cell? ⟨g, 0, none⟩ = some (.int .i64 c.pc) ∧ X.cell? ⟨g, 18, none⟩ = some (.pointer (some ⟨s, 0, none⟩)) ∧ X.cell? ⟨g, 2 + b, none⟩ = some (.int .i64 (c.reg (b : Int))) ∧ X.cell? ⟨g, 2 + k, none⟩ = some (.int .i64 (c.reg (k : Int))) ∧ X.cell? ⟨w.heap.size, 0, none⟩ = some (.int .i64 op) ∧ X.cell? ⟨w.heap.size, 2, none⟩ = some (.int .i64 (b : Int)) ∧ X.cell? ⟨w.heap.size, 3, none⟩ = some (.int .i64 (k : Int)) ∧ X.cell? ⟨w.heap.size, 4, none⟩ = some (.int .i64 n)) from
    fun X hX => ⟨(HI.out.mach.below hX).pc, (HI.out.mach.below hX).space, HRB.out _ (HI.out.mach.below hX), HRK.out _ (HI.out.mach.below hX), (HI.out.on hX).cells.1, (HI.out.on hX).cells.2.2.1, (HI.out.on hX).cells.2.2.2.1, (HI.out.on hX).cells.2.2.2.2⟩)
  by_cases h9 : op = 9
  · subst h9
    clear c0 c1 c2 c3 c4 p0 p1 pb pk ps
    obtain ⟨q0, q1, q2, q3, q4, q5, q6, q7⟩ := HKE.out _ (Below.refl _ _)
    go_enter Tryd.func87, Tryd.ntmps87
    go_wp2_with fail
    go_region_held3 (fun X => X.cell? ⟨g, 0, none⟩ = some (.int .i64 c.pc) ∧ X.cell? ⟨g, 18, none⟩ = some (.pointer (some ⟨s, 0, none⟩)) ∧ X.cell? ⟨g, 2 + b, none⟩ = some (.int .i64 (c.reg (b : Int))) ∧ X.cell? ⟨g, 2 + k, none⟩ = some (.int .i64 (c.reg (k : Int))) ∧ X.cell? ⟨w.heap.size, 0, none⟩ = some (.int .i64 9) ∧ X.cell? ⟨w.heap.size, 2, none⟩ = some (.int .i64 (b : Int)) ∧ X.cell? ⟨w.heap.size, 3, none⟩ = some (.int .i64 (k : Int)) ∧ X.cell? ⟨w.heap.size, 4, none⟩ = some (.int .i64 n)) (first | (exact HKE.out _ (by first | assumption | exact below_draw6 (by assumption) | exact Below.refl _ _ | exact drew_below _)) | go_keep) (first
      | (go_at_call 98; (with_reducible refine (HWD.out _ _ (by first | assumption | exact below_draw6 (by assumption) | exact Below.refl _ _ | exact drew_below _)).mono ?_); rintro e wp ⟨rfl, hbp⟩; obtain ⟨q0, q1, q2, q3, q4, q5, q6, q7⟩ := HKE.out _ hbp))
    all_goals
      go_wp2_with fail
      go_ret2
      exact ⟨rfl, HI.out.below.trans (Below.mono (by first | assumption | exact below_draw6 (by assumption) | exact drew_below _) HI.out.below.size)⟩
  by_cases h11 : op = 11
  · subst h11
    clear c0 c1 c2 c3 c4 p0 p1 pb pk ps
    obtain ⟨q0, q1, q2, q3, q4, q5, q6, q7⟩ := HKE.out _ (Below.refl _ _)
    go_enter Tryd.func87, Tryd.ntmps87
    go_wp2_with fail
    go_region_held3 (fun X => X.cell? ⟨g, 0, none⟩ = some (.int .i64 c.pc) ∧ X.cell? ⟨g, 18, none⟩ = some (.pointer (some ⟨s, 0, none⟩)) ∧ X.cell? ⟨g, 2 + b, none⟩ = some (.int .i64 (c.reg (b : Int))) ∧ X.cell? ⟨g, 2 + k, none⟩ = some (.int .i64 (c.reg (k : Int))) ∧ X.cell? ⟨w.heap.size, 0, none⟩ = some (.int .i64 11) ∧ X.cell? ⟨w.heap.size, 2, none⟩ = some (.int .i64 (b : Int)) ∧ X.cell? ⟨w.heap.size, 3, none⟩ = some (.int .i64 (k : Int)) ∧ X.cell? ⟨w.heap.size, 4, none⟩ = some (.int .i64 n)) (first | (exact HKE.out _ (by first | assumption | exact below_draw6 (by assumption) | exact Below.refl _ _ | exact drew_below _)) | go_keep) (first
      | (go_at_call 98; (with_reducible refine (HWD.out _ _ (by first | assumption | exact below_draw6 (by assumption) | exact Below.refl _ _ | exact drew_below _)).mono ?_); rintro e wp ⟨rfl, hbp⟩; obtain ⟨q0, q1, q2, q3, q4, q5, q6, q7⟩ := HKE.out _ hbp))
    all_goals
      go_wp2_with fail
      go_ret2
      exact ⟨rfl, HI.out.below.trans (Below.mono (by first | assumption | exact below_draw6 (by assumption) | exact drew_below _) HI.out.below.size)⟩
  have HV := Lib.hid (show valueM ss c ⟨op, a, b, k, n⟩ = calcM op (c.reg b) (c.reg k) by simp [valueM, h1, h2, h9, h11, h12, h20])
  have g1 : (op == 1) = false := by simpa using h1
  have g2 : (op == 2) = false := by simpa using h2
  have g9 : (op == 9) = false := by simpa using h9
  have g11 : (op == 11) = false := by simpa using h11
  have g12 : (op == 12) = false := by simpa using h12
  have g20 : (op == 20) = false := by simpa using h20
  have HCA := Lib.hid (fun X => calc_any op (c.reg b) (c.reg k) X)
  clear h1 h2 h9 h11 h12 h20 c0 c1 c2 c3 c4 p0 p1 pb pk ps
  obtain ⟨q0, q1, q2, q3, q4, q5, q6, q7⟩ := HKE.out _ (Below.refl _ _)
  go_enter Tryd.func87, Tryd.ntmps87
  go_wp2_with fail
  go_region_held3 (fun X => X.cell? ⟨g, 0, none⟩ = some (.int .i64 c.pc) ∧ X.cell? ⟨g, 18, none⟩ = some (.pointer (some ⟨s, 0, none⟩)) ∧ X.cell? ⟨g, 2 + b, none⟩ = some (.int .i64 (c.reg (b : Int))) ∧ X.cell? ⟨g, 2 + k, none⟩ = some (.int .i64 (c.reg (k : Int))) ∧ X.cell? ⟨w.heap.size, 0, none⟩ = some (.int .i64 op) ∧ X.cell? ⟨w.heap.size, 2, none⟩ = some (.int .i64 (b : Int)) ∧ X.cell? ⟨w.heap.size, 3, none⟩ = some (.int .i64 (k : Int)) ∧ X.cell? ⟨w.heap.size, 4, none⟩ = some (.int .i64 n)) (first | (exact HKE.out _ (by first | assumption | exact below_draw6 (by assumption) | exact Below.refl _ _ | exact drew_below _)) | go_keep) (first
    | (go_at_call 99; (with_reducible refine (HCA.out _).mono ?_); rintro e wp ⟨rfl, rfl⟩))
  all_goals
    go_wp2_with fail
    go_ret2
    exact ⟨by rw [HV.out]; rfl, below_draw6 HI.out.below⟩
end Go.Proofs.YtfkhfjefddgkoaaDoor

namespace Go.Proofs.YtfkhfjefddgkoaaDoor
open Go.RowKit

/-- One space, made since w0. -/
def Ws (w0 w : World) (g : Nat) (ss : List Seg) : Prop := Below w0.heap.size w0 w ∧ ∃ F, Lies w w0.heap.size g F ss
theorem Ws.went {w0 w w' : World} {g : Nat} {F : Nat → Prop} {ss ss' : List Seg} (hb : Below w0.heap.size w0 w) (hl : Lies w w0.heap.size g F ss) (h : Went w w' w0.heap.size g F ss') : Ws w0 w' g ss' := by
  obtain ⟨F', h1, h2, h3⟩ := h
  exact ⟨hb.trans (h2.below (fun k hk => (hl.lt hk).1) hb.size), F', h1⟩
theorem Ws.act {w0 w : World} {g : Nat} {ss ss' : List Seg} (h : Ws w0 w g ss) {f : Nat} {args : Array Value} {v : Value} (hc : ∀ F, Lies w w0.heap.size g F ss → Calls Tryd.prog f args w fun e w' => e = .returned v ∧ Went w w' w0.heap.size g F ss') :
    Calls Tryd.prog f args w fun e w' => e = .returned v ∧ Ws w0 w' g ss' := by
  obtain ⟨hb, F, hl⟩ := h
  exact (hc F hl).mono fun e w' hw => ⟨hw.1, Ws.went hb hl hw.2⟩
theorem Ws.quiet {w0 w w' : World} {g : Nat} {ss : List Seg} (h : Ws w0 w g ss) (hb : Below w.heap.size w w') : Ws w0 w' g ss := by
  obtain ⟨hb0, F, hl⟩ := h
  exact ⟨hb0.trans (hb.mono hb0.size), F, hl.below hb⟩
theorem Ws.ask {w0 w : World} {g : Nat} {ss : List Seg} (h : Ws w0 w g ss) {f : Nat} {args : Array Value} {v : Value} (hc : ∀ F, Lies w w0.heap.size g F ss → Calls Tryd.prog f args w fun e w' => e = .returned v ∧ Below w.heap.size w w') :
    Calls Tryd.prog f args w fun e w' => e = .returned v ∧ Ws w0 w' g ss := by
  obtain ⟨hb, F, hl⟩ := h
  exact (hc F hl).mono fun e w' hw => ⟨hw.1, Ws.quiet ⟨hb, F, hl⟩ hw.2⟩
theorem Ws.read {w0 w : World} {g : Nat} {ss : List Seg} (h : Ws w0 w g ss) {f : Nat} {args : Array Value} {a n need : Int} (hc : ∀ F, Lies w w0.heap.size g F ss → Calls Tryd.prog f args w (TookS w ss a n need)) :
    Calls Tryd.prog f args w fun e w' => TookS w ss a n need e w' ∧ Ws w0 w' g ss := by
  obtain ⟨hb, F, hl⟩ := h
  exact (hc F hl).mono fun _ _ hw => ⟨hw, Ws.quiet ⟨hb, F, hl⟩ hw.1⟩
theorem Ws.good {w0 w : World} {g : Nat} {ss : List Seg} (h : Ws w0 w g ss) : Good ss := by
  obtain ⟨_, F, hl⟩ := h
  exact hl.good
theorem New_w (w0 w : World) (hb : Below w0.heap.size w0 w) : Calls Tryd.prog 23 #[] w fun e w' => e = .returned (.pointer (some ⟨w.heap.size, 0, none⟩)) ∧ Ws w0 w' w.heap.size [] :=
  (New_s w w0.heap.size hb.size).mono fun _ _ ⟨h1, h2, h3⟩ => ⟨h1, hb.trans (h3.mono hb.size), _, h2⟩
end Go.Proofs.YtfkhfjefddgkoaaDoor
