/-
  Symbols: what they are, and the small functions of package symver and of the document that only read them.
-/
import Derived.Test.YtpcgedngikpnoaaYA
import Derived.Deep.RegionHeld3
namespace Go.Proofs.Ytpcgedngikpnoaa
set_option maxRecDepth 100000
set_option linter.unusedSimpArgs false
set_option linter.unusedVariables false
open Go.RowKit

/-- A symbol. -/
structure Sym where
  name : Str
  ver : Str
  old : Bool
  kind : Int
  weak : Bool
  vis : Int
  dfd : Bool
  val : Int
  size : Int
abbrev symA (s : Sym) : Array Value := #[str s.name, str s.ver, .bool s.old, .int .i64 s.kind, .bool s.weak, .int .i64 s.vis, .bool s.dfd, .int .i64 s.val, .int .i64 s.size]
abbrev symV (s : Sym) : Value := .agg (symA s)
theorem cell_below {w w' : World} (hb : Below w.heap.size w w') {a : Addr} {u : Value} (h : w.cell? a = some u) : w'.cell? a = some u := (hb.cell (World.block_lt_of_cell? w _ h)).trans h

/-- A block that holds just these cells. -/
def Bx (w : World) (g : Nat) (cs : Array Value) (t : TypeId) : Prop := w.heap[g]? = some (.cells cs t (0, 0))
section
variable {w w' : World} {g : Nat} {cs : Array Value} {t : TypeId}
theorem Bx.new (w : World) (cs : Array Value) (t : TypeId) : Bx (w.alloc (.cells cs t)) w.heap.size cs t := heap_alloc_new _ _
theorem Bx.c (h : Bx w g cs t) (j : Nat) : w.cell? ⟨g, j, none⟩ = cs[j]? := cell_of_row w g j _ _ _ h
theorem Bx.f (h : Bx w g cs t) (j : Nat) : w.frozen? ⟨g, j, none⟩ = false := frozen_of_row w g j _ _ h
theorem Bx.lt (h : Bx w g cs t) : g < w.heap.size := by
  rcases Nat.lt_or_ge g w.heap.size with hlt | hge
  · exact hlt
  · have h' : w.heap[g]? = _ := h
    rw [Array.getElem?_eq_none hge] at h'; cases h'
theorem Bx.below (h : Bx w g cs t) (hb : Below w.heap.size w w') : Bx w' g cs t := (hb.block g h.lt).trans h
theorem Bx.below' {B : Nat} (h : Bx w g cs t) (hb : Below B w w') (hg : g < B) : Bx w' g cs t := (hb.block g hg).trans h
theorem Bx.alloc (h : Bx w g cs t) (o : Obj) : Bx (w.alloc o) g cs t := (Below.heap_alloc w o g h.lt).trans h
theorem Bx.other (h : Bx w g cs t) {a : Addr} (ha : g ≠ a.block) (u : Value) : Bx (w.setCell a u) g cs t := (Below.heap_setCell w a u g ha).trans h
theorem Bx.draw (h : Bx w g cs t) (k : Nat) : Bx (w.drewN k) g cs t := h
end
/-- A symbol's box. -/
structure Sx (w : World) (g : Nat) (s : Sym) : Prop where
  bx : Bx w g (symA s) 25
theorem Sx.new (w : World) (s : Sym) : Sx (w.alloc (.cells (symA s) 25)) w.heap.size s := ⟨Bx.new _ _ _⟩
theorem Sx.below {w w' : World} {g : Nat} {s : Sym} (h : Sx w g s) (hb : Below w.heap.size w w') : Sx w' g s := ⟨h.bx.below hb⟩
theorem Sx.cells {w : World} {g : Nat} {s : Sym} (h : Sx w g s) :
    w.cell? ⟨g, 0, none⟩ = some (str s.name) ∧ w.cell? ⟨g, 1, none⟩ = some (str s.ver) ∧ w.cell? ⟨g, 2, none⟩ = some (.bool s.old) ∧ w.cell? ⟨g, 3, none⟩ = some (.int .i64 s.kind) ∧
    w.cell? ⟨g, 4, none⟩ = some (.bool s.weak) ∧ w.cell? ⟨g, 5, none⟩ = some (.int .i64 s.vis) ∧ w.cell? ⟨g, 6, none⟩ = some (.bool s.dfd) ∧ w.cell? ⟨g, 7, none⟩ = some (.int .i64 s.val) ∧ w.cell? ⟨g, 8, none⟩ = some (.int .i64 s.size) :=
  ⟨h.bx.c 0, h.bx.c 1, h.bx.c 2, h.bx.c 3, h.bx.c 4, h.bx.c 5, h.bx.c 6, h.bx.c 7, h.bx.c 8⟩
theorem box_below (w : World) (s : Sym) : Below w.heap.size w (w.alloc (.cells (symA s) 25)) := (Below.refl _ _).alloc (Nat.le_refl _) _

def seenB (s : Sym) : Bool := s.dfd && s.vis != 2
def hasB (s : Sym) : Bool := !s.ver.isEmpty

def defB (s : Sym) : Bool := s.old || s.vis != 0 || s.val != 0 || s.size != 0
def fieldsB (s : Sym) : Bool := decide (1 ≤ s.kind) && decide (s.kind ≤ 3) && (decide (0 ≤ s.vis) && decide (s.vis ≤ 2)) && decide (0 ≤ s.val) && decide (0 ≤ s.size)
def textB (s : Sym) : Bool := if s.ver.isEmpty then nameB s.name && !s.old else nameB s.name && nameB s.ver
def rightB (s : Sym) : Bool := textB s && fieldsB s && (s.dfd || !defB s)
theorem seen_any (s : Sym) (w : World) : Calls Try.prog 62 #[symV s] w fun e w' => e = .returned (.bool (seenB s)) ∧ Below w.heap.size w w' := by
  have HB := Lib.hid (box_below w s)
  obtain ⟨c0, c1, c2, c3, c4, c5, c6, c7, c8⟩ := (Sx.new w s).cells
  go_enter Try.func62, Try.ntmps62
  go_wp2_with fail
  all_goals
    go_ret
    refine ⟨ret_bool ?_, HB.out⟩
    simp [seenB, *]
theorem rseen_any (s : Sym) (w : World) : Calls Try.prog 27 #[symV s] w fun e w' => e = .returned (.bool (seenB s)) ∧ Below w.heap.size w w' := by
  have HB := Lib.hid (box_below w s)
  obtain ⟨c0, c1, c2, c3, c4, c5, c6, c7, c8⟩ := (Sx.new w s).cells
  go_enter Try.func27, Try.ntmps27
  go_wp2_with fail
  all_goals
    go_ret
    refine ⟨ret_bool ?_, HB.out⟩
    simp [seenB, *]
theorem has_any (s : Sym) (w : World) : Calls Try.prog 61 #[symV s] w fun e w' => e = .returned (.bool (hasB s)) ∧ Below w.heap.size w w' := by
  have HB := Lib.hid (box_below w s)
  obtain ⟨c0, c1, c2, c3, c4, c5, c6, c7, c8⟩ := (Sx.new w s).cells
  go_enter Try.func61, Try.ntmps61
  go_wp2_with fail
  all_goals
    go_ret
    refine ⟨ret_bool ?_, HB.out⟩
    simp [hasB, *]
def printS (s : Sym) : Str := if s.ver.isEmpty then s.name else if s.dfd && !s.old then s.name ++ ([64, 64] ++ s.ver) else s.name ++ ([64] ++ s.ver)
theorem ret_str {x y : Str} (h : x = y) : Ending.returned (str x) = Ending.returned (str y) := by rw [h]

end Go.Proofs.Ytpcgedngikpnoaa
