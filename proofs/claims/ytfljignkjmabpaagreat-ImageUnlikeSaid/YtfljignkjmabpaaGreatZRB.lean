/-
  The document's writer, beside boxes of the call's own.
  The reader of images: what it is in memory, and its small methods.
  The laws' helper Owned, of one row: what came out is its owner's.
  The laws' helper Owned, of one row: walked.
  The laws' helper Owned, of any rows that lie apart: walked.
  Rows of elements that the call owns; many readings, one more.
-/
import Derived.Test.YtfljignkjmabpaaGreatZWF
import Derived.Test.YtfljignkjmabpaaGreatZFA
import Derived.Test.YtfljignkjmabpaaGreatZYA
import Derived.ArgAppend
import Derived.Test.YtfljignkjmabpaaGreatZA
namespace Go.Proofs.YtfljignkjmabpaaGreat
set_option maxRecDepth 100000
set_option linter.unusedSimpArgs false
set_option linter.unusedVariables false
open Go.RowKit

abbrev Box : Type := Nat × Array Value × TypeId
/-- The document's writer at g, that has written s; it leaves F alone. -/
structure Dw (w : World) (F : Nat → Prop) (g : Nat) (s : St) : Prop where
  wr : ∃ B A c, Wm w B g s.1 A c s.2 ∧ ∀ k, F k → k ≠ g ∧ row A ≠ some k
  lt : ∀ k, F k → k < w.heap.size
def Wrd (w : World) (F : Nat → Prop) (g : Nat) (s : St) (en : Ending) (w' : World) : Prop := en = .returned (.tuple #[]) ∧ Dw w' F g s ∧ Kp F w w'
section
variable {w w' : World} {F F' : Nat → Prop} {g : Nat} {s : St}
theorem Dw.below (h : Dw w F g s) (hb : Below w.heap.size w w') : Dw w' F g s := by
  obtain ⟨⟨B, A, c, h1, h2⟩, h5⟩ := h
  exact ⟨⟨B, A, c, h1.below hb, h2⟩, fun k hk => Nat.lt_of_lt_of_le (h5 k hk) hb.size⟩
theorem Dw.weak (h : Dw w F g s) (hF : ∀ k, F' k → F k) : Dw w F' g s := by
  obtain ⟨⟨B, A, c, h1, h2⟩, h5⟩ := h
  exact ⟨⟨B, A, c, h1, fun k hk => h2 k (hF k hk)⟩, fun k hk => h5 k (hF k hk)⟩
theorem Dw.alloc (h : Dw w F g s) (o : Obj) : Dw (w.alloc o) (fun k => F k ∨ k = w.heap.size) g s := by
  have hb : Below w.heap.size w (w.alloc o) := (Below.refl _ _).alloc (Nat.le_refl _) _
  obtain ⟨⟨B, A, c, h1, h2⟩, h5⟩ := h
  refine ⟨⟨B, A, c, h1.below hb, ?_⟩, ?_⟩
  · rintro k (hk | rfl)
    · exact h2 k hk
    · have hg := h1.lt
      exact ⟨by omega, fun e => by have := (h1.rowLt _ e).2; omega⟩
  · rintro k (hk | rfl)
    · have := h5 k hk
      have := hb.size
      omega
    · simp
theorem Dw.at_ {B : Nat} {A : Option Addr} {s' : St} (h5 : ∀ k, F k → k < w.heap.size) (h2 : ∀ k, F k → k ≠ g ∧ row A ≠ some k) (ha : AtM w B g A s'.1 s'.2 w') : Dw w' F g s' ∧ Kp F w w' := by
  obtain ⟨A', c', hw, hs⟩ := ha
  have hk : Kp F w w' := ⟨hs.os, hs.tape, hs.output, hs.size, fun k hk => hs.block k (h5 k hk) (h2 k hk).1 (h2 k hk).2⟩
  refine ⟨⟨⟨B, A', c', hw, fun k hk' => ⟨(h2 k hk').1, ?_⟩⟩, fun k hk' => Nat.lt_of_lt_of_le (h5 k hk') hs.size⟩, hk⟩
  rcases hs.row with hr | ⟨j, hj, hr⟩
  · rw [hr]; exact (h2 k hk').2
  · rw [hr]
    intro e
    injection e with e
    have := h5 k hk'
    omega
theorem Dw.num (h : Dw w F g s) (size : Int) (An : Option Addr) (n cn : Nat) (ns : List Int) (hx : Src w F An n cn (ints ns)) (hn : s.2.length + 8 * n ≤ 140737488355328) :
    Calls Tryz.prog 71 #[.pointer (some ⟨g, 0, none⟩), .int .i64 size, .slice An n cn] w (Wrd w F g (wNumsA size ns s)) := by
  obtain ⟨⟨B, A, c, h1, h2⟩, h5⟩ := h
  refine (vnum_any B g s A c size An n cn ns w h1 (hx.weak h2) hn).mono ?_
  rintro en w' ⟨rfl, ha⟩
  exact ⟨rfl, Dw.at_ h5 h2 ha⟩
theorem Dw.text (h : Dw w F g s) (An : Option Addr) (n cn : Nat) (ss : List (List UInt8)) (hx : Src w F An n cn (strs ss)) (hn : s.2.length + room ss ≤ 140737488355328) :
    Calls Tryz.prog 70 #[.pointer (some ⟨g, 0, none⟩), .slice An n cn] w (Wrd w F g (wTexts ss s)) := by
  obtain ⟨⟨B, A, c, h1, h2⟩, h5⟩ := h
  refine (vtext_any B g s A c An n cn ss w h1 (hx.weak h2) hn).mono ?_
  rintro en w' ⟨rfl, ha⟩
  exact ⟨rfl, Dw.at_ h5 h2 ha⟩
theorem Dw.block (h : Dw w F g s) (An : Option Addr) (n cn : Nat) (l : List UInt8) (hx : Src w F An n cn (cells l)) (hn : s.2.length + 8 + n ≤ 140737488355328) :
    Calls Tryz.prog 72 #[.pointer (some ⟨g, 0, none⟩), .slice An n cn] w (Wrd w F g (wMeas 4 1048576 l s)) := by
  obtain ⟨⟨B, A, c, h1, h2⟩, h5⟩ := h
  refine (vblock_any B g s A c An n cn l w h1 (hx.weak h2) hn).mono ?_
  rintro en w' ⟨rfl, ha⟩
  exact ⟨rfl, Dw.at_ h5 h2 ha⟩
end
/-- The blocks of F, and the boxes. -/
def FB (F : Nat → Prop) (bs : List Box) (k : Nat) : Prop := F k ∨ ∃ b ∈ bs, k = b.1
/-- The document's writer beside boxes, a call having begun at w. -/
structure Wy (w : World) (F : Nat → Prop) (g : Nat) (bs : List Box) (s : St) (X : World) : Prop where
  dw : Dw X (FB F bs) g s
  kp : Kp F w X
  bx : ∀ b ∈ bs, Bx X b.1 b.2.1 b.2.2
section
variable {w X X' : World} {F : Nat → Prop} {g : Nat} {bs : List Box} {b b2 : Box} {s s' : St}
theorem Wy.b0 (h : Wy w F g (b :: bs) s X) : Bx X b.1 b.2.1 b.2.2 := h.bx b (by simp)
theorem Wy.b1 (h : Wy w F g (b2 :: b :: bs) s X) : Bx X b.1 b.2.1 b.2.2 := h.bx b (by simp)
theorem Wy.below (h : Wy w F g bs s X) (hb : Below X.heap.size X X') : Wy w F g bs s X' :=
  ⟨h.dw.below hb, h.kp.trans (Kp.of_below hb fun k hk => h.dw.lt k (.inl hk)), fun b hb' => (h.bx b hb').below hb⟩
theorem Wy.drew (h : Wy w F g bs s X) : Wy w F g bs s X.drew := h.below ⟨rfl, rfl, rfl, Nat.le_refl _, fun _ _ => rfl⟩
theorem Wy.new (h : Wy w F g bs s X) (o : Obj) : Wy w F g bs s (X.alloc o) := h.below ((Below.refl _ _).alloc (Nat.le_refl _) o)
/-- One box more. -/
theorem Wy.more (h : Wy w F g bs s X) (cs : Array Value) (ty : TypeId) : Wy w F g ((X.heap.size, cs, ty) :: bs) s (X.alloc (.cells cs ty)) := by
  have hb : Below X.heap.size X (X.alloc (.cells cs ty)) := (Below.refl _ _).alloc (Nat.le_refl _) _
  refine ⟨(h.dw.alloc (.cells cs ty)).weak ?_, h.kp.trans (Kp.of_below hb fun k hk => h.dw.lt k (.inl hk)), ?_⟩
  · rintro k (hk | ⟨c, hc, rfl⟩)
    · exact .inl (.inl hk)
    · rcases List.mem_cons.1 hc with rfl | hc
      · exact .inr rfl
      · exact .inl (.inr ⟨c, hc, rfl⟩)
  · intro c hc
    rcases List.mem_cons.1 hc with rfl | hc
    · exact Bx.new _ _ _
    · exact (h.bx c hc).below hb
theorem Wy.less (h : Wy w F g (b :: bs) s X) : Wy w F g bs s X :=
  ⟨h.dw.weak (fun k hk => hk.elim .inl fun ⟨c, hc, e⟩ => .inr ⟨c, List.mem_cons_of_mem _ hc, e⟩), h.kp, fun c hc => h.bx c (List.mem_cons_of_mem _ hc)⟩
theorem Wy.step {en : Ending} (h : Wy w F g bs s X) (k : Wrd X (FB F bs) g s' en X') : en = .returned (.tuple #[]) ∧ Wy w F g bs s' X' :=
  ⟨k.1, k.2.1, h.kp.trans (k.2.2.weak fun _ hk => .inl hk), fun b hb => k.2.2.bx (.inr ⟨b, hb, rfl⟩) (h.bx b hb)⟩
theorem Wy.num (h : Wy w F g bs s X) (size : Int) (An : Option Addr) (n cn : Nat) (ns : List Int) (hx : Src w F An n cn (ints ns)) (hn : s.2.length + 8 * n ≤ 140737488355328) :
    Calls Tryz.prog 71 #[.pointer (some ⟨g, 0, none⟩), .int .i64 size, .slice An n cn] X fun en X' => en = .returned (.tuple #[]) ∧ Wy w F g bs (wNumsA size ns s) X' :=
  (h.dw.num size An n cn ns ((hx.kp h.kp).weak fun _ hk => .inl hk) hn).mono fun _ _ k => h.step k
theorem Wy.text (h : Wy w F g bs s X) (An : Option Addr) (n cn : Nat) (ss : List (List UInt8)) (hx : Src w F An n cn (strs ss)) (hn : s.2.length + room ss ≤ 140737488355328) :
    Calls Tryz.prog 70 #[.pointer (some ⟨g, 0, none⟩), .slice An n cn] X fun en X' => en = .returned (.tuple #[]) ∧ Wy w F g bs (wTexts ss s) X' :=
  (h.dw.text An n cn ss ((hx.kp h.kp).weak fun _ hk => .inl hk) hn).mono fun _ _ k => h.step k
theorem Wy.block (h : Wy w F g bs s X) (An : Option Addr) (n cn : Nat) (l : List UInt8) (hx : Src w F An n cn (cells l)) (hn : s.2.length + 8 + n ≤ 140737488355328) :
    Calls Tryz.prog 72 #[.pointer (some ⟨g, 0, none⟩), .slice An n cn] X fun en X' => en = .returned (.tuple #[]) ∧ Wy w F g bs (wMeas 4 1048576 l s) X' :=
  (h.dw.block An n cn l ((hx.kp h.kp).weak fun _ hk => .inl hk) hn).mono fun _ _ k => h.step k
theorem Wy.nums (h : Wy w F g bs s X) (size : Int) (ns : List Int) (hn : s.2.length + 8 * ns.length ≤ 140737488355328) :
    Calls Tryz.prog 71 #[.pointer (some ⟨g, 0, none⟩), .int .i64 size, .slice (some ⟨X.heap.size, 0, none⟩) ns.length ns.length] (X.alloc (.cells (ints ns).toArray 3)) fun en X' => en = .returned (.tuple #[]) ∧ Wy w F g bs (wNumsA size ns s) X' := by
  have hl : (ints ns).length = ns.length := by simp [ints]
  have hs := src_new X (ints ns) 3
  rw [hl] at hs
  have hm := h.more (ints ns).toArray 3
  refine (hm.dw.num size _ ns.length ns.length ns (hs.weak fun k hk => .inr ⟨_, List.mem_cons_self, hk⟩) hn).mono ?_
  intro en w' k
  have := hm.step k
  exact ⟨this.1, this.2.less⟩
theorem Wy.texts (h : Wy w F g bs s X) (ss : List (List UInt8)) (hn : s.2.length + room ss ≤ 140737488355328) :
    Calls Tryz.prog 70 #[.pointer (some ⟨g, 0, none⟩), .slice (some ⟨X.heap.size, 0, none⟩) ss.length ss.length] (X.alloc (.cells (strs ss).toArray 9)) fun en X' => en = .returned (.tuple #[]) ∧ Wy w F g bs (wTexts ss s) X' := by
  have hl : (strs ss).length = ss.length := by simp [strs]
  have hs := src_new X (strs ss) 9
  rw [hl] at hs
  have hm := h.more (strs ss).toArray 9
  refine (hm.dw.text _ ss.length ss.length ss (hs.weak fun k hk => .inr ⟨_, List.mem_cons_self, hk⟩) hn).mono ?_
  intro en w' k
  have := hm.step k
  exact ⟨this.1, this.2.less⟩
theorem Wy.nums1d (h : Wy w F g bs s X) (size a : Int) (hn : s.2.length + 8 ≤ 140737488355328) :
    Calls Tryz.prog 71 #[.pointer (some ⟨g, 0, none⟩), .int .i64 size, .slice (some ⟨X.heap.size, 0, none⟩) 1 1] (X.alloc (.cells #[.int .i64 a] 3)).drew fun en X' => en = .returned (.tuple #[]) ∧ Wy w F g bs (wNumsA size [a] s) X' :=
  h.drew.nums size [a] hn
theorem Wy.nums2d (h : Wy w F g bs s X) (size a b : Int) (hn : s.2.length + 16 ≤ 140737488355328) :
    Calls Tryz.prog 71 #[.pointer (some ⟨g, 0, none⟩), .int .i64 size, .slice (some ⟨X.heap.size, 0, none⟩) 2 2] (X.alloc (.cells #[.int .i64 a, .int .i64 b] 3)).drew fun en X' => en = .returned (.tuple #[]) ∧ Wy w F g bs (wNumsA size [a, b] s) X' :=
  h.drew.nums size [a, b] hn
theorem Wy.nums3d (h : Wy w F g bs s X) (size a b c : Int) (hn : s.2.length + 24 ≤ 140737488355328) :
    Calls Tryz.prog 71 #[.pointer (some ⟨g, 0, none⟩), .int .i64 size, .slice (some ⟨X.heap.size, 0, none⟩) 3 3] (X.alloc (.cells #[.int .i64 a, .int .i64 b, .int .i64 c] 3)).drew fun en X' => en = .returned (.tuple #[]) ∧ Wy w F g bs (wNumsA size [a, b, c] s) X' :=
  h.drew.nums size [a, b, c] hn
theorem Wy.nums5d (h : Wy w F g bs s X) (size a b c d e : Int) (hn : s.2.length + 40 ≤ 140737488355328) :
    Calls Tryz.prog 71 #[.pointer (some ⟨g, 0, none⟩), .int .i64 size, .slice (some ⟨X.heap.size, 0, none⟩) 5 5] (X.alloc (.cells #[.int .i64 a, .int .i64 b, .int .i64 c, .int .i64 d, .int .i64 e] 3)).drew fun en X' => en = .returned (.tuple #[]) ∧ Wy w F g bs (wNumsA size [a, b, c, d, e] s) X' :=
  h.drew.nums size [a, b, c, d, e] hn
theorem Wy.texts1d (h : Wy w F g bs s X) (a : Str) (hn : s.2.length + ((a.length + 8)) ≤ 140737488355328) :
    Calls Tryz.prog 70 #[.pointer (some ⟨g, 0, none⟩), .slice (some ⟨X.heap.size, 0, none⟩) 1 1] (X.alloc (.cells #[str a] 9)).drew fun en X' => en = .returned (.tuple #[]) ∧ Wy w F g bs (wTexts [a] s) X' :=
  h.drew.texts [a] (by simp [room]; omega)
theorem Wy.texts2d (h : Wy w F g bs s X) (a b : Str) (hn : s.2.length + ((a.length + 8) + (b.length + 8)) ≤ 140737488355328) :
    Calls Tryz.prog 70 #[.pointer (some ⟨g, 0, none⟩), .slice (some ⟨X.heap.size, 0, none⟩) 2 2] (X.alloc (.cells #[str a, str b] 9)).drew fun en X' => en = .returned (.tuple #[]) ∧ Wy w F g bs (wTexts [a, b] s) X' :=
  h.drew.texts [a, b] (by simp [room]; omega)
end
def WY (w : World) (F : Nat → Prop) (g : Nat) (bs : List Box) (X : World) : Prop := ∃ t, Wy w F g bs t X
theorem WY.new {w : World} {F : Nat → Prop} {g : Nat} {bs : List Box} {X : World} (h : WY w F g bs X) (o : Obj) : WY w F g bs (X.alloc o) := by
  obtain ⟨t, h⟩ := h
  exact ⟨t, h.new o⟩
end Go.Proofs.YtfljignkjmabpaaGreat

namespace Go.Proofs.YtfljignkjmabpaaGreat
set_option maxRecDepth 100000
set_option linter.unusedSimpArgs false
set_option linter.unusedVariables false
open Go.RowKit

/-- All older blocks but g and G are as they were. -/
structure Kr (G g : Nat) (w w' : World) : Prop where
  os : w'.os = w.os
  tape : w'.tape = w.tape
  output : w'.output = w.output
  size : w.heap.size ≤ w'.heap.size
  block : ∀ k, k < w.heap.size → k ≠ g → k ≠ G → w'.heap[k]? = w.heap[k]?
/-- A reader of images at G, over a cursor's reader at g: whether something stood in no form, and what is left. -/
structure Ri (w : World) (G g : Nat) (bad : Bool) (s : St) : Prop where
  rd : ∃ A c, Rd w (fun k => k < g) g s.1 A c s.2
  blk : Bx w G #[.pointer (some ⟨g, 0, none⟩), .bool bad] 66
  lt : g < G
/-- Behind a call that reads. -/
def Rb (w : World) (G g : Nat) (bad : Bool) (s : St) (v : Value) (en : Ending) (w' : World) : Prop := en = .returned v ∧ Ri w' G g bad s ∧ Kr G g w w'
section
variable {w w' w2 : World} {G g : Nat} {bad : Bool} {s : St}
theorem Kr.refl (G g : Nat) (w : World) : Kr G g w w := ⟨rfl, rfl, rfl, Nat.le_refl _, fun _ _ _ _ => rfl⟩
theorem Kr.trans (h : Kr G g w w') (k : Kr G g w' w2) : Kr G g w w2 :=
  ⟨k.os.trans h.os, k.tape.trans h.tape, k.output.trans h.output, Nat.le_trans h.size k.size, fun i hi h1 h2 => (k.block i (Nat.lt_of_lt_of_le hi h.size) h1 h2).trans (h.block i hi h1 h2)⟩
theorem Kr.of_below (h : Below w.heap.size w w') : Kr G g w w' := ⟨h.os, h.tape, h.output, h.size, fun i hi _ _ => h.block i hi⟩
theorem Kr.to_below {B : Nat} (h : Kr G g w w') (hB : B ≤ w.heap.size) (hg : B ≤ g) (hG : B ≤ G) : Below B w w' := ⟨h.os, h.tape, h.output, h.size, fun i hi => h.block i (by omega) (by omega) (by omega)⟩
theorem Kr.bx {b : Nat} {cs : Array Value} {t : TypeId} (h : Kr G g w w') (hb : Bx w b cs t) (hg : b ≠ g) (hG : b ≠ G) : Bx w' b cs t := (h.block b hb.lt hg hG).trans hb
theorem Src.kr {P : Nat → Prop} {A : Option Addr} {n c : Nat} {xs : List Value} (h : Src w P A n c xs) (k : Kr G g w w') (hP : ∀ i, P i → i ≠ g ∧ i ≠ G) : Src w' P A n c xs := h.keep fun i hi hl => k.block i hl (hP i hi).1 (hP i hi).2
theorem Ri.gt (h : Ri w G g bad s) : G < w.heap.size := h.blk.lt
theorem Ri.c0 (h : Ri w G g bad s) : w.cell? ⟨G, 0, none⟩ = some (.pointer (some ⟨g, 0, none⟩)) := h.blk.c 0
theorem Ri.c1 (h : Ri w G g bad s) : w.cell? ⟨G, 1, none⟩ = some (.bool bad) := h.blk.c 1
theorem Ri.f1 (h : Ri w G g bad s) : w.frozen? ⟨G, 1, none⟩ = false := h.blk.f 1
theorem Ri.keep (h : Ri w G g bad s) (hg : ∀ k, k ≤ g → w'.heap[k]? = w.heap[k]?) (hG : w'.heap[G]? = w.heap[G]?) : Ri w' G g bad s := by
  obtain ⟨⟨A, c, h1⟩, h2, h3⟩ := h
  exact ⟨⟨A, c, ⟨(hg g (Nat.le_refl _)).trans h1.blk, h1.src.keep fun k hk _ => hg k (Nat.le_of_lt hk), h1.ne, h1.lim, h1.small⟩⟩, hG.trans h2, h3⟩
theorem Ri.below (h : Ri w G g bad s) (hb : Below w.heap.size w w') : Ri w' G g bad s :=
  h.keep (fun k hk => hb.block k (by have := h.gt; have := h.lt; omega)) (hb.block G h.gt)
theorem Ri.is {s' : St} (h2 : Bx w G #[.pointer (some ⟨g, 0, none⟩), .bool bad] 66) (h3 : g < G) (hi : Is w (fun k => k < g) g s'.1 s'.2 w') : Ri w' G g bad s' ∧ Kr G g w w' := by
  obtain ⟨A, c, h4, h5⟩ := hi
  have hk : Kr G g w w' := ⟨h5.os, h5.tape, h5.output, h5.size, fun k hk hg _ => h5.block k hk (by intro e; injection e with e; exact hg (by omega))⟩
  exact ⟨⟨⟨A, c, h4⟩, (h5.block G h2.lt (by intro e; injection e with e; omega)).trans h2, h3⟩, hk⟩
theorem Ri.num (h : Ri w G g bad s) (size : Int) : Calls Tryz.prog 39 #[.pointer (some ⟨g, 0, none⟩), .int .i64 size] w (Rb w G g bad (rNum size s).2 (.int .i64 (rNum size s).1)) := by
  obtain ⟨⟨A, c, h1⟩, h2, h3⟩ := h
  exact (rnum_any _ g s A c size w h1).mono fun en w' k => ⟨k.1, Ri.is h2 h3 k.2⟩
theorem Ri.text (h : Ri w G g bad s) : Calls Tryz.prog 38 #[.pointer (some ⟨g, 0, none⟩)] w (Rb w G g bad (rMeas 2 4096 s).2 (str (rMeas 2 4096 s).1)) := by
  obtain ⟨⟨A, c, h1⟩, h2, h3⟩ := h
  exact (rtext_any _ g s A c w h1).mono fun en w' k => ⟨k.1, Ri.is h2 h3 k.2⟩
theorem Ri.block (h : Ri w G g bad s) : Calls Tryz.prog 53 #[.pointer (some ⟨g, 0, none⟩)] w fun en w' => ∃ A c, en = .returned (.slice A (rMeas 4 1048576 s).1.length c) ∧ w'.ownsRow w.heap.size 5 1 (.slice A (rMeas 4 1048576 s).1.length c) (rMeas 4 1048576 s).1.length (cells (rMeas 4 1048576 s).1) ∧ Ri w' G g bad (rMeas 4 1048576 s).2 ∧ Kr G g w w' := by
  obtain ⟨⟨A, c, h1⟩, h2, h3⟩ := h
  exact (rblock_any _ g s A c w h1).mono fun en w' ⟨A', c', k1, k2, k3⟩ => ⟨A', c', k1, k2, Ri.is h2 h3 k3⟩
theorem Ri.fault (h : Ri w G g bad s) : Calls Tryz.prog 130 #[.pointer (some ⟨g, 0, none⟩)] w fun en w' => en = .returned (.int .i64 s.1) ∧ w = w' := by
  obtain ⟨⟨A, c, h1⟩, h2, h3⟩ := h
  exact rfault_any _ g s.1 A c s.2 w h1
theorem Ri.end_ (h : Ri w G g bad s) : Calls Tryz.prog 18 #[.pointer (some ⟨g, 0, none⟩)] w fun en w' => en = .returned (.int .i64 (rEnd s)) ∧ w = w' := by
  obtain ⟨⟨A, c, h1⟩, h2, h3⟩ := h
  exact rend_any _ g s A c w h1
theorem Ri.setBad (h : Ri w G g bad s) : Ri (w.setCell ⟨G, 1, none⟩ (.bool true)) G g true s ∧ Kr G g w (w.setCell ⟨G, 1, none⟩ (.bool true)) := by
  obtain ⟨⟨A, c, h1⟩, h2, h3⟩ := h
  have ho : ∀ k, k ≠ G → (w.setCell ⟨G, 1, none⟩ (.bool true)).heap[k]? = w.heap[k]? := fun k hk => heap_setCell_other _ _ _ _ hk
  refine ⟨⟨⟨A, c, ⟨(ho g (by omega)).trans h1.blk, h1.src.keep fun k hk _ => ho k (by have : k < g := hk; omega), h1.ne, h1.lim, h1.small⟩⟩, ?_, h3⟩, rfl, rfl, rfl, by simp [World.setCell], fun k _ _ hk => ho k hk⟩
  have := heap_setCell_same w G 1 _ _ (.bool true) h2
  unfold Bx
  rw [this]
  rfl
end
set_option maxHeartbeats 400000 in
theorem rmark_any {G g : Nat} {bad : Bool} {s : St} (w : World) (h : Ri w G g bad s) :
    Calls Tryz.prog 37 #[.pointer (some ⟨G, 0, none⟩)] w (Rb w G g (bad || (rdMark s).2.1) (rdMark s).2.2 (.tuple #[])) := by
  have hc := h.c0
  have HT := Lib.hid h.text
  have HB := Lib.hid (show (rdMark s).2.1 = !decide ((rMeas 2 4096 s).1 = mark) from rfl)
  have HS := Lib.hid (show (rdMark s).2.2 = (rMeas 2 4096 s).2 from rfl)
  generalize (rdMark s).2.1 = b at *
  generalize (rdMark s).2.2 = s2 at *
  obtain rfl := HS.out
  clear HS h
  generalize rMeas 2 4096 s = t at *
  obtain ⟨l, s'⟩ := t
  simp only at HT HB
  by_cases hl : l = mark
  · have HV := Lib.hid (show (bad || b) = bad by rw [HB.out, hl]; simp)
    subst hl
    go_enter Tryz.func37, Tryz.ntmps37
    go_wp2_with (go_at_call 38; (with_reducible refine (HT.out).mono ?_); rintro en w1 ⟨rfl, h1, h2⟩; have H1 := Lib.hid h1; have H2 := Lib.hid h2; clear h1 h2)
    first | go_end0 | skip
    exact ⟨rfl, by rw [HV.out]; exact H1.out, H2.out⟩
  · have HV := Lib.hid (show (bad || b) = true by rw [HB.out]; simp [hl])
    have hlb : (!l == [99, 108, 101, 118, 105, 115, 49]) = true := by simpa using hl
    clear hl
    go_enter Tryz.func37, Tryz.ntmps37
    go_upto_region 1 with (go_at_call 38; (with_reducible refine (HT.out).mono ?_); rintro en w1 ⟨rfl, h1, h2⟩; have H1 := Lib.hid h1; have H2 := Lib.hid h2; clear h1 h2)
    have hc1 := H1.out.c1
    have hf := H1.out.f1
    go_wp2_with fail
    first | go_end0 | skip
    exact ⟨rfl, by rw [HV.out]; exact H1.out.setBad.1, H2.out.trans H1.out.setBad.2⟩
set_option maxHeartbeats 400000 in
theorem rbit_any {G g : Nat} {bad : Bool} {s : St} (w : World) (h : Ri w G g bad s) :
    Calls Tryz.prog 132 #[.pointer (some ⟨G, 0, none⟩)] w (Rb w G g (bad || (rdBit s).2.1) (rdBit s).2.2 (.bool (rdBit s).1)) := by
  rw [rdBit_eq]
  have hc := h.c0
  have HT := Lib.hid (h.num 1)
  clear h
  generalize rNum 1 s = t at *
  obtain ⟨n, s'⟩ := t
  rw [mkBit_bad, mkBit_st, mkBit_val]
  simp only at HT ⊢
  by_cases hn : 1 < n
  · have HV := Lib.hid (show (bad || bitBad n) = true by unfold bitBad; rw [decide_eq_true hn]; simp)
    have HW := Lib.hid (show bitOf n = false by unfold bitOf; simp; omega)
    have hne : (n == 1) = false := by simp; omega
    go_enter Tryz.func132, Tryz.ntmps132
    go_upto_region 3 with (go_at_call 39; (with_reducible refine (HT.out).mono ?_); rintro en w1 ⟨rfl, h1, h2⟩; have H1 := Lib.hid h1; have H2 := Lib.hid h2; clear h1 h2)
    have hc1 := H1.out.c1
    have hf := H1.out.f1
    go_wp2_with fail
    go_ret
    exact ⟨by rw [HW.out]; rfl, by rw [HV.out]; exact H1.out.setBad.1, H2.out.trans H1.out.setBad.2⟩
  · have HV := Lib.hid (show (bad || bitBad n) = bad by unfold bitBad; rw [decide_eq_false hn]; simp)
    have HW := Lib.hid (show bitOf n = (n == 1) from rfl)
    go_enter Tryz.func132, Tryz.ntmps132
    go_wp2_with (go_at_call 39; (with_reducible refine (HT.out).mono ?_); rintro en w1 ⟨rfl, h1, h2⟩; have H1 := Lib.hid h1; have H2 := Lib.hid h2; clear h1 h2)
    go_ret
    exact ⟨by rw [HW.out]; rfl, by rw [HV.out]; exact H1.out, H2.out⟩
set_option maxHeartbeats 400000 in
theorem rword_any {G g : Nat} {bad : Bool} {s : St} (w : World) (h : Ri w G g bad s) :
    Calls Tryz.prog 189 #[.pointer (some ⟨G, 0, none⟩)] w (Rb w G g bad (rdWd s).2.2 (Siv.u64v (rdWd s).1)) := by
  have hc := h.c0
  have HT := Lib.hid (h.num 8)
  have HW := Lib.hid (show (rdWd s).2.2 = (rNum 8 s).2 ∧ (rdWd s).1 = toU (rNum 8 s).1 from ⟨rfl, rfl⟩)
  rw [HW.out.1, HW.out.2]
  clear h HW
  generalize rNum 8 s = t at *
  obtain ⟨n, s'⟩ := t
  simp only at HT ⊢
  have HV := Lib.hid (show Siv.u64v (toU n) = .int .u64 (IntKind.u64.wrap n) by unfold Siv.u64v; rw [toU_nat, IntKind.wrap_u64])
  go_enter Tryz.func189, Tryz.ntmps189
  go_wp2_with (go_at_call 39; (with_reducible refine (HT.out).mono ?_); rintro en w1 ⟨rfl, h1, h2⟩; have H1 := Lib.hid h1; have H2 := Lib.hid h2; clear h1 h2)
  go_ret
  exact ⟨by rw [HV.out, IntKind.wrap_u64]; rfl, H1.out, H2.out⟩
/-- A closure that reads a number: it holds the reader's box. -/
theorem rnum1_any {G g b : Nat} {bad : Bool} {s : St} (w : World) (h : Ri w G g bad s) (hb : w.cell? ⟨b, 0, none⟩ = some (.pointer (some ⟨G, 0, none⟩))) :
    Calls Tryz.prog 137 #[.pointer (some ⟨b, 0, none⟩)] w (Rb w G g bad (rNum 4 s).2 (.int .i64 (rNum 4 s).1)) ∧
    Calls Tryz.prog 187 #[.pointer (some ⟨b, 0, none⟩)] w (Rb w G g bad (rNum 2 s).2 (.int .i64 (rNum 2 s).1)) := by
  have hc := h.c0
  have HT := Lib.hid (h.num 4)
  have HU := Lib.hid (h.num 2)
  clear h
  refine ⟨?_, ?_⟩
  · generalize rNum 4 s = t at *
    go_enter Tryz.func137, Tryz.ntmps137
    go_wp2_with (go_at_call 39; (with_reducible refine (HT.out).mono ?_); rintro en w1 ⟨rfl, h1, h2⟩; have H1 := Lib.hid h1; have H2 := Lib.hid h2; clear h1 h2)
    go_ret
    exact ⟨rfl, H1.out, H2.out⟩
  · generalize rNum 2 s = t at *
    go_enter Tryz.func187, Tryz.ntmps187
    go_wp2_with (go_at_call 39; (with_reducible refine (HU.out).mono ?_); rintro en w1 ⟨rfl, h1, h2⟩; have H1 := Lib.hid h1; have H2 := Lib.hid h2; clear h1 h2)
    go_ret
    exact ⟨rfl, H1.out, H2.out⟩
end Go.Proofs.YtfljignkjmabpaaGreat

namespace Go.Proofs.YtfljignkjmabpaaGreat
set_option maxRecDepth 100000
set_option linter.unusedSimpArgs false
set_option linter.unusedVariables false
open Go.RowKit

def ones (k : Nat) (x : Int) : List Value := List.replicate k (.int .u8 x)
/-- A row of so many marks. -/
def RowIs (w : World) (B : Nat) (A : Option Addr) (n c : Nat) (x : Int) : Prop := w.ownsRow B 5 1 (.slice A n c) n (ones n x)
theorem RowIs.keep {w w' : World} {B : Nat} {A : Option Addr} {n c : Nat} {x : Int} (h : RowIs w B A n c x) (hk : ∀ k, row A = some k → w'.heap[k]? = w.heap[k]?) : RowIs w' B A n c x := by
  refine ⟨h.1, ?_⟩
  rcases h.2 with h1 | ⟨g', cap, cur, hv, hb, hh, hx⟩
  · exact .inl h1
  · refine .inr ⟨g', cap, cur, hv, hb, (hk g' ?_).trans hh, hx⟩
    injection hv with h1
    subst h1
    rfl
theorem RowIs.lt {w : World} {B : Nat} {A : Option Addr} {n c : Nat} {x : Int} (h : RowIs w B A n c x) : ∀ k, row A = some k → B ≤ k ∧ k < w.heap.size := by
  intro k hk
  exact World.ownsRow.lt h k (by rw [row_own]; exact hk)
/-- Two rows in one block: the shorter one is the longer one's front. -/
theorem RowIs.front {w w' : World} {B : Nat} {A Ag : Option Addr} {n c m cg : Nat} {x : Int} {m' : Nat} (h : RowIs w B A n c x) (hg : RowIs w B Ag m cg x) (hg' : RowIs w' B Ag m' cg x) (hA : A = Ag) (hn : n ≤ m') : RowIs w' B A n c x := by
  subst hA
  rcases h.2 with ⟨h1, h2⟩ | ⟨g1, cap1, cur1, hv1, hb1, hh1, _, hm1, hs1, _⟩
  · exact ⟨h.1, .inl ⟨h1, h2⟩⟩
  · rcases hg.2 with ⟨h1, _⟩ | ⟨g2, cap2, cur2, hv2, _, hh2, _, _, hs2, _⟩
    · injection h1 with h1
      subst h1
      injection hv1 with e
      cases e
    · injection hv1 with e1 _ e2
      injection hv2 with e3 _ e4
      subst e1
      injection e3 with e3
      injection e3 with e3
      subst e2 e3 e4
      rw [hh1] at hh2
      injection hh2 with hh2
      injection hh2 with hh2
      subst hh2
      have hcc : c = cg := by omega
      subst hcc
      rcases hg'.2 with ⟨h1, _⟩ | ⟨g3, cap3, cur3, hv3, hb3, hh3, hle3, hm3, hs3, ht3⟩
      · cases h1
      · injection hv3 with e5 _ e6
        injection e5 with e5
        injection e5 with e5
        subst e5 e6
        refine ⟨by simp [ones], .inr ⟨g1, c, cur3, rfl, hb1, hh3, by omega, hm3, hs3, ?_⟩⟩
        have : cur3.toList.take (n * 1) = (cur3.toList.take (m' * 1)).take n := by rw [List.take_take]; congr 1; omega
        rw [this, ht3]
        simp [ones]
        omega

end Go.Proofs.YtfljignkjmabpaaGreat

namespace Go.Proofs.YtfljignkjmabpaaGreat
set_option maxRecDepth 100000
set_option linter.unusedSimpArgs false
set_option linter.unusedVariables false
open Go.RowKit

theorem Tryz.info_bytes : (Tryz.prog.info? 22).map (fun i => (i.zero, i.size, i.bytes)) = some (some (.slice none 0 0), 1, 24) := by kernel_rfl

end Go.Proofs.YtfljignkjmabpaaGreat

namespace Go.Proofs.YtfljignkjmabpaaGreat
set_option maxRecDepth 100000
set_option linter.unusedSimpArgs false
set_option linter.unusedVariables false
open Go.RowKit

theorem own_keep {w w' : World} {B s n : Nat} {e : TypeId} {v : Value} {xs : List Value} (h : w.ownsRow B e s v n xs) (hk : ∀ k, v.ownBlock = some k → w'.heap[k]? = w.heap[k]?) : w'.ownsRow B e s v n xs := by
  refine ⟨h.1, ?_⟩
  rcases h.2 with h1 | ⟨g', cap, cur, hv, hb, hh, hx⟩
  · exact .inl h1
  · exact .inr ⟨g', cap, cur, hv, hb, (hk g' (by rw [hv]; rfl)).trans hh, hx⟩
/-- All old blocks but the row's are as they were. -/
structure But (A : Option Addr) (w w' : World) : Prop where
  os : w'.os = w.os
  tape : w'.tape = w.tape
  output : w'.output = w.output
  size : w.heap.size ≤ w'.heap.size
  block : ∀ k, k < w.heap.size → row A ≠ some k → w'.heap[k]? = w.heap[k]?
theorem But.refl (A : Option Addr) (w : World) : But A w w := ⟨rfl, rfl, rfl, Nat.le_refl _, fun _ _ _ => rfl⟩
theorem But.trans {A : Option Addr} {a b c : World} (h : But A a b) (k : But A b c) : But A a c :=
  ⟨k.os.trans h.os, k.tape.trans h.tape, k.output.trans h.output, Nat.le_trans h.size k.size, fun i hi hr => (k.block i (Nat.lt_of_lt_of_le hi h.size) hr).trans (h.block i hi hr)⟩
theorem But.below {A : Option Addr} {B : Nat} {w w' : World} (h : But A w w') (hA : ∀ k, row A = some k → B ≤ k) (hB : B ≤ w.heap.size) : Below B w w' :=
  ⟨h.os, h.tape, h.output, h.size, fun k hk => h.block k (by omega) (fun e => by have := hA k e; omega)⟩

def mk (i : Nat) : Int := 1 + (i : Int) % 250

end Go.Proofs.YtfljignkjmabpaaGreat

namespace Go.Proofs.YtfljignkjmabpaaGreat
set_option maxRecDepth 100000
set_option linter.unusedSimpArgs false
set_option linter.unusedVariables false
open Go.RowKit

/-- The cells of n elements, one behind the other. -/
def flatE (E : Nat → Array Value) : Nat → List Value
  | 0 => []
  | n + 1 => flatE E n ++ (E n).toList
theorem flatE_congr {E E' : Nat → Array Value} : ∀ n, (∀ i, i < n → E i = E' i) → flatE E n = flatE E' n
  | 0, _ => rfl
  | n + 1, h => by
    show flatE E n ++ (E n).toList = flatE E' n ++ (E' n).toList
    rw [flatE_congr n (fun i hi => h i (by omega)), h n (by omega)]
theorem flatE_len {E : Nat → Array Value} {sz : Nat} : ∀ n, (∀ i, i < n → (E i).size = sz) → (flatE E n).length = n * sz
  | 0, _ => by simp [flatE]
  | n + 1, h => by
    show (flatE E n ++ (E n).toList).length = _
    rw [List.length_append, flatE_len n (fun i hi => h i (by omega)), Array.length_toList, h n (by omega), Nat.succ_mul]
theorem flatE_get {E : Nat → Array Value} {sz : Nat} : ∀ n, (∀ i, i < n → (E i).size = sz) → ∀ k, k < n → ∀ j u, (E k)[j]? = some u → (flatE E n)[k * sz + j]? = some u
  | 0, _, k, hk, _, _, _ => by omega
  | n + 1, h, k, hk, j, u, hu => by
    have hl := flatE_len n (fun i hi => h i (by omega))
    show (flatE E n ++ (E n).toList)[k * sz + j]? = some u
    have hj : j < (E k).size := (Array.getElem?_eq_some_iff.1 hu).1
    rw [h k hk] at hj
    rcases Nat.lt_or_ge k n with hkn | hkn
    · have h1 : (k + 1) * sz ≤ n * sz := Nat.mul_le_mul_right _ hkn
      rw [Nat.succ_mul] at h1
      rw [List.getElem?_append_left (by rw [hl]; omega)]
      exact flatE_get n (fun i hi => h i (by omega)) k hkn j u hu
    · obtain rfl : k = n := by omega
      rw [List.getElem?_append_right (by rw [hl]; omega), hl, Nat.add_sub_cancel_left]
      simpa using hu
theorem own_sl {w : World} {base n sz : Nat} {e : TypeId} {v : Value} {xs : List Value} (h : w.ownsRow base e sz v n xs) : ∃ A c, v = .slice A n c := by
  rcases h.2 with ⟨rfl, rfl⟩ | ⟨g, cap, cur, rfl, _⟩
  · exact ⟨_, _, rfl⟩
  · exact ⟨_, _, rfl⟩
/-- Elements of a row of the call's own can be read. -/
theorem els_of_own {w : World} {base n c sz : Nat} {e : TypeId} {A : Option Addr} {E : Nat → Array Value} (hE : ∀ i, i < n → (E i).size = sz) (h : w.ownsRow base e sz (.slice A n c) n (flatE E n)) : Els w (fun k => base ≤ k ∧ k < w.heap.size) A n c sz E := by
  refine ⟨fun hA => ?_, ?_, fun ad hA _ => ?_, fun ad hA k hk j u hu => ?_⟩
  · subst hA
    rcases h.2 with ⟨hv, h0⟩ | ⟨g, cap, cur, hv, _⟩
    · injection hv with _ _ hc
      exact ⟨h0, hc⟩
    · injection hv with h1; cases h1
  · rcases h.2 with ⟨hv, h0⟩ | ⟨g, cap, cur, hv, _, _, hle, _⟩
    · omega
    · injection hv with _ _ hc; subst hc; exact hle
  · subst hA
    exact h.lt ad.block rfl
  · subst hA
    rcases h.2 with ⟨hv, h0⟩ | ⟨g, cap, cur, hv, _⟩
    · cases hv
    · have q := h.cells (g := ad.block) rfl
      injection hv with h1
      injection h1 with h1
      subst h1
      exact q _ u (flatE_get n hE k hk j u hu)
/-- Many readings, one more at the end. -/
theorem rdMany_snoc {α : Type} (r : St → α × Bool × St) : ∀ n s, rdMany r (n + 1) s = ((rdMany r n s).1 ++ [(r (rdMany r n s).2.2).1], (rdMany r n s).2.1 || (r (rdMany r n s).2.2).2.1, (r (rdMany r n s).2.2).2.2)
  | 0, s => by
    show ([(r s).1], (r s).2.1 || false, (r s).2.2) = ([] ++ [(r s).1], false || (r s).2.1, (r s).2.2)
    simp
  | n + 1, s => by
    show ((r s).1 :: (rdMany r (n + 1) (r s).2.2).1, (r s).2.1 || (rdMany r (n + 1) (r s).2.2).2.1, (rdMany r (n + 1) (r s).2.2).2.2) = _
    rw [rdMany_snoc r n (r s).2.2]
    show _ = ((r s).1 :: (rdMany r n (r s).2.2).1 ++ [_], ((r s).2.1 || (rdMany r n (r s).2.2).2.1) || _, _)
    simp only [List.cons_append, Bool.or_assoc]
    rfl
/-- Behind an error nothing is read, and nothing is found to stand in no form. -/
structure Clean {α : Type} (r : St → α × Bool × St) : Prop where
  stick : ∀ s, s.1 ≠ 0 → (r s).2.2 = s
  clean : ∀ s, s.1 ≠ 0 → (r s).2.1 = false
theorem rdMany_stop {α : Type} {r : St → α × Bool × St} (h : Clean r) (k : Nat) (s : St) (he : (rdMany r k s).2.2.1 ≠ 0) : ∀ m, (rdMany r (k + m) s).2.2 = (rdMany r k s).2.2 ∧ (rdMany r (k + m) s).2.1 = (rdMany r k s).2.1
  | 0 => ⟨rfl, rfl⟩
  | m + 1 => by
    obtain ⟨h1, h2⟩ := rdMany_stop h k s he m
    have e : k + (m + 1) = (k + m) + 1 := by omega
    rw [e, rdMany_snoc]
    rw [← h1] at he
    refine ⟨?_, ?_⟩
    · show (r (rdMany r (k + m) s).2.2).2.2 = _
      rw [h.stick _ he, h1]
    · show ((rdMany r (k + m) s).2.1 || (r (rdMany r (k + m) s).2.2).2.1) = _
      rw [h.clean _ he, Bool.or_false, h2]
theorem rdMany_stop' {α : Type} {r : St → α × Bool × St} (h : Clean r) {k n : Nat} (hk : k ≤ n) (s : St) (he : (rdMany r k s).2.2.1 ≠ 0) : (rdMany r n s).2.2 = (rdMany r k s).2.2 ∧ (rdMany r n s).2.1 = (rdMany r k s).2.1 := by
  have := rdMany_stop h k s he (n - k)
  rwa [show k + (n - k) = n by omega] at this
theorem clean_num (size : Int) : Clean (rdNum size) := ⟨fun s h => rNum_stick size s h, fun _ _ => rfl⟩
theorem clean_text : Clean rdText := ⟨fun s h => rMeas_stick 2 4096 s h, fun _ _ => rfl⟩
theorem clean_block : Clean rdBlock := ⟨fun s h => rMeas_stick 4 1048576 s h, fun _ _ => rfl⟩
theorem rTake_err (n : Nat) (s : St) (h : s.1 ≠ 0) : rTake n s = ([], s) := by unfold rTake; rw [if_neg h]
theorem rNum_err (size : Int) (s : St) (h : s.1 ≠ 0) : (rNum size s).1 = 0 := by
  unfold rNum
  split
  · rw [rTake_err _ _ h]
    show val [] = 0
    simp [val, valN, wrap64]
  · rfl
theorem clean_bit : Clean rdBit := by
  refine ⟨fun s h => ?_, fun s h => ?_⟩
  · rw [rdBit_eq, mkBit_st]; exact rNum_stick 1 s h
  · rw [rdBit_eq, mkBit_bad, rNum_err 1 s h]; rfl
theorem Clean.pair {α β : Type} {r1 : St → α × Bool × St} {r2 : St → β × Bool × St} (h1 : Clean r1) (h2 : Clean r2) : Clean (rdPair r1 r2) := by
  refine ⟨fun s h => ?_, fun s h => ?_⟩
  · show (r2 (r1 s).2.2).2.2 = s
    rw [h1.stick s h, h2.stick s h]
  · show ((r1 s).2.1 || (r2 (r1 s).2.2).2.1) = false
    rw [h1.stick s h, h1.clean s h, h2.clean s h]
    rfl
theorem Clean.map {α β : Type} {r : St → α × Bool × St} (h : Clean r) (g : α → β) : Clean (fun s => (g (r s).1, (r s).2)) := ⟨fun s hs => h.stick s hs, fun s hs => h.clean s hs⟩
theorem Clean.list {α : Type} {r : St → α × Bool × St} (h : Clean r) (size : Int) : Clean (rdList size r) := by
  refine ⟨fun s hs => ?_, fun s hs => ?_⟩
  · show (rdMany r _ (rNum size s).2).2.2 = s
    rw [rNum_stick size s hs]
    exact (rdMany_stop' h (Nat.zero_le _) s hs).1
  · show (rdMany r _ (rNum size s).2).2.1 = false
    rw [rNum_stick size s hs]
    exact (rdMany_stop' h (Nat.zero_le _) s hs).2
theorem clean_sg : Clean rdSg := ((clean_num 4).pair ((clean_num 4).pair ((clean_num 1).pair clean_block))).map mkSg
theorem clean_tx : Clean rdTx := clean_text.list 1
theorem clean_nd : Clean rdNd := (clean_text.pair clean_tx).map mkNd
theorem clean_sym : Clean rdSym := (clean_text.pair (clean_text.pair ((clean_num 1).pair ((clean_num 1).pair (clean_bit.pair (clean_bit.pair (clean_bit.pair ((clean_num 8).pair (clean_num 8))))))))).map mkSym
theorem clean_row : Clean rdRow := (clean_num 2).list 2
theorem clean_rl : Clean rdRl := ((clean_num 1).pair ((clean_num 8).pair ((clean_num 8).pair (clean_num 8)))).map mkRl
theorem clean_sl : Clean rdSl := ((clean_num 4).pair ((clean_num 4).pair (clean_num 4))).map mkSl
theorem clean_wd : Clean rdWd := ⟨fun s h => rNum_stick 8 s h, fun _ _ => rfl⟩
end Go.Proofs.YtfljignkjmabpaaGreat
