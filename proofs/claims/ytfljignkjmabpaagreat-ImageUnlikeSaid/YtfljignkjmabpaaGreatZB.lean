/-
  The writer of images: the blocks that it leaves alone, and what it has written.
  slices.IndexFunc and ContainsFunc, areAll: whatever the function (written by mk.py).
-/
import Derived.Test.YtfljignkjmabpaaGreatZA
import Derived.Test.YtfljignkjmabpaaGreatZYA
namespace Go.Proofs.YtfljignkjmabpaaGreat
set_option maxRecDepth 100000
set_option linter.unusedSimpArgs false
set_option linter.unusedVariables false
open Go.RowKit

/-- The blocks of F are as they were, and none is gone. -/
structure Kp (F : Nat → Prop) (w w' : World) : Prop where
  os : w'.os = w.os
  tape : w'.tape = w.tape
  output : w'.output = w.output
  size : w.heap.size ≤ w'.heap.size
  block : ∀ k, F k → w'.heap[k]? = w.heap[k]?
theorem Kp.refl (F : Nat → Prop) (w : World) : Kp F w w := ⟨rfl, rfl, rfl, Nat.le_refl _, fun _ _ => rfl⟩
theorem Kp.trans {F : Nat → Prop} {a b c : World} (h : Kp F a b) (k : Kp F b c) : Kp F a c :=
  ⟨k.os.trans h.os, k.tape.trans h.tape, k.output.trans h.output, Nat.le_trans h.size k.size, fun i hi => (k.block i hi).trans (h.block i hi)⟩
theorem Kp.weak {F F' : Nat → Prop} {a b : World} (h : Kp F a b) (hF : ∀ k, F' k → F k) : Kp F' a b := ⟨h.os, h.tape, h.output, h.size, fun i hi => h.block i (hF i hi)⟩
theorem Kp.of_below {F : Nat → Prop} {w w' : World} (h : Below w.heap.size w w') (hF : ∀ k, F k → k < w.heap.size) : Kp F w w' := ⟨h.os, h.tape, h.output, h.size, fun i hi => h.block i (hF i hi)⟩
theorem Kp.to_below {F : Nat → Prop} {B : Nat} {w w' : World} (h : Kp F w w') (hF : ∀ k, k < B → F k) : Below B w w' := ⟨h.os, h.tape, h.output, h.size, fun i hi => h.block i (hF i hi)⟩
theorem Kp.bx {F : Nat → Prop} {w w' : World} {g : Nat} {cs : Array Value} {t : TypeId} (h : Kp F w w') (hg : F g) (hb : Bx w g cs t) : Bx w' g cs t := (h.block g hg).trans hb
theorem Src.kp {F : Nat → Prop} {w w' : World} {A : Option Addr} {n c : Nat} {xs : List Value} (h : Src w F A n c xs) (k : Kp F w w') : Src w' F A n c xs := h.keep fun i hi _ => k.block i hi

/-- A writer of images at G, over a cursor's writer at g, that has written s; it leaves F alone. -/
structure Wi (w : World) (F : Nat → Prop) (G g : Nat) (s : St) : Prop where
  wr : ∃ B A c, Wr w B g s.1 A c s.2 ∧ ∀ k, F k → k ≠ g ∧ row A ≠ some k
  blk : Bx w G #[.pointer (some ⟨g, 0, none⟩)] 76
  inF : F G
  lt : ∀ k, F k → k < w.heap.size
/-- Behind a call that writes. -/
def Wro (w : World) (F : Nat → Prop) (G g : Nat) (s : St) (en : Ending) (w' : World) : Prop := en = .returned (.tuple #[]) ∧ Wi w' F G g s ∧ Kp F w w'
section
variable {w w' : World} {F F' : Nat → Prop} {G g : Nat} {s : St}
theorem Wi.c0 (h : Wi w F G g s) : w.cell? ⟨G, 0, none⟩ = some (.pointer (some ⟨g, 0, none⟩)) := h.blk.c 0
theorem Wi.below (h : Wi w F G g s) (hb : Below w.heap.size w w') : Wi w' F G g s := by
  obtain ⟨⟨B, A, c, h1, h2⟩, h3, h4, h5⟩ := h
  exact ⟨⟨B, A, c, h1.below hb, h2⟩, h3.below hb, h4, fun k hk => Nat.lt_of_lt_of_le (h5 k hk) hb.size⟩
theorem Wi.weak (h : Wi w F G g s) (hF : ∀ k, F' k → F k) (hG : F' G) : Wi w F' G g s := by
  obtain ⟨⟨B, A, c, h1, h2⟩, h3, h4, h5⟩ := h
  exact ⟨⟨B, A, c, h1, fun k hk => h2 k (hF k hk)⟩, h3, hG, fun k hk => h5 k (hF k hk)⟩
theorem Wi.alloc (h : Wi w F G g s) (o : Obj) : Wi (w.alloc o) (fun k => F k ∨ k = w.heap.size) G g s := by
  have hb : Below w.heap.size w (w.alloc o) := (Below.refl _ _).alloc (Nat.le_refl _) _
  obtain ⟨⟨B, A, c, h1, h2⟩, h3, h4, h5⟩ := h
  refine ⟨⟨B, A, c, h1.below hb, ?_⟩, h3.below hb, .inl h4, ?_⟩
  · rintro k (hk | rfl)
    · exact h2 k hk
    · have hg := h1.lt
      exact ⟨by omega, fun e => by have := (h1.rowLt _ e).2; omega⟩
  · rintro k (hk | rfl)
    · have := h5 k hk
      have := hb.size
      omega
    · simp
theorem Wi.at_ {B : Nat} {A : Option Addr} {s' : St} (h5 : ∀ k, F k → k < w.heap.size) (h3 : Bx w G #[.pointer (some ⟨g, 0, none⟩)] 76) (h4 : F G) (h2 : ∀ k, F k → k ≠ g ∧ row A ≠ some k) (ha : At w B g A s'.1 s'.2 w') : Wi w' F G g s' ∧ Kp F w w' := by
  obtain ⟨A', c', hw, hs⟩ := ha
  have hk : Kp F w w' := ⟨hs.os, hs.tape, hs.output, hs.size, fun k hk => hs.block k (h5 k hk) (h2 k hk).1 (h2 k hk).2⟩
  refine ⟨⟨⟨B, A', c', hw, fun k hk' => ⟨(h2 k hk').1, ?_⟩⟩, hk.bx h4 h3, h4, fun k hk' => Nat.lt_of_lt_of_le (h5 k hk') hs.size⟩, hk⟩
  rcases hs.row with hr | ⟨j, hj, hr⟩
  · rw [hr]; exact (h2 k hk').2
  · rw [hr]
    intro e
    injection e with e
    have := h5 k hk'
    omega
theorem Wi.num (h : Wi w F G g s) (size : Int) (An : Option Addr) (n cn : Nat) (ns : List Int) (hi : ∀ x ∈ ns, I64 x) (hx : Src w F An n cn (ints ns)) (hn : s.2.length + 8 * n ≤ 140737488355328) :
    Calls Tryz.prog 77 #[.pointer (some ⟨g, 0, none⟩), .int .i64 size, .slice An n cn] w (Wro w F G g (wNumsA size ns s)) := by
  obtain ⟨⟨B, A, c, h1, h2⟩, h3, h4, h5⟩ := h
  refine (wnum_any B g s A c size An n cn ns w h1 hi (hx.weak h2) hn).mono ?_
  rintro en w' ⟨rfl, ha⟩
  exact ⟨rfl, Wi.at_ h5 h3 h4 h2 ha⟩
theorem Wi.text (h : Wi w F G g s) (An : Option Addr) (n cn : Nat) (ss : List (List UInt8)) (hx : Src w F An n cn (strs ss)) (hn : s.2.length + room ss ≤ 140737488355328) :
    Calls Tryz.prog 76 #[.pointer (some ⟨g, 0, none⟩), .slice An n cn] w (Wro w F G g (wTexts ss s)) := by
  obtain ⟨⟨B, A, c, h1, h2⟩, h3, h4, h5⟩ := h
  refine (wtext_any B g s A c An n cn ss w h1 (hx.weak h2) hn).mono ?_
  rintro en w' ⟨rfl, ha⟩
  exact ⟨rfl, Wi.at_ h5 h3 h4 h2 ha⟩
theorem Wi.block (h : Wi w F G g s) (An : Option Addr) (n cn : Nat) (l : List UInt8) (hx : Src w F An n cn (cells l)) (hn : s.2.length + 8 + n ≤ 140737488355328) :
    Calls Tryz.prog 91 #[.pointer (some ⟨g, 0, none⟩), .slice An n cn] w (Wro w F G g (wMeas 4 1048576 l s)) := by
  obtain ⟨⟨B, A, c, h1, h2⟩, h3, h4, h5⟩ := h
  refine (wblock_any B g s A c An n cn l w h1 (hx.weak h2) hn).mono ?_
  rintro en w' ⟨rfl, ha⟩
  exact ⟨rfl, Wi.at_ h5 h3 h4 h2 ha⟩
theorem src_new (w : World) (xs : List Value) (t : TypeId) : Src (w.alloc (.cells xs.toArray t)) (fun k => k = w.heap.size) (some ⟨w.heap.size, 0, none⟩) xs.length xs.length xs := by
  refine ⟨rfl, (by intro h; cases h), Nat.le_refl _, (by intro ad h _; cases h; rfl), ?_⟩
  intro ad h j u hj
  cases h
  rw [plainAdd, Nat.zero_add]
  have := cell_of_row (w.alloc (.cells xs.toArray t)) w.heap.size j xs.toArray t (0, 0) (heap_alloc_new _ _)
  rw [this]
  simpa using hj
/-- Numbers that are written out. -/
theorem Wi.nums (h : Wi w F G g s) (size : Int) (ns : List Int) (hi : ∀ x ∈ ns, I64 x) (hn : s.2.length + 8 * ns.length ≤ 140737488355328) :
    Calls Tryz.prog 77 #[.pointer (some ⟨g, 0, none⟩), .int .i64 size, .slice (some ⟨w.heap.size, 0, none⟩) ns.length ns.length] (w.alloc (.cells (ints ns).toArray 3)) (Wro w F G g (wNumsA size ns s)) := by
  have hl : (ints ns).length = ns.length := by simp [ints]
  have hs := src_new w (ints ns) 3
  rw [hl] at hs
  refine ((h.alloc (.cells (ints ns).toArray 3)).num size _ ns.length ns.length ns hi (hs.weak fun k hk => .inr hk) hn).mono ?_
  rintro en w' ⟨rfl, h1, h2⟩
  exact ⟨rfl, h1.weak (fun k hk => .inl hk) h.inF, (Kp.of_below ((Below.refl _ _).alloc (Nat.le_refl _) _) h.lt).trans (h2.weak fun k hk => .inl hk)⟩
theorem Wi.texts (h : Wi w F G g s) (ss : List (List UInt8)) (hn : s.2.length + room ss ≤ 140737488355328) :
    Calls Tryz.prog 76 #[.pointer (some ⟨g, 0, none⟩), .slice (some ⟨w.heap.size, 0, none⟩) ss.length ss.length] (w.alloc (.cells (strs ss).toArray 9)) (Wro w F G g (wTexts ss s)) := by
  have hl : (strs ss).length = ss.length := by simp [strs]
  have hs := src_new w (strs ss) 9
  rw [hl] at hs
  refine ((h.alloc (.cells (strs ss).toArray 9)).text _ ss.length ss.length ss (hs.weak fun k hk => .inr hk) hn).mono ?_
  rintro en w' ⟨rfl, h1, h2⟩
  exact ⟨rfl, h1.weak (fun k hk => .inl hk) h.inF, (Kp.of_below ((Below.refl _ _).alloc (Nat.le_refl _) _) h.lt).trans (h2.weak fun k hk => .inl hk)⟩
end

/-- A writer of images, beside a box of the call's own at gb. -/
structure Wx (w : World) (F : Nat → Prop) (G g gb : Nat) (cs : Array Value) (ty : TypeId) (s : St) (X : World) : Prop where
  wi : Wi X (fun k => F k ∨ k = gb) G g s
  kp : Kp F w X
  bx : Bx X gb cs ty
  inF : F G
section
variable {w X X' : World} {F : Nat → Prop} {G g gb : Nat} {cs : Array Value} {ty : TypeId} {s s' : St}
theorem Wx.new (h : Wi w F G g s) (cs : Array Value) (ty : TypeId) : Wx w F G g w.heap.size cs ty s (w.alloc (.cells cs ty)) :=
  ⟨h.alloc _, Kp.of_below ((Below.refl _ _).alloc (Nat.le_refl _) _) h.lt, Bx.new _ _ _, h.inF⟩
theorem Wx.done (h : Wx w F G g gb cs ty s X) : Wro w F G g s (.returned (.tuple #[])) X := ⟨rfl, h.wi.weak (fun k hk => .inl hk) h.inF, h.kp⟩
theorem Wx.below (h : Wx w F G g gb cs ty s X) (hb : Below X.heap.size X X') : Wx w F G g gb cs ty s X' :=
  ⟨h.wi.below hb, h.kp.trans (Kp.of_below hb fun k hk => h.wi.lt k (.inl hk)), h.bx.below hb, h.inF⟩
theorem Wx.drew (h : Wx w F G g gb cs ty s X) : Wx w F G g gb cs ty s X.drew := h.below ⟨rfl, rfl, rfl, Nat.le_refl _, fun _ _ => rfl⟩
theorem Wx.step {en : Ending} (h : Wx w F G g gb cs ty s X) (k : Wro X (fun k => F k ∨ k = gb) G g s' en X') : en = .returned (.tuple #[]) ∧ Wx w F G g gb cs ty s' X' :=
  ⟨k.1, k.2.1, h.kp.trans (k.2.2.weak fun _ hk => .inl hk), k.2.2.bx (.inr rfl) h.bx, h.inF⟩
theorem Wx.nums (h : Wx w F G g gb cs ty s X) (size : Int) (ns : List Int) (hi : ∀ x ∈ ns, I64 x) (hn : s.2.length + 8 * ns.length ≤ 140737488355328) :
    Calls Tryz.prog 77 #[.pointer (some ⟨g, 0, none⟩), .int .i64 size, .slice (some ⟨X.heap.size, 0, none⟩) ns.length ns.length] (X.alloc (.cells (ints ns).toArray 3)) fun en X' => en = .returned (.tuple #[]) ∧ Wx w F G g gb cs ty (wNumsA size ns s) X' :=
  (h.wi.nums size ns hi hn).mono fun _ _ k => h.step k
theorem Wx.texts (h : Wx w F G g gb cs ty s X) (ss : List (List UInt8)) (hn : s.2.length + room ss ≤ 140737488355328) :
    Calls Tryz.prog 76 #[.pointer (some ⟨g, 0, none⟩), .slice (some ⟨X.heap.size, 0, none⟩) ss.length ss.length] (X.alloc (.cells (strs ss).toArray 9)) fun en X' => en = .returned (.tuple #[]) ∧ Wx w F G g gb cs ty (wTexts ss s) X' :=
  (h.wi.texts ss hn).mono fun _ _ k => h.step k
theorem Wx.block (h : Wx w F G g gb cs ty s X) (An : Option Addr) (n cn : Nat) (l : List UInt8) (hx : Src w F An n cn (cells l)) (hn : s.2.length + 8 + n ≤ 140737488355328) :
    Calls Tryz.prog 91 #[.pointer (some ⟨g, 0, none⟩), .slice An n cn] X fun en X' => en = .returned (.tuple #[]) ∧ Wx w F G g gb cs ty (wMeas 4 1048576 l s) X' :=
  (h.wi.block An n cn l ((hx.kp h.kp).weak fun _ hk => .inl hk) hn).mono fun _ _ k => h.step k
theorem Wx.numsd (h : Wx w F G g gb cs ty s X) (size : Int) (ns : List Int) (hi : ∀ x ∈ ns, I64 x) (hn : s.2.length + 8 * ns.length ≤ 140737488355328) :
    Calls Tryz.prog 77 #[.pointer (some ⟨g, 0, none⟩), .int .i64 size, .slice (some ⟨X.heap.size, 0, none⟩) ns.length ns.length] (X.alloc (.cells (ints ns).toArray 3)).drew fun en X' => en = .returned (.tuple #[]) ∧ Wx w F G g gb cs ty (wNumsA size ns s) X' :=
  h.drew.nums size ns hi hn
theorem Wx.textsd (h : Wx w F G g gb cs ty s X) (ss : List (List UInt8)) (hn : s.2.length + room ss ≤ 140737488355328) :
    Calls Tryz.prog 76 #[.pointer (some ⟨g, 0, none⟩), .slice (some ⟨X.heap.size, 0, none⟩) ss.length ss.length] (X.alloc (.cells (strs ss).toArray 9)).drew fun en X' => en = .returned (.tuple #[]) ∧ Wx w F G g gb cs ty (wTexts ss s) X' :=
  h.drew.texts ss hn
theorem Wx.blockd (h : Wx w F G g gb cs ty s X) (An : Option Addr) (n cn : Nat) (l : List UInt8) (hx : Src w F An n cn (cells l)) (hn : s.2.length + 8 + n ≤ 140737488355328) :
    Calls Tryz.prog 91 #[.pointer (some ⟨g, 0, none⟩), .slice An n cn] X.drew fun en X' => en = .returned (.tuple #[]) ∧ Wx w F G g gb cs ty (wMeas 4 1048576 l s) X' :=
  h.drew.block An n cn l hx hn
theorem Wx.nums1d (h : Wx w F G g gb cs ty s X) (size a : Int) (ha : I64 a) (hn : s.2.length + 8 ≤ 140737488355328) :
    Calls Tryz.prog 77 #[.pointer (some ⟨g, 0, none⟩), .int .i64 size, .slice (some ⟨X.heap.size, 0, none⟩) 1 1] (X.alloc (.cells #[.int .i64 a] 3)).drew fun en X' => en = .returned (.tuple #[]) ∧ Wx w F G g gb cs ty (wNumsA size [a] s) X' :=
  h.numsd size [a] (by simp only [List.forall_mem_cons]; exact ⟨ha, by simp⟩) hn
theorem Wx.nums2d (h : Wx w F G g gb cs ty s X) (size a b : Int) (ha : I64 a) (hb : I64 b) (hn : s.2.length + 16 ≤ 140737488355328) :
    Calls Tryz.prog 77 #[.pointer (some ⟨g, 0, none⟩), .int .i64 size, .slice (some ⟨X.heap.size, 0, none⟩) 2 2] (X.alloc (.cells #[.int .i64 a, .int .i64 b] 3)).drew fun en X' => en = .returned (.tuple #[]) ∧ Wx w F G g gb cs ty (wNumsA size [a, b] s) X' :=
  h.numsd size [a, b] (by simp only [List.forall_mem_cons]; exact ⟨ha, hb, by simp⟩) hn
theorem Wx.nums3d (h : Wx w F G g gb cs ty s X) (size a b c : Int) (ha : I64 a) (hb : I64 b) (hc : I64 c) (hn : s.2.length + 24 ≤ 140737488355328) :
    Calls Tryz.prog 77 #[.pointer (some ⟨g, 0, none⟩), .int .i64 size, .slice (some ⟨X.heap.size, 0, none⟩) 3 3] (X.alloc (.cells #[.int .i64 a, .int .i64 b, .int .i64 c] 3)).drew fun en X' => en = .returned (.tuple #[]) ∧ Wx w F G g gb cs ty (wNumsA size [a, b, c] s) X' :=
  h.numsd size [a, b, c] (by simp only [List.forall_mem_cons]; exact ⟨ha, hb, hc, by simp⟩) hn
theorem Wx.nums5d (h : Wx w F G g gb cs ty s X) (size a b c d e : Int) (ha : I64 a) (hb : I64 b) (hc : I64 c) (hd : I64 d) (he : I64 e) (hn : s.2.length + 40 ≤ 140737488355328) :
    Calls Tryz.prog 77 #[.pointer (some ⟨g, 0, none⟩), .int .i64 size, .slice (some ⟨X.heap.size, 0, none⟩) 5 5] (X.alloc (.cells #[.int .i64 a, .int .i64 b, .int .i64 c, .int .i64 d, .int .i64 e] 3)).drew fun en X' => en = .returned (.tuple #[]) ∧ Wx w F G g gb cs ty (wNumsA size [a, b, c, d, e] s) X' :=
  h.numsd size [a, b, c, d, e] (by simp only [List.forall_mem_cons]; exact ⟨ha, hb, hc, hd, he, by simp⟩) hn
theorem Wx.texts1d (h : Wx w F G g gb cs ty s X) (a : Str) (hn : s.2.length + ((a.length + 8)) ≤ 140737488355328) :
    Calls Tryz.prog 76 #[.pointer (some ⟨g, 0, none⟩), .slice (some ⟨X.heap.size, 0, none⟩) 1 1] (X.alloc (.cells #[str a] 9)).drew fun en X' => en = .returned (.tuple #[]) ∧ Wx w F G g gb cs ty (wTexts [a] s) X' :=
  h.textsd [a] (by simp [room]; omega)
theorem Wx.texts2d (h : Wx w F G g gb cs ty s X) (a b : Str) (hn : s.2.length + ((a.length + 8) + (b.length + 8)) ≤ 140737488355328) :
    Calls Tryz.prog 76 #[.pointer (some ⟨g, 0, none⟩), .slice (some ⟨X.heap.size, 0, none⟩) 2 2] (X.alloc (.cells #[str a, str b] 9)).drew fun en X' => en = .returned (.tuple #[]) ∧ Wx w F G g gb cs ty (wTexts [a, b] s) X' :=
  h.textsd [a, b] (by simp [room]; omega)
theorem Wx.ptr (h : Wx w F G g gb cs ty s X) : X.cell? ⟨G, 0, none⟩ = some (.pointer (some ⟨g, 0, none⟩)) := h.wi.c0
end
end Go.Proofs.YtfljignkjmabpaaGreat

namespace Go.Proofs.YtfljignkjmabpaaGreat
set_option maxRecDepth 100000
set_option linter.unusedSimpArgs false
set_option linter.unusedVariables false
open Go.RowKit

def noSy : Sym := ⟨[], [], false, 0, false, 0, false, 0, 0⟩
theorem Syl.els {w : World} {P : Nat → Prop} {A : Option Addr} {n c : Nat} {ss : List Sym} (h : Syl w P A n c ss) : Els w P A n c 9 (fun k => symA (ss.getD k noSy)) :=
  ⟨h.nil, h.cap, h.blk, fun ad hA k hk j u hu => by
    have hk' : k < ss.length := by rw [h.len]; exact hk
    refine h.at_ ad hA k hk' j u ?_
    rw [← hu, List.getD_eq_getElem?_getD, List.getElem?_eq_getElem hk', Option.getD_some]⟩
theorem range_take {p : Nat → Bool} {k : Nat} (h : (List.range k).any p = false) : (List.range (k + 1)).any p = p k := by
  rw [List.range_succ, List.any_append, h]
  simp
theorem range_yes {p : Nat → Bool} {k n : Nat} (hk : k < n) (h : p k = true) : (List.range n).any p = true := List.any_eq_true.2 ⟨k, List.mem_range.2 hk, h⟩
theorem not_any (n : Nat) (p : Nat → Bool) : (List.range n).all p = !(List.range n).any fun k => !p k := by
  rw [List.not_any_eq_all_not]
  simp
theorem range_any {α : Type} (l : List α) (d : α) (q : α → Bool) : (List.range l.length).any (fun k => q (l.getD k d)) = l.any q := by
  rw [Bool.eq_iff_iff, List.any_eq_true, List.any_eq_true]
  constructor
  · rintro ⟨k, hk, h⟩
    have hk := List.mem_range.1 hk
    rw [List.getD_eq_getElem?_getD, List.getElem?_eq_getElem hk, Option.getD_some] at h
    exact ⟨_, List.getElem_mem hk, h⟩
  · rintro ⟨a, ha, h⟩
    obtain ⟨k, hk, rfl⟩ := List.getElem_of_mem ha
    refine ⟨k, List.mem_range.2 hk, ?_⟩
    rw [List.getD_eq_getElem?_getD, List.getElem?_eq_getElem hk, Option.getD_some]
    exact h
theorem range_all {α : Type} (l : List α) (d : α) (q : α → Bool) : (List.range l.length).all (fun k => q (l.getD k d)) = l.all q := by
  rw [not_any, range_any l d (fun a => !q a), List.not_any_eq_all_not]
  simp

set_option maxHeartbeats 1000000 in
theorem ixSym_any (A : Option Addr) (n c : Nat) (ss : List Sym) (fn : Nat) (fr : Array Value) (p : Nat → Bool) (w : World) (h : Els w (fun k => k < w.heap.size) A n c 9 (fun k => symA (ss.getD k noSy))) (hn : n ≤ 4611686018427387904) (hE : ∀ (args : Array Value) (X : World), (callFunc fn args).run Tryz.prog X = .ok (.enter fn args) X)
    (HF : ∀ k (X : World), k < n → Below w.heap.size w X → Calls Tryz.prog fn (#[.agg (symA (ss.getD k noSy))] ++ fr) X fun e w' => e = .returned (.bool (p k)) ∧ Below X.heap.size X w') :
    Calls Tryz.prog 201 #[.slice A n c, .func (.func fn) #[] fr] w fun e w' => ∃ i : Int, e = .returned (.int .i64 i) ∧ decide (0 ≤ i) = (List.range n).any p ∧ Below w.heap.size w w' := by
  have H := Lib.hid h
  have HP := Lib.hid HF
  have hcap := h.cap
  clear h HF
  go_enter Tryz.func201, Tryz.ntmps201
  go_wp2
  go_loopw [8] (fun t wr => ∃ k : Nat, k ≤ n ∧ t = .int .i64 k ∧ Below w.heap.size w wr ∧ (List.range k).any p = false) (fun t _ => n - (intOf t).toNat)
  case atStart => exact ⟨0, Nat.zero_le _, rfl, Below.refl _ _, rfl⟩
  case round =>
    obtain ⟨k, hk, rfl, hb, he⟩ := hrel
    have HE := Lib.hid he
    have HB := Lib.hid hb
    clear he hb
    by_cases hlt : k < n
    · obtain ⟨ad, rfl⟩ : ∃ ad, A = some ad := by
        cases A with
        | none => have := (H.out.nil rfl).1; omega
        | some ad => exact ⟨ad, rfl⟩
      obtain ⟨b, o, rfl⟩ := H.out.plain (by omega) rfl
      have hg := (H.out.below HB.out (fun _ h => h)).get k hlt
      have c0 := hg 0 _ rfl
      have c1 := hg 1 _ rfl
      have c2 := hg 2 _ rfl
      have c3 := hg 3 _ rfl
      have c4 := hg 4 _ rfl
      have c5 := hg 5 _ rfl
      have c6 := hg 6 _ rfl
      have c7 := hg 7 _ rfl
      have c8 := hg 8 _ rfl
      simp only [Nat.add_zero] at c0
      clear hg
      have HC := Lib.hid (HP.out k wr hlt HB.out)
      have HY := Lib.hid (fun h => range_yes (p := p) hlt h)
      have HT := Lib.hid (range_take HE.out)
      generalize ss.getD k noSy = s at *
      generalize p k = pk at *
      cases pk
      · go_wp2_with (with_reducible refine (HC.out).mono ?_; rintro e w2 ⟨rfl, hb2⟩; have HB2 := Lib.hid (HB.out.trans (hb2.mono HB.out.size)); clear hb2)
        go_roundw
        case rel => exact ⟨k + 1, by omega, by go_num, HB2.out, HT.out⟩
        case measure => simp [intOf]; omega
      · go_wp2_with (with_reducible refine (HC.out).mono ?_; rintro e w2 ⟨rfl, hb2⟩; have HB2 := Lib.hid (HB.out.trans (hb2.mono HB.out.size)); clear hb2)
        first | go_ret | skip
        exact ⟨k, rfl, by rw [HY.out trivial]; simp, HB2.out⟩
    · obtain rfl : k = n := by omega
      go_wp2
      first | go_ret | skip
      exact ⟨-1, rfl, by rw [HE.out]; rfl, HB.out⟩
theorem cfSym_any (A : Option Addr) (n c : Nat) (ss : List Sym) (fn : Nat) (fr : Array Value) (p : Nat → Bool) (w : World) (h : Els w (fun k => k < w.heap.size) A n c 9 (fun k => symA (ss.getD k noSy))) (hn : n ≤ 4611686018427387904) (hE : ∀ (args : Array Value) (X : World), (callFunc fn args).run Tryz.prog X = .ok (.enter fn args) X)
    (HF : ∀ k (X : World), k < n → Below w.heap.size w X → Calls Tryz.prog fn (#[.agg (symA (ss.getD k noSy))] ++ fr) X fun e w' => e = .returned (.bool (p k)) ∧ Below X.heap.size X w') :
    Calls Tryz.prog 168 #[.slice A n c, .func (.func fn) #[] fr] w fun e w' => e = .returned (.bool ((List.range n).any p)) ∧ Below w.heap.size w w' := by
  have HC := Lib.hid (ixSym_any A n c ss fn fr p w h hn hE HF)
  clear h HF
  go_enter Tryz.func168, Tryz.ntmps168
  go_upto_region 99 with (go_at_call 201; refine (HC.out).mono ?_; rintro e w2 ⟨i, rfl, hi, hb2⟩)
  first | go_ret | skip
  exact ⟨by rw [← hi]; rfl, hb2⟩
set_option maxHeartbeats 1000000 in
theorem ixSeg_any (A : Option Addr) (n c : Nat) (ss : List Sg) (B : Nat → Option Addr × Nat) (fn : Nat) (fr : Array Value) (p : Nat → Bool) (w : World) (h : Els w (fun k => k < w.heap.size) A n c 4 (fun k => sgA (ss.getD k noSg) (B k))) (hn : n ≤ 4611686018427387904) (hE : ∀ (args : Array Value) (X : World), (callFunc fn args).run Tryz.prog X = .ok (.enter fn args) X)
    (HF : ∀ k (X : World), k < n → Below w.heap.size w X → Calls Tryz.prog fn (#[.agg (sgA (ss.getD k noSg) (B k))] ++ fr) X fun e w' => e = .returned (.bool (p k)) ∧ Below X.heap.size X w') :
    Calls Tryz.prog 211 #[.slice A n c, .func (.func fn) #[] fr] w fun e w' => ∃ i : Int, e = .returned (.int .i64 i) ∧ decide (0 ≤ i) = (List.range n).any p ∧ Below w.heap.size w w' := by
  have H := Lib.hid h
  have HP := Lib.hid HF
  have hcap := h.cap
  clear h HF
  go_enter Tryz.func211, Tryz.ntmps211
  go_wp2
  go_loopw [8] (fun t wr => ∃ k : Nat, k ≤ n ∧ t = .int .i64 k ∧ Below w.heap.size w wr ∧ (List.range k).any p = false) (fun t _ => n - (intOf t).toNat)
  case atStart => exact ⟨0, Nat.zero_le _, rfl, Below.refl _ _, rfl⟩
  case round =>
    obtain ⟨k, hk, rfl, hb, he⟩ := hrel
    have HE := Lib.hid he
    have HB := Lib.hid hb
    clear he hb
    by_cases hlt : k < n
    · obtain ⟨ad, rfl⟩ : ∃ ad, A = some ad := by
        cases A with
        | none => have := (H.out.nil rfl).1; omega
        | some ad => exact ⟨ad, rfl⟩
      obtain ⟨b, o, rfl⟩ := H.out.plain (by omega) rfl
      have hg := (H.out.below HB.out (fun _ h => h)).get k hlt
      have c0 := hg 0 _ rfl
      have c1 := hg 1 _ rfl
      have c2 := hg 2 _ rfl
      have c3 := hg 3 _ rfl
      simp only [Nat.add_zero] at c0
      clear hg
      have HC := Lib.hid (HP.out k wr hlt HB.out)
      have HY := Lib.hid (fun h => range_yes (p := p) hlt h)
      have HT := Lib.hid (range_take HE.out)
      generalize ss.getD k noSg = s at *
      generalize B k = q at *
      generalize p k = pk at *
      cases pk
      · go_wp2_with (with_reducible refine (HC.out).mono ?_; rintro e w2 ⟨rfl, hb2⟩; have HB2 := Lib.hid (HB.out.trans (hb2.mono HB.out.size)); clear hb2)
        go_roundw
        case rel => exact ⟨k + 1, by omega, by go_num, HB2.out, HT.out⟩
        case measure => simp [intOf]; omega
      · go_wp2_with (with_reducible refine (HC.out).mono ?_; rintro e w2 ⟨rfl, hb2⟩; have HB2 := Lib.hid (HB.out.trans (hb2.mono HB.out.size)); clear hb2)
        first | go_ret | skip
        exact ⟨k, rfl, by rw [HY.out trivial]; simp, HB2.out⟩
    · obtain rfl : k = n := by omega
      go_wp2
      first | go_ret | skip
      exact ⟨-1, rfl, by rw [HE.out]; rfl, HB.out⟩
theorem cfSeg_any (A : Option Addr) (n c : Nat) (ss : List Sg) (B : Nat → Option Addr × Nat) (fn : Nat) (fr : Array Value) (p : Nat → Bool) (w : World) (h : Els w (fun k => k < w.heap.size) A n c 4 (fun k => sgA (ss.getD k noSg) (B k))) (hn : n ≤ 4611686018427387904) (hE : ∀ (args : Array Value) (X : World), (callFunc fn args).run Tryz.prog X = .ok (.enter fn args) X)
    (HF : ∀ k (X : World), k < n → Below w.heap.size w X → Calls Tryz.prog fn (#[.agg (sgA (ss.getD k noSg) (B k))] ++ fr) X fun e w' => e = .returned (.bool (p k)) ∧ Below X.heap.size X w') :
    Calls Tryz.prog 185 #[.slice A n c, .func (.func fn) #[] fr] w fun e w' => e = .returned (.bool ((List.range n).any p)) ∧ Below w.heap.size w w' := by
  have HC := Lib.hid (ixSeg_any A n c ss B fn fr p w h hn hE HF)
  clear h HF
  go_enter Tryz.func185, Tryz.ntmps185
  go_upto_region 99 with (go_at_call 211; refine (HC.out).mono ?_; rintro e w2 ⟨i, rfl, hi, hb2⟩)
  first | go_ret | skip
  exact ⟨by rw [← hi]; rfl, hb2⟩
set_option maxHeartbeats 1000000 in
theorem ixNeed_any (A : Option Addr) (n c : Nat) (ss : List Nd) (B : Nat → Option Addr × Nat) (fn : Nat) (fr : Array Value) (p : Nat → Bool) (w : World) (h : Els w (fun k => k < w.heap.size) A n c 2 (fun k => ndA (ss.getD k noNd) (B k))) (hn : n ≤ 4611686018427387904) (hE : ∀ (args : Array Value) (X : World), (callFunc fn args).run Tryz.prog X = .ok (.enter fn args) X)
    (HF : ∀ k (X : World), k < n → Below w.heap.size w X → Calls Tryz.prog fn (#[.agg (ndA (ss.getD k noNd) (B k))] ++ fr) X fun e w' => e = .returned (.bool (p k)) ∧ Below X.heap.size X w') :
    Calls Tryz.prog 212 #[.slice A n c, .func (.func fn) #[] fr] w fun e w' => ∃ i : Int, e = .returned (.int .i64 i) ∧ decide (0 ≤ i) = (List.range n).any p ∧ Below w.heap.size w w' := by
  have H := Lib.hid h
  have HP := Lib.hid HF
  have hcap := h.cap
  clear h HF
  go_enter Tryz.func212, Tryz.ntmps212
  go_wp2
  go_loopw [8] (fun t wr => ∃ k : Nat, k ≤ n ∧ t = .int .i64 k ∧ Below w.heap.size w wr ∧ (List.range k).any p = false) (fun t _ => n - (intOf t).toNat)
  case atStart => exact ⟨0, Nat.zero_le _, rfl, Below.refl _ _, rfl⟩
  case round =>
    obtain ⟨k, hk, rfl, hb, he⟩ := hrel
    have HE := Lib.hid he
    have HB := Lib.hid hb
    clear he hb
    by_cases hlt : k < n
    · obtain ⟨ad, rfl⟩ : ∃ ad, A = some ad := by
        cases A with
        | none => have := (H.out.nil rfl).1; omega
        | some ad => exact ⟨ad, rfl⟩
      obtain ⟨b, o, rfl⟩ := H.out.plain (by omega) rfl
      have hg := (H.out.below HB.out (fun _ h => h)).get k hlt
      have c0 := hg 0 _ rfl
      have c1 := hg 1 _ rfl
      simp only [Nat.add_zero] at c0
      clear hg
      have HC := Lib.hid (HP.out k wr hlt HB.out)
      have HY := Lib.hid (fun h => range_yes (p := p) hlt h)
      have HT := Lib.hid (range_take HE.out)
      generalize ss.getD k noNd = s at *
      generalize B k = q at *
      generalize p k = pk at *
      cases pk
      · go_wp2_with (with_reducible refine (HC.out).mono ?_; rintro e w2 ⟨rfl, hb2⟩; have HB2 := Lib.hid (HB.out.trans (hb2.mono HB.out.size)); clear hb2)
        go_roundw
        case rel => exact ⟨k + 1, by omega, by go_num, HB2.out, HT.out⟩
        case measure => simp [intOf]; omega
      · go_wp2_with (with_reducible refine (HC.out).mono ?_; rintro e w2 ⟨rfl, hb2⟩; have HB2 := Lib.hid (HB.out.trans (hb2.mono HB.out.size)); clear hb2)
        first | go_ret | skip
        exact ⟨k, rfl, by rw [HY.out trivial]; simp, HB2.out⟩
    · obtain rfl : k = n := by omega
      go_wp2
      first | go_ret | skip
      exact ⟨-1, rfl, by rw [HE.out]; rfl, HB.out⟩
theorem cfNeed_any (A : Option Addr) (n c : Nat) (ss : List Nd) (B : Nat → Option Addr × Nat) (fn : Nat) (fr : Array Value) (p : Nat → Bool) (w : World) (h : Els w (fun k => k < w.heap.size) A n c 2 (fun k => ndA (ss.getD k noNd) (B k))) (hn : n ≤ 4611686018427387904) (hE : ∀ (args : Array Value) (X : World), (callFunc fn args).run Tryz.prog X = .ok (.enter fn args) X)
    (HF : ∀ k (X : World), k < n → Below w.heap.size w X → Calls Tryz.prog fn (#[.agg (ndA (ss.getD k noNd) (B k))] ++ fr) X fun e w' => e = .returned (.bool (p k)) ∧ Below X.heap.size X w') :
    Calls Tryz.prog 194 #[.slice A n c, .func (.func fn) #[] fr] w fun e w' => e = .returned (.bool ((List.range n).any p)) ∧ Below w.heap.size w w' := by
  have HC := Lib.hid (ixNeed_any A n c ss B fn fr p w h hn hE HF)
  clear h HF
  go_enter Tryz.func194, Tryz.ntmps194
  go_upto_region 99 with (go_at_call 212; refine (HC.out).mono ?_; rintro e w2 ⟨i, rfl, hi, hb2⟩)
  first | go_ret | skip
  exact ⟨by rw [← hi]; rfl, hb2⟩
set_option maxHeartbeats 1000000 in
theorem ixRel_any (A : Option Addr) (n c : Nat) (ss : List Rl) (fn : Nat) (fr : Array Value) (p : Nat → Bool) (w : World) (h : Els w (fun k => k < w.heap.size) A n c 4 (fun k => rlA (ss.getD k noRl))) (hn : n ≤ 4611686018427387904) (hE : ∀ (args : Array Value) (X : World), (callFunc fn args).run Tryz.prog X = .ok (.enter fn args) X)
    (HF : ∀ k (X : World), k < n → Below w.heap.size w X → Calls Tryz.prog fn (#[.agg (rlA (ss.getD k noRl))] ++ fr) X fun e w' => e = .returned (.bool (p k)) ∧ Below X.heap.size X w') :
    Calls Tryz.prog 215 #[.slice A n c, .func (.func fn) #[] fr] w fun e w' => ∃ i : Int, e = .returned (.int .i64 i) ∧ decide (0 ≤ i) = (List.range n).any p ∧ Below w.heap.size w w' := by
  have H := Lib.hid h
  have HP := Lib.hid HF
  have hcap := h.cap
  clear h HF
  go_enter Tryz.func215, Tryz.ntmps215
  go_wp2
  go_loopw [8] (fun t wr => ∃ k : Nat, k ≤ n ∧ t = .int .i64 k ∧ Below w.heap.size w wr ∧ (List.range k).any p = false) (fun t _ => n - (intOf t).toNat)
  case atStart => exact ⟨0, Nat.zero_le _, rfl, Below.refl _ _, rfl⟩
  case round =>
    obtain ⟨k, hk, rfl, hb, he⟩ := hrel
    have HE := Lib.hid he
    have HB := Lib.hid hb
    clear he hb
    by_cases hlt : k < n
    · obtain ⟨ad, rfl⟩ : ∃ ad, A = some ad := by
        cases A with
        | none => have := (H.out.nil rfl).1; omega
        | some ad => exact ⟨ad, rfl⟩
      obtain ⟨b, o, rfl⟩ := H.out.plain (by omega) rfl
      have hg := (H.out.below HB.out (fun _ h => h)).get k hlt
      have c0 := hg 0 _ rfl
      have c1 := hg 1 _ rfl
      have c2 := hg 2 _ rfl
      have c3 := hg 3 _ rfl
      simp only [Nat.add_zero] at c0
      clear hg
      have HC := Lib.hid (HP.out k wr hlt HB.out)
      have HY := Lib.hid (fun h => range_yes (p := p) hlt h)
      have HT := Lib.hid (range_take HE.out)
      generalize ss.getD k noRl = s at *
      generalize p k = pk at *
      cases pk
      · go_wp2_with (with_reducible refine (HC.out).mono ?_; rintro e w2 ⟨rfl, hb2⟩; have HB2 := Lib.hid (HB.out.trans (hb2.mono HB.out.size)); clear hb2)
        go_roundw
        case rel => exact ⟨k + 1, by omega, by go_num, HB2.out, HT.out⟩
        case measure => simp [intOf]; omega
      · go_wp2_with (with_reducible refine (HC.out).mono ?_; rintro e w2 ⟨rfl, hb2⟩; have HB2 := Lib.hid (HB.out.trans (hb2.mono HB.out.size)); clear hb2)
        first | go_ret | skip
        exact ⟨k, rfl, by rw [HY.out trivial]; simp, HB2.out⟩
    · obtain rfl : k = n := by omega
      go_wp2
      first | go_ret | skip
      exact ⟨-1, rfl, by rw [HE.out]; rfl, HB.out⟩
theorem cfRel_any (A : Option Addr) (n c : Nat) (ss : List Rl) (fn : Nat) (fr : Array Value) (p : Nat → Bool) (w : World) (h : Els w (fun k => k < w.heap.size) A n c 4 (fun k => rlA (ss.getD k noRl))) (hn : n ≤ 4611686018427387904) (hE : ∀ (args : Array Value) (X : World), (callFunc fn args).run Tryz.prog X = .ok (.enter fn args) X)
    (HF : ∀ k (X : World), k < n → Below w.heap.size w X → Calls Tryz.prog fn (#[.agg (rlA (ss.getD k noRl))] ++ fr) X fun e w' => e = .returned (.bool (p k)) ∧ Below X.heap.size X w') :
    Calls Tryz.prog 208 #[.slice A n c, .func (.func fn) #[] fr] w fun e w' => e = .returned (.bool ((List.range n).any p)) ∧ Below w.heap.size w w' := by
  have HC := Lib.hid (ixRel_any A n c ss fn fr p w h hn hE HF)
  clear h HF
  go_enter Tryz.func208, Tryz.ntmps208
  go_upto_region 99 with (go_at_call 215; refine (HC.out).mono ?_; rintro e w2 ⟨i, rfl, hi, hb2⟩)
  first | go_ret | skip
  exact ⟨by rw [← hi]; rfl, hb2⟩
set_option maxHeartbeats 1000000 in
theorem ixInt_any (A : Option Addr) (n c : Nat) (ss : List Int) (fn : Nat) (fr : Array Value) (p : Nat → Bool) (w : World) (h : Src w (fun k => k < w.heap.size) A n c (ints ss)) (hn : n ≤ 4611686018427387904) (hE : ∀ (args : Array Value) (X : World), (callFunc fn args).run Tryz.prog X = .ok (.enter fn args) X)
    (HF : ∀ k (X : World), k < n → Below w.heap.size w X → Calls Tryz.prog fn (#[.int .i64 (ss.getD k 0)] ++ fr) X fun e w' => e = .returned (.bool (p k)) ∧ Below X.heap.size X w') :
    Calls Tryz.prog 210 #[.slice A n c, .func (.func fn) #[] fr] w fun e w' => ∃ i : Int, e = .returned (.int .i64 i) ∧ decide (0 ≤ i) = (List.range n).any p ∧ Below w.heap.size w w' := by
  have H := Lib.hid h
  have HP := Lib.hid HF
  have hcap := h.cap
  clear h HF
  go_enter Tryz.func210, Tryz.ntmps210
  go_wp2
  go_loopw [8] (fun t wr => ∃ k : Nat, k ≤ n ∧ t = .int .i64 k ∧ Below w.heap.size w wr ∧ (List.range k).any p = false) (fun t _ => n - (intOf t).toNat)
  case atStart => exact ⟨0, Nat.zero_le _, rfl, Below.refl _ _, rfl⟩
  case round =>
    obtain ⟨k, hk, rfl, hb, he⟩ := hrel
    have HE := Lib.hid he
    have HB := Lib.hid hb
    clear he hb
    by_cases hlt : k < n
    · obtain ⟨ad, rfl⟩ : ∃ ad, A = some ad := by
        cases A with
        | none => have := (H.out.nil rfl).1; omega
        | some ad => exact ⟨ad, rfl⟩
      have hlk : k < ss.length := by have := H.out.len; simp only [ints, List.length_map] at this; omega
      have hc : wr.cell? (ad.add k) = some (.int .i64 (ss.getD k 0)) := (H.out.below HB.out (fun _ h => h)).at_ ad rfl k _ (by simp [ints, hlk])
      clear hlk
      have HC := Lib.hid (HP.out k wr hlt HB.out)
      have HY := Lib.hid (fun h => range_yes (p := p) hlt h)
      have HT := Lib.hid (range_take HE.out)
      generalize ss.getD k 0 = s at *
      generalize p k = pk at *
      cases pk
      · go_wp2_with (with_reducible refine (HC.out).mono ?_; rintro e w2 ⟨rfl, hb2⟩; have HB2 := Lib.hid (HB.out.trans (hb2.mono HB.out.size)); clear hb2)
        go_roundw
        case rel => exact ⟨k + 1, by omega, by go_num, HB2.out, HT.out⟩
        case measure => simp [intOf]; omega
      · go_wp2_with (with_reducible refine (HC.out).mono ?_; rintro e w2 ⟨rfl, hb2⟩; have HB2 := Lib.hid (HB.out.trans (hb2.mono HB.out.size)); clear hb2)
        first | go_ret | skip
        exact ⟨k, rfl, by rw [HY.out trivial]; simp, HB2.out⟩
    · obtain rfl : k = n := by omega
      go_wp2
      first | go_ret | skip
      exact ⟨-1, rfl, by rw [HE.out]; rfl, HB.out⟩
theorem cfInt_any (A : Option Addr) (n c : Nat) (ss : List Int) (fn : Nat) (fr : Array Value) (p : Nat → Bool) (w : World) (h : Src w (fun k => k < w.heap.size) A n c (ints ss)) (hn : n ≤ 4611686018427387904) (hE : ∀ (args : Array Value) (X : World), (callFunc fn args).run Tryz.prog X = .ok (.enter fn args) X)
    (HF : ∀ k (X : World), k < n → Below w.heap.size w X → Calls Tryz.prog fn (#[.int .i64 (ss.getD k 0)] ++ fr) X fun e w' => e = .returned (.bool (p k)) ∧ Below X.heap.size X w') :
    Calls Tryz.prog 183 #[.slice A n c, .func (.func fn) #[] fr] w fun e w' => e = .returned (.bool ((List.range n).any p)) ∧ Below w.heap.size w w' := by
  have HC := Lib.hid (ixInt_any A n c ss fn fr p w h hn hE HF)
  clear h HF
  go_enter Tryz.func183, Tryz.ntmps183
  go_upto_region 99 with (go_at_call 210; refine (HC.out).mono ?_; rintro e w2 ⟨i, rfl, hi, hb2⟩)
  first | go_ret | skip
  exact ⟨by rw [← hi]; rfl, hb2⟩
set_option maxHeartbeats 1000000 in
theorem ixStr_any (A : Option Addr) (n c : Nat) (ss : List Str) (fn : Nat) (fr : Array Value) (p : Nat → Bool) (w : World) (h : Src w (fun k => k < w.heap.size) A n c (strs ss)) (hn : n ≤ 4611686018427387904) (hE : ∀ (args : Array Value) (X : World), (callFunc fn args).run Tryz.prog X = .ok (.enter fn args) X)
    (HF : ∀ k (X : World), k < n → Below w.heap.size w X → Calls Tryz.prog fn (#[str (ss.getD k [])] ++ fr) X fun e w' => e = .returned (.bool (p k)) ∧ Below X.heap.size X w') :
    Calls Tryz.prog 213 #[.slice A n c, .func (.func fn) #[] fr] w fun e w' => ∃ i : Int, e = .returned (.int .i64 i) ∧ decide (0 ≤ i) = (List.range n).any p ∧ Below w.heap.size w w' := by
  have H := Lib.hid h
  have HP := Lib.hid HF
  have hcap := h.cap
  clear h HF
  go_enter Tryz.func213, Tryz.ntmps213
  go_wp2
  go_loopw [8] (fun t wr => ∃ k : Nat, k ≤ n ∧ t = .int .i64 k ∧ Below w.heap.size w wr ∧ (List.range k).any p = false) (fun t _ => n - (intOf t).toNat)
  case atStart => exact ⟨0, Nat.zero_le _, rfl, Below.refl _ _, rfl⟩
  case round =>
    obtain ⟨k, hk, rfl, hb, he⟩ := hrel
    have HE := Lib.hid he
    have HB := Lib.hid hb
    clear he hb
    by_cases hlt : k < n
    · obtain ⟨ad, rfl⟩ : ∃ ad, A = some ad := by
        cases A with
        | none => have := (H.out.nil rfl).1; omega
        | some ad => exact ⟨ad, rfl⟩
      have hlk : k < ss.length := by have := H.out.len; simp only [strs, List.length_map] at this; omega
      have hc : wr.cell? (ad.add k) = some (str (ss.getD k [])) := (H.out.below HB.out (fun _ h => h)).at_ ad rfl k _ (by simp [strs, hlk])
      clear hlk
      have HC := Lib.hid (HP.out k wr hlt HB.out)
      have HY := Lib.hid (fun h => range_yes (p := p) hlt h)
      have HT := Lib.hid (range_take HE.out)
      generalize ss.getD k [] = s at *
      generalize p k = pk at *
      cases pk
      · go_wp2_with (with_reducible refine (HC.out).mono ?_; rintro e w2 ⟨rfl, hb2⟩; have HB2 := Lib.hid (HB.out.trans (hb2.mono HB.out.size)); clear hb2)
        go_roundw
        case rel => exact ⟨k + 1, by omega, by go_num, HB2.out, HT.out⟩
        case measure => simp [intOf]; omega
      · go_wp2_with (with_reducible refine (HC.out).mono ?_; rintro e w2 ⟨rfl, hb2⟩; have HB2 := Lib.hid (HB.out.trans (hb2.mono HB.out.size)); clear hb2)
        first | go_ret | skip
        exact ⟨k, rfl, by rw [HY.out trivial]; simp, HB2.out⟩
    · obtain rfl : k = n := by omega
      go_wp2
      first | go_ret | skip
      exact ⟨-1, rfl, by rw [HE.out]; rfl, HB.out⟩
theorem cfStr_any (A : Option Addr) (n c : Nat) (ss : List Str) (fn : Nat) (fr : Array Value) (p : Nat → Bool) (w : World) (h : Src w (fun k => k < w.heap.size) A n c (strs ss)) (hn : n ≤ 4611686018427387904) (hE : ∀ (args : Array Value) (X : World), (callFunc fn args).run Tryz.prog X = .ok (.enter fn args) X)
    (HF : ∀ k (X : World), k < n → Below w.heap.size w X → Calls Tryz.prog fn (#[str (ss.getD k [])] ++ fr) X fun e w' => e = .returned (.bool (p k)) ∧ Below X.heap.size X w') :
    Calls Tryz.prog 196 #[.slice A n c, .func (.func fn) #[] fr] w fun e w' => e = .returned (.bool ((List.range n).any p)) ∧ Below w.heap.size w w' := by
  have HC := Lib.hid (ixStr_any A n c ss fn fr p w h hn hE HF)
  clear h HF
  go_enter Tryz.func196, Tryz.ntmps196
  go_upto_region 99 with (go_at_call 213; refine (HC.out).mono ?_; rintro e w2 ⟨i, rfl, hi, hb2⟩)
  first | go_ret | skip
  exact ⟨by rw [← hi]; rfl, hb2⟩
set_option maxHeartbeats 1000000 in
theorem allInt1_any (v : Value) (fn : Nat) (fr : Array Value) (g : Nat) (b : Bool) (w : World) (hE : ∀ (args : Array Value) (X : World), (callFunc fn args).run Tryz.prog X = .ok (.enter fn args) X)
    (hb : w.cell? ⟨g, 0, none⟩ = some (.func (.func fn) #[] fr)) (HF : ∀ X : World, Below w.heap.size w X → Calls Tryz.prog fn (#[v] ++ fr) X fun e w' => e = .returned (.bool b) ∧ Below X.heap.size X w') :
    Calls Tryz.prog 184 #[v, .pointer (some ⟨g, 0, none⟩)] w fun e w' => e = .returned (.bool !b) ∧ Below w.heap.size w w' := by
  have HC := Lib.hid HF
  clear HF
  go_enter Tryz.func184, Tryz.ntmps184
  go_wp2_with (with_reducible refine (HC.out _ (Below.refl _ _)).mono ?_; rintro e w2 ⟨rfl, hb2⟩)
  first | go_ret | skip
  exact ⟨rfl, hb2⟩
theorem allInt_any (A : Option Addr) (n c : Nat) (ss : List Int) (fn : Nat) (fr : Array Value) (p : Nat → Bool) (w : World) (h : Src w (fun k => k < w.heap.size) A n c (ints ss)) (hn : n ≤ 4611686018427387904) (hE : ∀ (args : Array Value) (X : World), (callFunc fn args).run Tryz.prog X = .ok (.enter fn args) X)
    (HF : ∀ k (X : World), k < n → Below w.heap.size w X → Calls Tryz.prog fn (#[.int .i64 (ss.getD k 0)] ++ fr) X fun e w' => e = .returned (.bool (p k)) ∧ Below X.heap.size X w') :
    Calls Tryz.prog 122 #[.func (.func fn) #[] fr, .slice A n c] w fun e w' => e = .returned (.bool ((List.range n).all p)) ∧ Below w.heap.size w w' := by
  have hB := (Below.refl w.heap.size w).alloc (Nat.le_refl _) (.cells #[.func (.func fn) #[] fr] 176)
  have hX := Bx.new w #[.func (.func fn) #[] fr] 176
  have HC := Lib.hid (cfInt_any A n c ss 184 #[.pointer (some ⟨w.heap.size, 0, none⟩)] (fun k => !p k) (w.alloc (.cells #[.func (.func fn) #[] fr] 176)) (h.below hB (fun _ h => h) |>.lt) hn (fun _ _ => by go_simp)
    (fun k X hk hX' => allInt1_any _ fn fr w.heap.size (p k) X hE ((hX.below hX').c 0) fun Y hY => HF k Y hk (hB.trans ((hX'.mono hB.size).trans (hY.mono (Nat.le_trans hB.size hX'.size))))))
  have HB := Lib.hid hB
  have HA := Lib.hid (not_any n p)
  clear h HF hB hX
  go_enter Tryz.func122, Tryz.ntmps122
  go_upto_region 99 with (go_at_call 183; refine (HC.out).mono ?_; rintro e w2 ⟨rfl, hb2⟩)
  first | go_ret | skip
  exact ⟨by rw [HA.out]; rfl, HB.out.trans (hb2.mono HB.out.size)⟩
set_option maxHeartbeats 1000000 in
theorem allStr1_any (v : Value) (fn : Nat) (fr : Array Value) (g : Nat) (b : Bool) (w : World) (hE : ∀ (args : Array Value) (X : World), (callFunc fn args).run Tryz.prog X = .ok (.enter fn args) X)
    (hb : w.cell? ⟨g, 0, none⟩ = some (.func (.func fn) #[] fr)) (HF : ∀ X : World, Below w.heap.size w X → Calls Tryz.prog fn (#[v] ++ fr) X fun e w' => e = .returned (.bool b) ∧ Below X.heap.size X w') :
    Calls Tryz.prog 197 #[v, .pointer (some ⟨g, 0, none⟩)] w fun e w' => e = .returned (.bool !b) ∧ Below w.heap.size w w' := by
  have HC := Lib.hid HF
  clear HF
  go_enter Tryz.func197, Tryz.ntmps197
  go_wp2_with (with_reducible refine (HC.out _ (Below.refl _ _)).mono ?_; rintro e w2 ⟨rfl, hb2⟩)
  first | go_ret | skip
  exact ⟨rfl, hb2⟩
theorem allStr_any (A : Option Addr) (n c : Nat) (ss : List Str) (fn : Nat) (fr : Array Value) (p : Nat → Bool) (w : World) (h : Src w (fun k => k < w.heap.size) A n c (strs ss)) (hn : n ≤ 4611686018427387904) (hE : ∀ (args : Array Value) (X : World), (callFunc fn args).run Tryz.prog X = .ok (.enter fn args) X)
    (HF : ∀ k (X : World), k < n → Below w.heap.size w X → Calls Tryz.prog fn (#[str (ss.getD k [])] ++ fr) X fun e w' => e = .returned (.bool (p k)) ∧ Below X.heap.size X w') :
    Calls Tryz.prog 165 #[.func (.func fn) #[] fr, .slice A n c] w fun e w' => e = .returned (.bool ((List.range n).all p)) ∧ Below w.heap.size w w' := by
  have hB := (Below.refl w.heap.size w).alloc (Nat.le_refl _) (.cells #[.func (.func fn) #[] fr] 152)
  have hX := Bx.new w #[.func (.func fn) #[] fr] 152
  have HC := Lib.hid (cfStr_any A n c ss 197 #[.pointer (some ⟨w.heap.size, 0, none⟩)] (fun k => !p k) (w.alloc (.cells #[.func (.func fn) #[] fr] 152)) (h.below hB (fun _ h => h) |>.lt) hn (fun _ _ => by go_simp)
    (fun k X hk hX' => allStr1_any _ fn fr w.heap.size (p k) X hE ((hX.below hX').c 0) fun Y hY => HF k Y hk (hB.trans ((hX'.mono hB.size).trans (hY.mono (Nat.le_trans hB.size hX'.size))))))
  have HB := Lib.hid hB
  have HA := Lib.hid (not_any n p)
  clear h HF hB hX
  go_enter Tryz.func165, Tryz.ntmps165
  go_upto_region 99 with (go_at_call 196; refine (HC.out).mono ?_; rintro e w2 ⟨rfl, hb2⟩)
  first | go_ret | skip
  exact ⟨by rw [HA.out]; rfl, HB.out.trans (hb2.mono HB.out.size)⟩
set_option maxHeartbeats 1000000 in
theorem allNeed1_any (s : Nd) (q : Option Addr × Nat) (fn : Nat) (fr : Array Value) (g : Nat) (b : Bool) (w : World) (hE : ∀ (args : Array Value) (X : World), (callFunc fn args).run Tryz.prog X = .ok (.enter fn args) X)
    (hb : w.cell? ⟨g, 0, none⟩ = some (.func (.func fn) #[] fr)) (HF : ∀ X : World, Below w.heap.size w X → Calls Tryz.prog fn (#[.agg (ndA s q)] ++ fr) X fun e w' => e = .returned (.bool b) ∧ Below X.heap.size X w') :
    Calls Tryz.prog 195 #[.agg (ndA s q), .pointer (some ⟨g, 0, none⟩)] w fun e w' => e = .returned (.bool !b) ∧ Below w.heap.size w w' := by
  have HC := Lib.hid HF
  have hb1 := (Below.refl w.heap.size w).alloc (Nat.le_refl _) (.cells (ndA s q) 98)
  have hx := Bx.new w (ndA s q) 98
  have x0 := hx.c 0
  have x1 := hx.c 1
  have hb := cell_below hb1 hb
  have HB1 := Lib.hid hb1
  simp only [List.getElem?_toArray, List.getElem?_cons_succ, List.getElem?_cons_zero] at x0 x1
  clear hb1 hx
  clear HF
  go_enter Tryz.func195, Tryz.ntmps195
  go_wp2_with (with_reducible refine (HC.out _ HB1.out).mono ?_; rintro e w2 ⟨rfl, hb2⟩)
  first | go_ret | skip
  exact ⟨rfl, HB1.out.trans (hb2.mono HB1.out.size)⟩
theorem allNeed_any (A : Option Addr) (n c : Nat) (ss : List Nd) (B : Nat → Option Addr × Nat) (fn : Nat) (fr : Array Value) (p : Nat → Bool) (w : World) (h : Els w (fun k => k < w.heap.size) A n c 2 (fun k => ndA (ss.getD k noNd) (B k))) (hn : n ≤ 4611686018427387904) (hE : ∀ (args : Array Value) (X : World), (callFunc fn args).run Tryz.prog X = .ok (.enter fn args) X)
    (HF : ∀ k (X : World), k < n → Below w.heap.size w X → Calls Tryz.prog fn (#[.agg (ndA (ss.getD k noNd) (B k))] ++ fr) X fun e w' => e = .returned (.bool (p k)) ∧ Below X.heap.size X w') :
    Calls Tryz.prog 163 #[.func (.func fn) #[] fr, .slice A n c] w fun e w' => e = .returned (.bool ((List.range n).all p)) ∧ Below w.heap.size w w' := by
  have hB := (Below.refl w.heap.size w).alloc (Nat.le_refl _) (.cells #[.func (.func fn) #[] fr] 201)
  have hX := Bx.new w #[.func (.func fn) #[] fr] 201
  have HC := Lib.hid (cfNeed_any A n c ss B 195 #[.pointer (some ⟨w.heap.size, 0, none⟩)] (fun k => !p k) (w.alloc (.cells #[.func (.func fn) #[] fr] 201)) (h.lt hB) hn (fun _ _ => by go_simp)
    (fun k X hk hX' => allNeed1_any _ _ fn fr w.heap.size (p k) X hE ((hX.below hX').c 0) fun Y hY => HF k Y hk (hB.trans ((hX'.mono hB.size).trans (hY.mono (Nat.le_trans hB.size hX'.size))))))
  have HB := Lib.hid hB
  have HA := Lib.hid (not_any n p)
  clear h HF hB hX
  go_enter Tryz.func163, Tryz.ntmps163
  go_upto_region 99 with (go_at_call 194; refine (HC.out).mono ?_; rintro e w2 ⟨rfl, hb2⟩)
  first | go_ret | skip
  exact ⟨by rw [HA.out]; rfl, HB.out.trans (hb2.mono HB.out.size)⟩
end Go.Proofs.YtfljignkjmabpaaGreat
