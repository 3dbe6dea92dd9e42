/-
  The writer of images: the blocks that it leaves alone, and what it has written.
-/
import Derived.Test.YtacknedekhpklaaGreatZA
import Derived.Test.YtacknedekhpklaaGreatZCKa
namespace Go.Proofs.YtacknedekhpklaaGreat
set_option maxRecDepth 100000
set_option linter.unusedSimpArgs false
set_option linter.unusedVariables false
open Go.RowKit

/-- The blocks of F are as they were, and none is gone. -/
structure Kp (F : Nat → Prop) (w w' : World) : Prop where
  os : w'.os = w.os
  tape : w'.tape = w.tape
  output : w'.output = w.output
  size : w.heap.size ≤ w'.heap.size
  block : ∀ k, F k → w'.heap[k]? = w.heap[k]?
theorem Kp.refl (F : Nat → Prop) (w : World) : Kp F w w := ⟨rfl, rfl, rfl, Nat.le_refl _, fun _ _ => rfl⟩
theorem Kp.trans {F : Nat → Prop} {a b c : World} (h : Kp F a b) (k : Kp F b c) : Kp F a c :=
  ⟨k.os.trans h.os, k.tape.trans h.tape, k.output.trans h.output, Nat.le_trans h.size k.size, fun i hi => (k.block i hi).trans (h.block i hi)⟩
theorem Kp.weak {F F' : Nat → Prop} {a b : World} (h : Kp F a b) (hF : ∀ k, F' k → F k) : Kp F' a b := ⟨h.os, h.tape, h.output, h.size, fun i hi => h.block i (hF i hi)⟩
theorem Kp.of_below {F : Nat → Prop} {w w' : World} (h : Below w.heap.size w w') (hF : ∀ k, F k → k < w.heap.size) : Kp F w w' := ⟨h.os, h.tape, h.output, h.size, fun i hi => h.block i (hF i hi)⟩
theorem Kp.to_below {F : Nat → Prop} {B : Nat} {w w' : World} (h : Kp F w w') (hF : ∀ k, k < B → F k) : Below B w w' := ⟨h.os, h.tape, h.output, h.size, fun i hi => h.block i (hF i hi)⟩
theorem Kp.bx {F : Nat → Prop} {w w' : World} {g : Nat} {cs : Array Value} {t : TypeId} (h : Kp F w w') (hg : F g) (hb : Bx w g cs t) : Bx w' g cs t := (h.block g hg).trans hb
theorem Src.kp {F : Nat → Prop} {w w' : World} {A : Option Addr} {n c : Nat} {xs : List Value} (h : Src w F A n c xs) (k : Kp F w w') : Src w' F A n c xs := h.keep fun i hi _ => k.block i hi

/-- A writer of images at G, over a cursor's writer at g, that has written s; it leaves F alone. -/
structure Wi (w : World) (F : Nat → Prop) (G g : Nat) (s : St) : Prop where
  wr : ∃ B A c, Wr w B g s.1 A c s.2 ∧ ∀ k, F k → k ≠ g ∧ row A ≠ some k
  blk : Bx w G #[.pointer (some ⟨g, 0, none⟩)] 85
  inF : F G
  lt : ∀ k, F k → k < w.heap.size
/-- Behind a call that writes. -/
def Wro (w : World) (F : Nat → Prop) (G g : Nat) (s : St) (en : Ending) (w' : World) : Prop := en = .returned (.tuple #[]) ∧ Wi w' F G g s ∧ Kp F w w'
section
variable {w w' : World} {F F' : Nat → Prop} {G g : Nat} {s : St}
theorem Wi.c0 (h : Wi w F G g s) : w.cell? ⟨G, 0, none⟩ = some (.pointer (some ⟨g, 0, none⟩)) := h.blk.c 0
theorem Wi.below (h : Wi w F G g s) (hb : Below w.heap.size w w') : Wi w' F G g s := by
  obtain ⟨⟨B, A, c, h1, h2⟩, h3, h4, h5⟩ := h
  exact ⟨⟨B, A, c, h1.below hb, h2⟩, h3.below hb, h4, fun k hk => Nat.lt_of_lt_of_le (h5 k hk) hb.size⟩
theorem Wi.weak (h : Wi w F G g s) (hF : ∀ k, F' k → F k) (hG : F' G) : Wi w F' G g s := by
  obtain ⟨⟨B, A, c, h1, h2⟩, h3, h4, h5⟩ := h
  exact ⟨⟨B, A, c, h1, fun k hk => h2 k (hF k hk)⟩, h3, hG, fun k hk => h5 k (hF k hk)⟩
theorem Wi.alloc (h : Wi w F G g s) (o : Obj) : Wi (w.alloc o) (fun k => F k ∨ k = w.heap.size) G g s := by
  have hb : Below w.heap.size w (w.alloc o) := (Below.refl _ _).alloc (Nat.le_refl _) _
  obtain ⟨⟨B, A, c, h1, h2⟩, h3, h4, h5⟩ := h
  refine ⟨⟨B, A, c, h1.below hb, ?_⟩, h3.below hb, .inl h4, ?_⟩
  · rintro k (hk | rfl)
    · exact h2 k hk
    · have hg := h1.lt
      exact ⟨by omega, fun e => by have := (h1.rowLt _ e).2; omega⟩
  · rintro k (hk | rfl)
    · have := h5 k hk
      have := hb.size
      omega
    · simp
theorem Wi.at_ {B : Nat} {A : Option Addr} {s' : St} (h5 : ∀ k, F k → k < w.heap.size) (h3 : Bx w G #[.pointer (some ⟨g, 0, none⟩)] 85) (h4 : F G) (h2 : ∀ k, F k → k ≠ g ∧ row A ≠ some k) (ha : At w B g A s'.1 s'.2 w') : Wi w' F G g s' ∧ Kp F w w' := by
  obtain ⟨A', c', hw, hs⟩ := ha
  have hk : Kp F w w' := ⟨hs.os, hs.tape, hs.output, hs.size, fun k hk => hs.block k (h5 k hk) (h2 k hk).1 (h2 k hk).2⟩
  refine ⟨⟨⟨B, A', c', hw, fun k hk' => ⟨(h2 k hk').1, ?_⟩⟩, hk.bx h4 h3, h4, fun k hk' => Nat.lt_of_lt_of_le (h5 k hk') hs.size⟩, hk⟩
  rcases hs.row with hr | ⟨j, hj, hr⟩
  · rw [hr]; exact (h2 k hk').2
  · rw [hr]
    intro e
    injection e with e
    have := h5 k hk'
    omega
theorem Wi.num (h : Wi w F G g s) (size : Int) (An : Option Addr) (n cn : Nat) (ns : List Int) (hi : ∀ x ∈ ns, I64 x) (hx : Src w F An n cn (ints ns)) (hn : s.2.length + 8 * n ≤ 140737488355328) :
    Calls Tryz.prog 95 #[.pointer (some ⟨g, 0, none⟩), .int .i64 size, .slice An n cn] w (Wro w F G g (wNumsA size ns s)) := by
  obtain ⟨⟨B, A, c, h1, h2⟩, h3, h4, h5⟩ := h
  refine (wnum_any B g s A c size An n cn ns w h1 hi (hx.weak h2) hn).mono ?_
  rintro en w' ⟨rfl, ha⟩
  exact ⟨rfl, Wi.at_ h5 h3 h4 h2 ha⟩
theorem Wi.text (h : Wi w F G g s) (An : Option Addr) (n cn : Nat) (ss : List (List UInt8)) (hx : Src w F An n cn (strs ss)) (hn : s.2.length + room ss ≤ 140737488355328) :
    Calls Tryz.prog 94 #[.pointer (some ⟨g, 0, none⟩), .slice An n cn] w (Wro w F G g (wTexts ss s)) := by
  obtain ⟨⟨B, A, c, h1, h2⟩, h3, h4, h5⟩ := h
  refine (wtext_any B g s A c An n cn ss w h1 (hx.weak h2) hn).mono ?_
  rintro en w' ⟨rfl, ha⟩
  exact ⟨rfl, Wi.at_ h5 h3 h4 h2 ha⟩
theorem Wi.block (h : Wi w F G g s) (An : Option Addr) (n cn : Nat) (l : List UInt8) (hx : Src w F An n cn (cells l)) (hn : s.2.length + 8 + n ≤ 140737488355328) :
    Calls Tryz.prog 109 #[.pointer (some ⟨g, 0, none⟩), .slice An n cn] w (Wro w F G g (wMeas 4 1048576 l s)) := by
  obtain ⟨⟨B, A, c, h1, h2⟩, h3, h4, h5⟩ := h
  refine (wblock_any B g s A c An n cn l w h1 (hx.weak h2) hn).mono ?_
  rintro en w' ⟨rfl, ha⟩
  exact ⟨rfl, Wi.at_ h5 h3 h4 h2 ha⟩
theorem src_new (w : World) (xs : List Value) (t : TypeId) : Src (w.alloc (.cells xs.toArray t)) (fun k => k = w.heap.size) (some ⟨w.heap.size, 0, none⟩) xs.length xs.length xs := by
  refine ⟨rfl, (by intro h; cases h), Nat.le_refl _, (by intro ad h _; cases h; rfl), ?_⟩
  intro ad h j u hj
  cases h
  rw [plainAdd, Nat.zero_add]
  have := cell_of_row (w.alloc (.cells xs.toArray t)) w.heap.size j xs.toArray t (0, 0) (heap_alloc_new _ _)
  rw [this]
  simpa using hj
/-- Numbers that are written out. -/
theorem Wi.nums (h : Wi w F G g s) (size : Int) (ns : List Int) (hi : ∀ x ∈ ns, I64 x) (hn : s.2.length + 8 * ns.length ≤ 140737488355328) :
    Calls Tryz.prog 95 #[.pointer (some ⟨g, 0, none⟩), .int .i64 size, .slice (some ⟨w.heap.size, 0, none⟩) ns.length ns.length] (w.alloc (.cells (ints ns).toArray 3)) (Wro w F G g (wNumsA size ns s)) := by
  have hl : (ints ns).length = ns.length := by simp [ints]
  have hs := src_new w (ints ns) 3
  rw [hl] at hs
  refine ((h.alloc (.cells (ints ns).toArray 3)).num size _ ns.length ns.length ns hi (hs.weak fun k hk => .inr hk) hn).mono ?_
  rintro en w' ⟨rfl, h1, h2⟩
  exact ⟨rfl, h1.weak (fun k hk => .inl hk) h.inF, (Kp.of_below ((Below.refl _ _).alloc (Nat.le_refl _) _) h.lt).trans (h2.weak fun k hk => .inl hk)⟩
theorem Wi.texts (h : Wi w F G g s) (ss : List (List UInt8)) (hn : s.2.length + room ss ≤ 140737488355328) :
    Calls Tryz.prog 94 #[.pointer (some ⟨g, 0, none⟩), .slice (some ⟨w.heap.size, 0, none⟩) ss.length ss.length] (w.alloc (.cells (strs ss).toArray 9)) (Wro w F G g (wTexts ss s)) := by
  have hl : (strs ss).length = ss.length := by simp [strs]
  have hs := src_new w (strs ss) 9
  rw [hl] at hs
  refine ((h.alloc (.cells (strs ss).toArray 9)).text _ ss.length ss.length ss (hs.weak fun k hk => .inr hk) hn).mono ?_
  rintro en w' ⟨rfl, h1, h2⟩
  exact ⟨rfl, h1.weak (fun k hk => .inl hk) h.inF, (Kp.of_below ((Below.refl _ _).alloc (Nat.le_refl _) _) h.lt).trans (h2.weak fun k hk => .inl hk)⟩
end

/-- A writer of images, beside a box of the call's own at gb. -/
structure Wx (w : World) (F : Nat → Prop) (G g gb : Nat) (cs : Array Value) (ty : TypeId) (s : St) (X : World) : Prop where
  wi : Wi X (fun k => F k ∨ k = gb) G g s
  kp : Kp F w X
  bx : Bx X gb cs ty
  inF : F G
section
variable {w X X' : World} {F : Nat → Prop} {G g gb : Nat} {cs : Array Value} {ty : TypeId} {s s' : St}
theorem Wx.new (h : Wi w F G g s) (cs : Array Value) (ty : TypeId) : Wx w F G g w.heap.size cs ty s (w.alloc (.cells cs ty)) :=
  ⟨h.alloc _, Kp.of_below ((Below.refl _ _).alloc (Nat.le_refl _) _) h.lt, Bx.new _ _ _, h.inF⟩
theorem Wx.done (h : Wx w F G g gb cs ty s X) : Wro w F G g s (.returned (.tuple #[])) X := ⟨rfl, h.wi.weak (fun k hk => .inl hk) h.inF, h.kp⟩
theorem Wx.below (h : Wx w F G g gb cs ty s X) (hb : Below X.heap.size X X') : Wx w F G g gb cs ty s X' :=
  ⟨h.wi.below hb, h.kp.trans (Kp.of_below hb fun k hk => h.wi.lt k (.inl hk)), h.bx.below hb, h.inF⟩
theorem Wx.drew (h : Wx w F G g gb cs ty s X) : Wx w F G g gb cs ty s X.drew := h.below ⟨rfl, rfl, rfl, Nat.le_refl _, fun _ _ => rfl⟩
theorem Wx.step {en : Ending} (h : Wx w F G g gb cs ty s X) (k : Wro X (fun k => F k ∨ k = gb) G g s' en X') : en = .returned (.tuple #[]) ∧ Wx w F G g gb cs ty s' X' :=
  ⟨k.1, k.2.1, h.kp.trans (k.2.2.weak fun _ hk => .inl hk), k.2.2.bx (.inr rfl) h.bx, h.inF⟩
theorem Wx.nums (h : Wx w F G g gb cs ty s X) (size : Int) (ns : List Int) (hi : ∀ x ∈ ns, I64 x) (hn : s.2.length + 8 * ns.length ≤ 140737488355328) :
    Calls Tryz.prog 95 #[.pointer (some ⟨g, 0, none⟩), .int .i64 size, .slice (some ⟨X.heap.size, 0, none⟩) ns.length ns.length] (X.alloc (.cells (ints ns).toArray 3)) fun en X' => en = .returned (.tuple #[]) ∧ Wx w F G g gb cs ty (wNumsA size ns s) X' :=
  (h.wi.nums size ns hi hn).mono fun _ _ k => h.step k
theorem Wx.texts (h : Wx w F G g gb cs ty s X) (ss : List (List UInt8)) (hn : s.2.length + room ss ≤ 140737488355328) :
    Calls Tryz.prog 94 #[.pointer (some ⟨g, 0, none⟩), .slice (some ⟨X.heap.size, 0, none⟩) ss.length ss.length] (X.alloc (.cells (strs ss).toArray 9)) fun en X' => en = .returned (.tuple #[]) ∧ Wx w F G g gb cs ty (wTexts ss s) X' :=
  (h.wi.texts ss hn).mono fun _ _ k => h.step k
theorem Wx.block (h : Wx w F G g gb cs ty s X) (An : Option Addr) (n cn : Nat) (l : List UInt8) (hx : Src w F An n cn (cells l)) (hn : s.2.length + 8 + n ≤ 140737488355328) :
    Calls Tryz.prog 109 #[.pointer (some ⟨g, 0, none⟩), .slice An n cn] X fun en X' => en = .returned (.tuple #[]) ∧ Wx w F G g gb cs ty (wMeas 4 1048576 l s) X' :=
  (h.wi.block An n cn l ((hx.kp h.kp).weak fun _ hk => .inl hk) hn).mono fun _ _ k => h.step k
theorem Wx.numsd (h : Wx w F G g gb cs ty s X) (size : Int) (ns : List Int) (hi : ∀ x ∈ ns, I64 x) (hn : s.2.length + 8 * ns.length ≤ 140737488355328) :
    Calls Tryz.prog 95 #[.pointer (some ⟨g, 0, none⟩), .int .i64 size, .slice (some ⟨X.heap.size, 0, none⟩) ns.length ns.length] (X.alloc (.cells (ints ns).toArray 3)).drew fun en X' => en = .returned (.tuple #[]) ∧ Wx w F G g gb cs ty (wNumsA size ns s) X' :=
  h.drew.nums size ns hi hn
theorem Wx.textsd (h : Wx w F G g gb cs ty s X) (ss : List (List UInt8)) (hn : s.2.length + room ss ≤ 140737488355328) :
    Calls Tryz.prog 94 #[.pointer (some ⟨g, 0, none⟩), .slice (some ⟨X.heap.size, 0, none⟩) ss.length ss.length] (X.alloc (.cells (strs ss).toArray 9)).drew fun en X' => en = .returned (.tuple #[]) ∧ Wx w F G g gb cs ty (wTexts ss s) X' :=
  h.drew.texts ss hn
theorem Wx.blockd (h : Wx w F G g gb cs ty s X) (An : Option Addr) (n cn : Nat) (l : List UInt8) (hx : Src w F An n cn (cells l)) (hn : s.2.length + 8 + n ≤ 140737488355328) :
    Calls Tryz.prog 109 #[.pointer (some ⟨g, 0, none⟩), .slice An n cn] X.drew fun en X' => en = .returned (.tuple #[]) ∧ Wx w F G g gb cs ty (wMeas 4 1048576 l s) X' :=
  h.drew.block An n cn l hx hn
theorem Wx.nums1 (h : Wx w F G g gb cs ty s X) (size a : Int) (ha : I64 a) (hn : s.2.length + 8 ≤ 140737488355328) :
    Calls Tryz.prog 95 #[.pointer (some ⟨g, 0, none⟩), .int .i64 size, .slice (some ⟨X.heap.size, 0, none⟩) 1 1] (X.alloc (.cells #[.int .i64 a] 3)) fun en X' => en = .returned (.tuple #[]) ∧ Wx w F G g gb cs ty (wNumsA size [a] s) X' :=
  h.nums size [a] (by simp only [List.forall_mem_cons]; exact ⟨ha, by simp⟩) hn
theorem Wx.nums2 (h : Wx w F G g gb cs ty s X) (size a b : Int) (ha : I64 a) (hb : I64 b) (hn : s.2.length + 16 ≤ 140737488355328) :
    Calls Tryz.prog 95 #[.pointer (some ⟨g, 0, none⟩), .int .i64 size, .slice (some ⟨X.heap.size, 0, none⟩) 2 2] (X.alloc (.cells #[.int .i64 a, .int .i64 b] 3)) fun en X' => en = .returned (.tuple #[]) ∧ Wx w F G g gb cs ty (wNumsA size [a, b] s) X' :=
  h.nums size [a, b] (by simp only [List.forall_mem_cons]; exact ⟨ha, hb, by simp⟩) hn
theorem Wx.texts1 (h : Wx w F G g gb cs ty s X) (a : Str) (hn : s.2.length + ((a.length + 8)) ≤ 140737488355328) :
    Calls Tryz.prog 94 #[.pointer (some ⟨g, 0, none⟩), .slice (some ⟨X.heap.size, 0, none⟩) 1 1] (X.alloc (.cells #[str a] 9)) fun en X' => en = .returned (.tuple #[]) ∧ Wx w F G g gb cs ty (wTexts [a] s) X' :=
  h.texts [a] (by simp [room]; omega)
theorem Wx.texts2 (h : Wx w F G g gb cs ty s X) (a b : Str) (hn : s.2.length + ((a.length + 8) + (b.length + 8)) ≤ 140737488355328) :
    Calls Tryz.prog 94 #[.pointer (some ⟨g, 0, none⟩), .slice (some ⟨X.heap.size, 0, none⟩) 2 2] (X.alloc (.cells #[str a, str b] 9)) fun en X' => en = .returned (.tuple #[]) ∧ Wx w F G g gb cs ty (wTexts [a, b] s) X' :=
  h.texts [a, b] (by simp [room]; omega)
theorem Wx.nums1d (h : Wx w F G g gb cs ty s X) (size a : Int) (ha : I64 a) (hn : s.2.length + 8 ≤ 140737488355328) :
    Calls Tryz.prog 95 #[.pointer (some ⟨g, 0, none⟩), .int .i64 size, .slice (some ⟨X.heap.size, 0, none⟩) 1 1] (X.alloc (.cells #[.int .i64 a] 3)).drew fun en X' => en = .returned (.tuple #[]) ∧ Wx w F G g gb cs ty (wNumsA size [a] s) X' :=
  h.numsd size [a] (by simp only [List.forall_mem_cons]; exact ⟨ha, by simp⟩) hn
theorem Wx.nums2d (h : Wx w F G g gb cs ty s X) (size a b : Int) (ha : I64 a) (hb : I64 b) (hn : s.2.length + 16 ≤ 140737488355328) :
    Calls Tryz.prog 95 #[.pointer (some ⟨g, 0, none⟩), .int .i64 size, .slice (some ⟨X.heap.size, 0, none⟩) 2 2] (X.alloc (.cells #[.int .i64 a, .int .i64 b] 3)).drew fun en X' => en = .returned (.tuple #[]) ∧ Wx w F G g gb cs ty (wNumsA size [a, b] s) X' :=
  h.numsd size [a, b] (by simp only [List.forall_mem_cons]; exact ⟨ha, hb, by simp⟩) hn
theorem Wx.nums3d (h : Wx w F G g gb cs ty s X) (size a b c : Int) (ha : I64 a) (hb : I64 b) (hc : I64 c) (hn : s.2.length + 24 ≤ 140737488355328) :
    Calls Tryz.prog 95 #[.pointer (some ⟨g, 0, none⟩), .int .i64 size, .slice (some ⟨X.heap.size, 0, none⟩) 3 3] (X.alloc (.cells #[.int .i64 a, .int .i64 b, .int .i64 c] 3)).drew fun en X' => en = .returned (.tuple #[]) ∧ Wx w F G g gb cs ty (wNumsA size [a, b, c] s) X' :=
  h.numsd size [a, b, c] (by simp only [List.forall_mem_cons]; exact ⟨ha, hb, hc, by simp⟩) hn
theorem Wx.nums5d (h : Wx w F G g gb cs ty s X) (size a b c d e : Int) (ha : I64 a) (hb : I64 b) (hc : I64 c) (hd : I64 d) (he : I64 e) (hn : s.2.length + 40 ≤ 140737488355328) :
    Calls Tryz.prog 95 #[.pointer (some ⟨g, 0, none⟩), .int .i64 size, .slice (some ⟨X.heap.size, 0, none⟩) 5 5] (X.alloc (.cells #[.int .i64 a, .int .i64 b, .int .i64 c, .int .i64 d, .int .i64 e] 3)).drew fun en X' => en = .returned (.tuple #[]) ∧ Wx w F G g gb cs ty (wNumsA size [a, b, c, d, e] s) X' :=
  h.numsd size [a, b, c, d, e] (by simp only [List.forall_mem_cons]; exact ⟨ha, hb, hc, hd, he, by simp⟩) hn
theorem Wx.texts1d (h : Wx w F G g gb cs ty s X) (a : Str) (hn : s.2.length + ((a.length + 8)) ≤ 140737488355328) :
    Calls Tryz.prog 94 #[.pointer (some ⟨g, 0, none⟩), .slice (some ⟨X.heap.size, 0, none⟩) 1 1] (X.alloc (.cells #[str a] 9)).drew fun en X' => en = .returned (.tuple #[]) ∧ Wx w F G g gb cs ty (wTexts [a] s) X' :=
  h.textsd [a] (by simp [room]; omega)
theorem Wx.texts2d (h : Wx w F G g gb cs ty s X) (a b : Str) (hn : s.2.length + ((a.length + 8) + (b.length + 8)) ≤ 140737488355328) :
    Calls Tryz.prog 94 #[.pointer (some ⟨g, 0, none⟩), .slice (some ⟨X.heap.size, 0, none⟩) 2 2] (X.alloc (.cells #[str a, str b] 9)).drew fun en X' => en = .returned (.tuple #[]) ∧ Wx w F G g gb cs ty (wTexts [a, b] s) X' :=
  h.textsd [a, b] (by simp [room]; omega)
theorem Wx.ptr (h : Wx w F G g gb cs ty s X) : X.cell? ⟨G, 0, none⟩ = some (.pointer (some ⟨g, 0, none⟩)) := h.wi.c0
end
end Go.Proofs.YtacknedekhpklaaGreat
