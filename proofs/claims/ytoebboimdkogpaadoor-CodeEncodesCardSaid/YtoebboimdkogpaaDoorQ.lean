/-
  Parse: the program's.
-/
import Derived.Test.YtoebboimdkogpaaDoorO
import Derived.Test.YtoebboimdkogpaaDoorP
import Derived.RangeFuncFrom
import Derived.RangeFuncBox
import Derived.RangeFuncLeaves
namespace Go.Proofs.YtoebboimdkogpaaDoor
open Go.RowKit
attribute [local go_sem] Oper.semAt_some

theorem lines_any (s : Str) (w : World) : Calls Tryd.prog 40 #[str s] w fun e w' => e = .returned (.func (.func 47) #[] #[.pointer (some ⟨w.heap.size, 0, none⟩)]) ∧ w' = w.alloc (.cells #[str s] 9) := by
  go_enter Tryd.func40, Tryd.ntmps40
  go_wp2
  go_ret
  exact ⟨rfl, rfl⟩
theorem trimN_any (x : Str) (w : World) (h : x.length ≤ 9223372036854775807) : Calls Tryd.prog 42 #[str x, .string ⟨#[10]⟩] w fun e w' => e = .returned (str (Lib.trimSuffix x [10])) ∧ w' = w :=
  Tryd.strings_TrimSuffix ⟨x.toArray⟩ ⟨#[10]⟩ w (by simpa [ByteArray.size] using h)
theorem trimN_len (x : Str) : (Lib.trimSuffix x [10]).length ≤ x.length := by
  unfold Lib.trimSuffix
  split
  · rw [List.length_take]; omega
  · exact Nat.le_refl _

/-- Where Parse stands: its results' blocks, and the instructions that it has. -/
structure PIn (w0 : World) (pre : List Str) (W : World) : Prop where
  below : Below w0.heap.size w0 W
  b2 : Bx W w0.heap.size #[.slice none 0 0] 22
  b3 : Bx W (w0.heap.size + 1) #[.int .i64 0] 3
  b4 : Bx W (w0.heap.size + 2) #[.int .i64 0] 25
  sz : w0.heap.size + 5 ≤ W.heap.size
  have_ : ∃ (is : List Ins) (A : Option Addr) (c : Nat), pre.map typedM = is.map some ∧ Bx W (w0.heap.size + 3) #[.slice A is.length c] 22 ∧ W.ownsRow (w0.heap.size + 5) 35 5 (.slice A is.length c) is.length (icells is)
/-- Where Parse has left its lines. -/
structure POut (w0 : World) (pre : List Str) (W : World) : Prop where
  below : Below w0.heap.size w0 W
  b2 : Bx W w0.heap.size #[.slice none 0 0] 22
  b3 : Bx W (w0.heap.size + 1) #[.int .i64 pre.length] 3
  b4 : Bx W (w0.heap.size + 2) #[.int .i64 41] 25
  bad : ∃ p x, pre = p ++ [x] ∧ (∀ y ∈ p, typedM y ≠ none) ∧ typedM x = none
theorem Bx.put {w : World} {g : Nat} {cs : Array Value} {t : TypeId} (h : Bx w g cs t) (l : Nat) (o : Obj) (hl : g ≠ l) : Bx (w.putObj l o) g cs t := (World.putObj_heap_other hl).trans h
theorem POut.put {w0 : World} {pre : List Str} {W : World} (h : POut w0 pre W) (l : Nat) (o' : Obj) (hl : w0.heap.size + 4 ≤ l) : POut w0 pre (W.putObj l o') := by
  have hb : ∀ {g : Nat} {cs : Array Value} {t : TypeId}, Bx W g cs t → g < w0.heap.size + 4 → Bx (W.putObj l o') g cs t := fun h1 h2 => h1.put l o' (by omega)
  exact ⟨h.below.grown (grownBy_putObj' W l o') h.below.size (fun k hk => by cases hk; omega), hb h.b2 (by omega), hb h.b3 (by omega), hb h.b4 (by omega), h.bad⟩
theorem PIn.grown {w0 : World} {pre : List Str} {W W' : World} (h : PIn w0 pre W) (r : Option Nat) (hg : W.grownBy W' r) (hr : ∀ k, r = some k → w0.heap.size + 4 ≤ k) (hno : ∀ (k : Nat) (is : List Ins) A c, r = some k → W.ownsRow (w0.heap.size + 5) 35 5 (.slice A is.length c) is.length (icells is) → (Value.slice A is.length c).ownBlock ≠ some k) : PIn w0 pre W' := by
  have hb : ∀ {g : Nat} {cs : Array Value} {t : TypeId}, Bx W g cs t → g < w0.heap.size + 4 → Bx W' g cs t := fun h1 h2 => (hg.block _ h1.lt (by intro e; have := hr _ e.symm; omega)).trans h1
  obtain ⟨is, A, c, h1, h2, h3⟩ := h.have_
  refine ⟨h.below.grown hg h.below.size (fun k hk => by have := hr k hk; omega), hb h.b2 (by omega), hb h.b3 (by omega), hb h.b4 (by omega), Nat.le_trans h.sz hg.size,
    is, A, c, h1, hb h2 (by omega), ?_⟩
  refine h3.kept hg ?_
  cases r with
  | none => cases A with
    | none => exact .inl rfl
    | some a => exact .inr (by intro e; cases e)
  | some k => exact .inr (hno k is A c rfl h3)
theorem PIn.set {w0 : World} {pre : List Str} {W : World} (h : PIn w0 pre W) (v : Value) : PIn w0 pre (W.setCell ⟨w0.heap.size + 4, 0, none⟩ v) :=
  h.grown (some (w0.heap.size + 4)) (grownBy_setCell' W (w0.heap.size + 4) v) (fun k e => by cases e; exact Nat.le_refl _) (fun k is A c e ho e2 => by cases e; have := (ho.lt _ e2).1; omega)
theorem PIn.put {w0 : World} {pre : List Str} {W : World} (h : PIn w0 pre W) (l : Nat) (o o' : Obj) (hl : w0.heap.size + 4 ≤ l) (ho : W.heap[l]? = some o) (hc : o.isCells = false) : PIn w0 pre (W.putObj l o') := by
  have hb : ∀ {g : Nat} {cs : Array Value} {t : TypeId}, Bx W g cs t → g < w0.heap.size + 4 → Bx (W.putObj l o') g cs t := fun h1 h2 => h1.put l o' (by omega)
  obtain ⟨is, A, c, h1, h2, h3⟩ := h.have_
  exact ⟨h.below.grown (grownBy_putObj' W l o') h.below.size (fun k hk => by cases hk; omega), hb h.b2 (by omega), hb h.b3 (by omega), hb h.b4 (by omega), by simpa using h.sz,
    is, A, c, h1, hb h2 (by omega), ownsRow_putObj h3 o' ho hc⟩
theorem PIn.below' {w0 : World} {pre : List Str} {W W' : World} (h : PIn w0 pre W) (hb : Below W.heap.size W W') : PIn w0 pre W' :=
  h.grown none ⟨hb.os, hb.tape, hb.output, hb.size, fun k hk _ => hb.block k hk⟩ (fun k e => by cases e) (fun k _ _ _ e => by cases e)

theorem own_cells {W : World} {base : Nat} {e : TypeId} {sz : Nat} {v : Value} {n : Nat} {xs : List Value} (h : W.ownsRow base e sz v n xs) : ∀ (j : Nat) (o : Obj), v.ownBlock = some j → W.heap[j]? = some o → o.isCells = true := by
  intro j o hj ho
  rcases h.2 with ⟨rfl, _⟩ | ⟨g, cap, cur, rfl, _, hh, _⟩
  · cases hj
  · cases hj
    rw [hh] at ho
    cases ho
    rfl
theorem low_block {W3 w4 : World} {b : Nat} {e : TypeId} {sz : Nat} {v : Value} {n : Nat} {xs : List Value} {o : Obj} (hg : (W3.alloc o).grownBy w4 v.ownBlock) (hown : W3.ownsRow b e sz v n xs) {g : Nat} (h : g < b) (hb : b ≤ W3.heap.size) : w4.heap[g]? = W3.heap[g]? :=
  (hg.block g (by rw [World.size_alloc]; omega) (by intro e; have := (hown.lt _ e.symm).1; omega)).trans (Below.heap_alloc W3 o g (by omega))
theorem PIn.more {w0 W3 w4 : World} {pre : List Str} {is : List Ins} {A A' : Option Addr} {c c' : Nat} {i : Ins} {x : Str} (h : PIn w0 pre W3)
    (his : Bx W3 (w0.heap.size + 3) #[.slice A pre.length c] 22) (hown : W3.ownsRow (w0.heap.size + 5) 35 5 (.slice A pre.length c) pre.length (icells is)) (hl : is.length = pre.length)
    (hmap : pre.map typedM = is.map some) (hty : typedM x = some i) (o : Obj) (hg : (W3.alloc o).grownBy w4 (Value.slice A pre.length c).ownBlock)
    (hown' : w4.ownsRow (w0.heap.size + 5) 35 5 (.slice A' (pre.length + 1) c') (pre.length + 1) (icells is ++ insC i)) :
    PIn w0 (pre ++ [x]) (w4.setCell ⟨w0.heap.size + 3, 0, none⟩ (.slice A' (pre.length + 1) c')) ∧ KeepsOthers W3 (w4.setCell ⟨w0.heap.size + 3, 0, none⟩ (.slice A' (pre.length + 1) c')) ∧
    (w4.setCell ⟨w0.heap.size + 3, 0, none⟩ (.slice A' (pre.length + 1) c')).heap[w0.heap.size + 4]? = W3.heap[w0.heap.size + 4]? ∧
    w4.cell? ⟨w0.heap.size + 1 + 1 + 1, 0, none⟩ = some (.slice A pre.length c) ∧ w4.frozen? ⟨w0.heap.size + 1 + 1 + 1, 0, none⟩ = false := by
  have hsz := h.sz
  have hlow : ∀ g, g < w0.heap.size + 5 → w4.heap[g]? = W3.heap[g]? := fun g hg5 =>
    (hg.block g (by rw [World.size_alloc]; omega) (by intro e; have := (hown.lt _ e.symm).1; omega)).trans (Below.heap_alloc W3 o g (by omega))
  have hset : ∀ g, g < w0.heap.size + 5 → g ≠ w0.heap.size + 3 → (w4.setCell ⟨w0.heap.size + 3, 0, none⟩ (.slice A' (pre.length + 1) c')).heap[g]? = W3.heap[g]? := fun g h1 h2 =>
    (Below.heap_setCell w4 _ _ g (by simpa using h2)).trans (hlow g h1)
  have hb4 : Bx w4 (w0.heap.size + 3) #[.slice A pre.length c] 22 := (hlow _ (by omega)).trans his
  have hgs := hg.size
  rw [World.size_alloc] at hgs
  refine ⟨⟨?_, (hset _ (by omega) (by omega)).trans h.b2, (hset _ (by omega) (by omega)).trans h.b3, (hset _ (by omega) (by omega)).trans h.b4, ?_, is ++ [i], A', c', ?_, ?_, ?_⟩, ?_, hset _ (by omega) (by omega), hb4.c 0, hb4.f 0⟩
  · have h1 := ((h.below.alloc h.below.size o).grown hg (by have := h.below.size; rw [World.size_alloc]; omega) (fun k hk => by have := (hown.lt _ hk).1; omega))
    exact h1.grown (grownBy_setCell' w4 (w0.heap.size + 3) _) h1.size (fun k e => by cases e; omega)
  · exact Nat.le_trans (by omega : w0.heap.size + 5 ≤ w4.heap.size) (grownBy_setCell' w4 (w0.heap.size + 3) (.slice A' (pre.length + 1) c')).size
  · simp [hmap, hty]
  · rw [List.length_append, List.length_singleton, hl]
    exact heap_setCell_same w4 _ 0 _ _ _ hb4
  · rw [icells_app, List.length_append, List.length_singleton, hl]
    have h2 : icells [i] = insC i := by simp [icells]
    rw [h2]
    exact hown'.kept (grownBy_setCell' w4 (w0.heap.size + 3) _) (.inr (fun e => by have := (hown'.lt _ e).1; omega))
  · exact ((KeepsOthers.alloc W3 o).trans (KeepsOthers.of_grownBy hg (own_cells (hown.alloc o)))).trans (KeepsOthers.setCell _ _ _)

theorem wrapN (n : Nat) (h : n < 140737488355328) : IntKind.i64.wrap ((n : Int) + 1) = ((n + 1 : Nat) : Int) := by
  rw [IntKind.wrap_i64]
  omega
theorem PIn.bad {w0 W3 : World} {pre : List Str} {x : Str} (h : PIn w0 pre W3) (hty : typedM x = none) (v : Int) (hv : v = ((pre.length + 1 : Nat) : Int)) :
    KeepsOthers W3 (((W3.setCell ⟨w0.heap.size, 0, none⟩ (.slice none 0 0)).setCell ⟨w0.heap.size + 1, 0, none⟩ (.int .i64 v)).setCell ⟨w0.heap.size + 1 + 1, 0, none⟩ (.int .i64 41)).drew ∧
    POut w0 (pre ++ [x]) (((W3.setCell ⟨w0.heap.size, 0, none⟩ (.slice none 0 0)).setCell ⟨w0.heap.size + 1, 0, none⟩ (.int .i64 v)).setCell ⟨w0.heap.size + 1 + 1, 0, none⟩ (.int .i64 41)).drew := by
  subst hv
  have hk : KeepsOthers W3 (((W3.setCell ⟨w0.heap.size, 0, none⟩ (.slice none 0 0)).setCell ⟨w0.heap.size + 1, 0, none⟩ (.int .i64 ((pre.length + 1 : Nat) : Int))).setCell ⟨w0.heap.size + 1 + 1, 0, none⟩ (.int .i64 41)) :=
    ((KeepsOthers.setCell _ _ _).trans (KeepsOthers.setCell _ _ _)).trans (KeepsOthers.setCell _ _ _)
  have hb1 := h.below.grown (grownBy_setCell' W3 w0.heap.size (.slice none 0 0)) h.below.size (fun k e => by cases e; omega)
  have hb2 := hb1.grown (grownBy_setCell' _ (w0.heap.size + 1) (.int .i64 ((pre.length + 1 : Nat) : Int))) hb1.size (fun k e => by cases e; omega)
  have hb3 := hb2.grown (grownBy_setCell' _ (w0.heap.size + 1 + 1) (.int .i64 41)) hb2.size (fun k e => by cases e; omega)
  have x2 : Bx _ _ _ _ := heap_setCell_same W3 w0.heap.size 0 _ _ (.slice none 0 0) h.b2
  have x3 := h.b3.other (a := ⟨w0.heap.size, 0, none⟩) (by simp) (.slice none 0 0)
  have x4 := (h.b4.other (a := ⟨w0.heap.size, 0, none⟩) (by simp) (.slice none 0 0)).other (a := ⟨w0.heap.size + 1, 0, none⟩) (by simp) (.int .i64 ((pre.length + 1 : Nat) : Int))
  have y3 : Bx _ _ _ _ := heap_setCell_same _ (w0.heap.size + 1) 0 _ _ (.int .i64 ((pre.length + 1 : Nat) : Int)) x3
  have y4 : Bx _ _ _ _ := heap_setCell_same _ (w0.heap.size + 1 + 1) 0 _ _ (.int .i64 41) x4
  obtain ⟨is, _, _, hmap, _⟩ := h.have_
  refine ⟨⟨hk.size, hk.same⟩, ⟨hb3.os, hb3.tape, hb3.output, hb3.size, hb3.block⟩, ?_, ?_, y4, pre, x, rfl, ?_, hty⟩
  · exact (x2.other (a := ⟨w0.heap.size + 1, 0, none⟩) (by simp) _).other (a := ⟨w0.heap.size + 1 + 1, 0, none⟩) (by simp; omega) _
  · have := y3.other (a := ⟨w0.heap.size + 1 + 1, 0, none⟩) (by simp) (.int .i64 41)
    rw [List.length_append, List.length_singleton]
    exact this
  · intro y hy e
    have h1 : typedM y ∈ pre.map typedM := List.mem_map_of_mem hy
    rw [hmap, e] at h1
    simp at h1
theorem PIn.fin {w0 W : World} {pre : List Str} {is : List Ins} {A : Option Addr} {c : Nat} (h : PIn w0 pre W) (hown : W.ownsRow (w0.heap.size + 5) 35 5 (.slice A is.length c) is.length (icells is)) (D : Nat) (hD : w0.heap.size + 5 ≤ D) (o' : Obj) (o : Obj) (hK : W.heap[D]? = some o) (hoc : o.isCells = false) {W4 : World}
    (hW : W4 = (((W.setCell ⟨w0.heap.size, 0, none⟩ (.slice A is.length c)).setCell ⟨w0.heap.size + 1, 0, none⟩ (.int .i64 0)).setCell ⟨w0.heap.size + 1 + 1, 0, none⟩ (.int .i64 0)).putObj D o') :
    Below w0.heap.size w0 W4 ∧ W4.cell? ⟨w0.heap.size, 0, none⟩ = some (.slice A is.length c) ∧ W4.cell? ⟨w0.heap.size + 1, 0, none⟩ = some (.int .i64 0) ∧ W4.cell? ⟨w0.heap.size + 1 + 1, 0, none⟩ = some (.int .i64 0) ∧ W4.ownsRow w0.heap.size 35 5 (.slice A is.length c) is.length (icells is) := by
  subst hW
  have hb1 := h.below.grown (grownBy_setCell' W w0.heap.size (.slice A is.length c)) h.below.size (fun k e => by cases e; omega)
  have hb2 := hb1.grown (grownBy_setCell' _ (w0.heap.size + 1) (.int .i64 0)) hb1.size (fun k e => by cases e; omega)
  have hb3 := hb2.grown (grownBy_setCell' _ (w0.heap.size + 1 + 1) (.int .i64 0)) hb2.size (fun k e => by cases e; omega)
  have hb4 := hb3.grown (grownBy_putObj' _ D o') hb3.size (fun k e => by cases e; omega)
  have x2 : Bx _ _ _ _ := heap_setCell_same W w0.heap.size 0 _ _ (.slice A is.length c) h.b2
  have x3 := h.b3.other (a := ⟨w0.heap.size, 0, none⟩) (by simp) (.slice A is.length c)
  have x4 := (h.b4.other (a := ⟨w0.heap.size, 0, none⟩) (by simp) (.slice A is.length c)).other (a := ⟨w0.heap.size + 1, 0, none⟩) (by simp) (.int .i64 0)
  have y3 : Bx _ _ _ _ := heap_setCell_same _ (w0.heap.size + 1) 0 _ _ (.int .i64 0) x3
  have y4 : Bx _ _ _ _ := heap_setCell_same _ (w0.heap.size + 1 + 1) 0 _ _ (.int .i64 0) x4
  have z2 := (x2.other (a := ⟨w0.heap.size + 1, 0, none⟩) (by simp) (.int .i64 0)).other (a := ⟨w0.heap.size + 1 + 1, 0, none⟩) (by simp; omega) (.int .i64 0)
  have z3 := y3.other (a := ⟨w0.heap.size + 1 + 1, 0, none⟩) (by simp) (.int .i64 0)
  have k1 := hown.kept (grownBy_setCell' W w0.heap.size (.slice A is.length c)) (.inr (fun e => by have := (hown.lt _ e).1; omega))
  have k2 := k1.kept (grownBy_setCell' _ (w0.heap.size + 1) (.int .i64 0)) (.inr (fun e => by have := (hown.lt _ e).1; omega))
  have k3 := k2.kept (grownBy_setCell' _ (w0.heap.size + 1 + 1) (.int .i64 0)) (.inr (fun e => by have := (hown.lt _ e).1; omega))
  have hK3 : (((W.setCell ⟨w0.heap.size, 0, none⟩ (.slice A is.length c)).setCell ⟨w0.heap.size + 1, 0, none⟩ (.int .i64 0)).setCell ⟨w0.heap.size + 1 + 1, 0, none⟩ (.int .i64 0)).heap[D]? = some o :=
    (Below.heap_setCell _ _ _ D (by simp; omega)).trans ((Below.heap_setCell _ _ _ D (by simp; omega)).trans ((Below.heap_setCell _ _ _ D (by simp; omega)).trans hK))
  exact ⟨hb4, (z2.put D o' (by omega)).c 0, (z3.put D o' (by omega)).c 0, (y4.put D o' (by omega)).c 0, own_more (ownsRow_putObj k3 o' hK3 hoc) (by omega)⟩

/-- How a round's body may be left. -/
def linePost (I Ix : List Str → World → Prop) (xs : List Str) (g : Nat) (W : World) : Exit → Act → World → Prop
  | .normal, _, W' => KeepsOthers W W' ∧ I xs W' ∧ W'.heap[g]? = W.heap[g]?
  | .ret, _, W' => KeepsOthers W W' ∧ Ix xs W'
  | .exit _, _, _ => False
  | .goto _, _, _ => False
  | .panic _, _, _ => False
  | .outgrown, _, _ => False

/-- A loop over a text's lines. -/
theorem range_lines (n : Nat) (hn : 2 ≤ n) {g : Operand} {ps : Array Tmp} {assign body : Code} {Q : Exit → Act → World → Prop} {a : Act} {w : World} (b : Nat) (s : Str) (hs : s.length ≤ 9223372036854775806)
    (hg : a.eval g = .func (.func 47) #[] #[.pointer (some ⟨b, 0, none⟩)]) (hps : ps.size = 1) (hb : Bx w b #[str s] 9)
    (I Ix : List Str → World → Prop)
    (hset : ∀ pre W v, I pre W → I pre (W.setCell ⟨b, 0, none⟩ v))
    (hdrew : ∀ pre W k, I pre W → I pre (W.drewN k))
    (hput : ∀ pre W l o o', w.heap.size ≤ l → I pre W → W.heap[l]? = some o → o.isCells = false → I pre (W.putObj l o'))
    (hputx : ∀ pre W l o o', w.heap.size ≤ l → Ix pre W → W.heap[l]? = some o → o.isCells = false → Ix pre (W.putObj l o'))
    (h0 : I [] ((w.alloc (.deferred (some []))).alloc (.loop (default : Loop)))) (h0' : ∀ r r' : Loop, I [] ((w.alloc (.deferred (some []))).alloc (.loop r)) → I [] ((w.alloc (.deferred (some []))).alloc (.loop r')))
    (a₁ : Str → Act)
    (hassign : ∀ (l : Nat) (x : Str) (W : World) (K : Act → World → Prop), K (a₁ x) W →
      assign.wpIn (Fence.wide.inRound l) (n - 1 - 1) Tryd.prog (Exit.then K (fun _ _ _ => False)) { tmps := (ps.zip #[str x]).foldl (fun t (p, v) => t.setIfInBounds p v) a.tmps, defers := [] } W)
    (hbody : ∀ (l : Nat) (pre : List Str) (x : Str) (more : List Str) (W : World), I pre W → lns s = pre ++ Lib.trimSuffix x [10] :: more → x.length ≤ s.length → w.heap.size + 2 ≤ W.heap.size →
      body.wpIn (Fence.wide.inRound l) (n - 1 - 1) Tryd.prog (linePost I Ix (pre ++ [Lib.trimSuffix x [10]]) b W) (a₁ x) W)
    (hdone : ∀ (D : Nat) (W : World), w.heap.size ≤ D → I (lns s) W → W.heap[D]? = some (.deferred (some [])) → Q .normal { a with defers := { target := .collected D, args := #[] } :: a.defers } W)
    (hstop : ∀ (D : Nat) (pre : List Str) (W : World), w.heap.size ≤ D → pre <+: lns s → Ix pre W → W.heap[D]? = some (.deferred (some [])) → Code.ret.wpIn Fence.wide n Tryd.prog Q { a with defers := { target := .collected D, args := #[] } :: a.defers } W) :
    (Code.rangeFunc g ps assign body).wpIn Fence.wide n Tryd.prog Q a w := by
  refine wpIn_rangeFunc ?_
  intro fn hfn
  obtain ⟨rec, hrec⟩ : ∃ rec : LoopState → Option Code → Loop, rec = fun st pe => { state := st, pending := pe, fn, tmps := a.tmps, params := ps, assign, body, defers := w.heap.size } := ⟨_, rfl⟩
  obtain ⟨W1, hW1⟩ : ∃ W1, (w.alloc (.deferred (some []))).alloc (.loop (rec .ready none)) = W1 := ⟨_, rfl⟩
  have hL1 : W1.heap[w.heap.size + 1]? = some (.loop (rec .ready none)) := by
    rw [← hW1]; have := World.alloc_heap_new (w.alloc (.deferred (some []))) (.loop (rec .ready none)); rwa [World.size_alloc] at this
  have hK1 : W1.heap[w.heap.size]? = some (.deferred (some [])) := by
    rw [← hW1]; exact (Below.heap_alloc _ _ _ (by simp)).trans (World.alloc_heap_new w _)
  have hI1 : I [] W1 := by rw [← hW1]; exact h0' _ _ h0
  have hblt := hb.lt
  have hbx1 : Bx W1 b #[str s] 9 := by rw [← hW1]; exact (hb.alloc _).alloc _
  refine ⟨w.heap.size + 1, [{ target := .collected w.heap.size, args := #[] }], W1, { target := .fn (.func 47) #[.pointer (some ⟨b, 0, none⟩)], args := #[.func (.yield (w.heap.size + 1)) #[] #[]] }, W1, 47,
    #[.func (.yield (w.heap.size + 1)) #[] #[]] ++ #[.pointer (some ⟨b, 0, none⟩)], W1, ?_, ?_, ?_, ?_, fun _ => by omega, ?_⟩
  · rw [← hW1, hrec]; exact run_enterLoop_outer _ _ _ _ _
  · simp only [resolve, hg]
    simp [go_sem]
  · intro f' hf'; trivial
  · have eg : ∀ args w, (callFunc 47 args).run Tryd.prog w = .ok (.enter 47 args) w := enters_of Tryd.func47 (by kernel_rfl) rfl
    simp [invoke, go_sem, eg]
  · refine (lines1_in (n - 1) (by omega) (w.heap.size + 1) b s hs
      (fun pre W => I pre W ∧ W.heap[w.heap.size + 1]? = some (.loop (rec .ready none)) ∧ W.heap[w.heap.size]? = some (.deferred (some [])))
      (fun pre W => Ix pre W ∧ W.heap[w.heap.size + 1]? = some (.loop (rec .done (some .ret))) ∧ W.heap[w.heap.size]? = some (.deferred (some [])))
      (fun pre W v h => ⟨hset pre W v h.1, (Below.heap_setCell W ⟨b, 0, none⟩ v _ (by simp; omega)).trans h.2.1, (Below.heap_setCell W ⟨b, 0, none⟩ v _ (by simp; omega)).trans h.2.2⟩)
      (fun pre W k h => ⟨hdrew pre W k h.1, h.2⟩)
      ?_ W1 hbx1 ⟨hI1, hL1, hK1⟩).mono ?_
    · rintro pre x more W ⟨hi, hl, hk⟩ hln hxl
      have hlt : w.heap.size + 1 < W.heap.size := (Array.getElem?_eq_some_iff.1 hl).1
      have hy := run_yield (P := Tryd.prog) (args := #[str x]) hl (by rw [hrec]; simp [hps])
      rw [hrec] at hy
      refine ⟨fn, _, assign, body, hy, roundIn_of_wpIn hfn (hassign _ x W _ ⟨_, run_beginRound hl (by rw [hrec]), ?_⟩)⟩
      have hl2 : (W.putObj (w.heap.size + 1) (.loop { rec .ready none with state := .busy })).heap[w.heap.size + 1]? = some (.loop { rec .ready none with state := .busy }) := World.putObj_heap_same hlt
      have hk2 : (W.putObj (w.heap.size + 1) (.loop { rec .ready none with state := .busy })).heap[w.heap.size]? = some (.deferred (some [])) := (World.putObj_heap_other (by omega)).trans hk
      have hg2 : (W.putObj (w.heap.size + 1) (.loop { rec .ready none with state := .busy })).heap[b]? = W.heap[b]? := World.putObj_heap_other (by omega)
      refine wpIn_mono (hbody _ pre x more _ (hput _ _ _ _ _ (by omega) hi hl rfl) hln hxl (by simp; omega)) ?_
      have fin : ∀ (jump : Option Code) (W3 : World), KeepsOthers (W.putObj (w.heap.size + 1) (.loop { rec .ready none with state := .busy })) W3 →
          (Instr.endRound (w.heap.size + 1) jump).run Tryd.prog W3 = .ok (.bool jump.isNone) (W3.putObj (w.heap.size + 1) (.loop (rec (if jump.isNone then .ready else .done) jump))) ∧
          W3.heap[w.heap.size + 1]? = some (.loop { rec .ready none with state := .busy }) ∧
          (W3.putObj (w.heap.size + 1) (.loop (rec (if jump.isNone then .ready else .done) jump))).heap[w.heap.size + 1]? = some (.loop (rec (if jump.isNone then .ready else .done) jump)) ∧
          (W3.putObj (w.heap.size + 1) (.loop (rec (if jump.isNone then .ready else .done) jump))).heap[w.heap.size]? = some (.deferred (some [])) := fun jump W3 hk3 => by
        have hl3 := hk3.same _ _ hl2 rfl
        have := run_endRound (P := Tryd.prog) jump hl3
        rw [hrec] at this ⊢
        exact ⟨this, by rw [hrec] at hl3; exact hl3, World.putObj_heap_same (Array.getElem?_eq_some_iff.1 hl3).1, (World.putObj_heap_other (by omega)).trans (hk3.same _ _ hk2 rfl)⟩
      rintro e a3 W3 hp
      cases e with
      | normal =>
        obtain ⟨hk3, hi3, hg3⟩ := hp
        obtain ⟨hr, hl3, hl4, hk4⟩ := fin none W3 hk3
        exact ⟨_, _, hr, .inl ⟨rfl, ⟨hput _ _ _ _ _ (by omega) hi3 hl3 rfl, hl4, hk4⟩, (World.putObj_heap_other (by omega)).trans (hg3.trans hg2)⟩⟩
      | ret =>
        obtain ⟨hk3, hi3⟩ := hp
        obtain ⟨hr, hl3, hl4, hk4⟩ := fin (some .ret) W3 hk3
        exact ⟨_, _, hr, .inr ⟨rfl, hputx _ _ _ _ _ (by omega) hi3 hl3 rfl, hl4, hk4⟩⟩
      | exit id => exact hp.elim
      | goto t => exact hp.elim
      | panic ch => exact hp.elim
      | outgrown => exact hp.elim
    · rintro e W2 ⟨⟨v, rfl⟩, (⟨hi, hl, hk⟩ | ⟨pre, hSp, hi, hl, hk⟩)⟩
      · exact ⟨none, _, by have := run_endLoop (P := Tryd.prog) hl (by rw [hrec]; simp); rw [hrec] at this; exact this, hdone _ _ (Nat.le_refl _) (hput _ _ _ _ _ (by omega) hi hl rfl) ((World.putObj_heap_other (by omega)).trans hk)⟩
      · exact ⟨some .ret, _, by have := run_endLoop (P := Tryd.prog) hl (by rw [hrec]; simp); rw [hrec] at this; exact this, hstop _ pre _ (Nat.le_refl _) hSp (hputx _ _ _ _ _ (by omega) hi hl rfl) ((World.putObj_heap_other (by omega)).trans hk)⟩

/-- Behind Parse. -/
def Parsed (w : World) (s : Str) (e : Ending) (w' : World) : Prop :=
  Below w.heap.size w w' ∧ ((∃ (is : List Ins) (A : Option Addr) (c : Nat), (lns s).map typedM = is.map some ∧ e = .returned (.tuple #[.slice A is.length c, .int .i64 0, .int .i64 0]) ∧ w'.ownsRow w.heap.size 35 5 (.slice A is.length c) is.length (icells is)) ∨
   (∃ (p : List Str) (x : Str) (more : List Str), lns s = p ++ x :: more ∧ (∀ y ∈ p, typedM y ≠ none) ∧ typedM x = none ∧ e = .returned (.tuple #[.slice none 0 0, .int .i64 ((p.length + 1 : Nat) : Int), .int .i64 41])))

set_option maxRecDepth 100000 in
set_option maxHeartbeats 4000000 in
theorem parse_any (s : Str) (w : World) (hsl : s.length ≤ 9223372036854775806) (hs : (lns s).length * 40 ≤ 140737488355328) (hl : ∀ x ∈ lns s, x.length < 4294967281) (he : Env w) : Calls Tryd.prog 24 #[str s] w (Parsed w s) := by
  have HE := Lib.hid he
  have HL := Lib.hid hl
  clear he hl
  refine (callsIn_wide (n := 3)).1 (callsIn_of_wp_marks Tryd.func24 rfl trivial ?_ rfl)
  simp only [Tryd.ntmps24, List.size_toArray, List.length_cons, List.length_nil, Nat.reduceAdd, Nat.reduceSub, Array.replicate_succ, Array.replicate_zero, List.push_toArray, List.append_toArray, List.nil_append, List.cons_append]
  gi_wp2_with fail
  refine ⟨trivial, (callsIn_wide.2 (lines_any s _)).mono ?_⟩
  rintro e w1 ⟨rfl, rfl⟩
  gi_wp2_with fail
  generalize hW0 : ((((w.alloc (.cells #[.slice none 0 0] 22)).alloc (.cells #[.int .i64 0] 3)).alloc (.cells #[.int .i64 0] 25)).alloc (.cells #[.slice none 0 0] 22)) = W0
  have hz0 : W0.heap.size = w.heap.size + 4 := by rw [← hW0]; simp
  have hbg : Bx (W0.alloc (.cells #[str s] 9)) (w.heap.size + 4) #[str s] 9 := by
    rw [← hz0]; exact Bx.new _ _ _
  have hI0 : ∀ r : Loop, PIn w [] (((W0.alloc (.cells #[str s] 9)).alloc (.deferred (some []))).alloc (.loop r)) := by
    intro r
    rw [← hW0]
    refine ⟨?_, ?_, ?_, ?_, by simp, [], none, 0, rfl, ?_, World.ownsRow_nil _ _ _ _⟩
    · exact (((((((Below.refl w.heap.size w).alloc (Nat.le_refl _) _).alloc (by simp) _).alloc (by simp; omega) _).alloc (by simp; omega) _).alloc (by simp; omega) _).alloc (by simp; omega) _).alloc (by simp; omega) _
    · exact ((((((Bx.new w _ _).alloc _).alloc _).alloc _).alloc _).alloc _).alloc _
    · have := Bx.new (w.alloc (.cells #[.slice none 0 0] 22)) #[.int .i64 0] 3
      rw [World.size_alloc] at this
      exact (((((this.alloc _).alloc _).alloc _).alloc _).alloc _)
    · have := Bx.new ((w.alloc (.cells #[.slice none 0 0] 22)).alloc (.cells #[.int .i64 0] 3)) #[.int .i64 0] 25
      rw [World.size_alloc, World.size_alloc] at this
      exact ((((this.alloc _).alloc _).alloc _).alloc _)
    · have := Bx.new (((w.alloc (.cells #[.slice none 0 0] 22)).alloc (.cells #[.int .i64 0] 3)).alloc (.cells #[.int .i64 0] 25)) #[.slice none 0 0] 22
      rw [World.size_alloc, World.size_alloc, World.size_alloc] at this
      exact (((this.alloc _).alloc _).alloc _)
  have hHS := hz0
  clear hW0
  refine range_lines 3 (by omega) (w.heap.size + 4) s hsl rfl rfl hbg (PIn w) (POut w) (fun pre W v h => h.set v) (fun pre W k h => h.below' (drewN_below W k))
    (fun pre W l o o' hl h ho hc => h.put l o o' (by simp [hHS] at hl; omega) ho hc) (fun pre W l o o' hl h ho hc => h.put l o' (by simp [hHS] at hl; omega))
    (hI0 _) (fun r r' _ => hI0 r') ?a1 ?assign ?body ?done ?stop
  case a1 => exact fun x => { tmps := #[str s, undef, .pointer (some ⟨w.heap.size, 0, none⟩), .pointer (some ⟨w.heap.size + 1, 0, none⟩), .pointer (some ⟨w.heap.size + 1 + 1, 0, none⟩), .pointer (some ⟨w.heap.size + 1 + 1 + 1, 0, none⟩), str x, undef, undef, str s, .func (.func 47) #[] #[.pointer (some ⟨w.heap.size + 1 + 1 + 1 + 1, 0, none⟩)], str x, undef, undef, undef, undef, undef, undef, undef, undef, undef, undef, undef, undef, undef, undef, undef, undef], defers := [] }
  case assign =>
    intro l x W K hK
    gi_wp2_with fail
    exact hK
  case body =>
    intro l pre x more W h hln hxl hsz0
    have HH := Lib.hid h
    have HLN := Lib.hid hln
    have htl : (Lib.trimSuffix x [10]).length < 4294967281 := HL.out _ (by rw [hln]; simp)
    have HFL := Lib.hid (fromLine_any (Lib.trimSuffix x [10]) W htl (HE.out.below h.below))
    have HTR := Lib.hid (trimN_any x W (by omega))
    clear h hln htl
    gi_wp2_with fail
    refine ⟨trivial, (CallsIn.inRound l (callsIn_wide.2 HTR.out)).mono ?_⟩
    rintro e W' ⟨rfl, rfl⟩
    gi_wp2_with fail
    refine ⟨trivial, (CallsIn.inRound l (callsIn_wide.2 HFL.out)).mono ?_⟩
    rintro e W2 ⟨hb2, ⟨op, a1, b1, c1, n1⟩, ok, rfl, hty⟩
    have HH2 := Lib.hid (HH.out.below' hb2)
    have HTY := Lib.hid hty
    clear hty HH HFL HTR HE HL
    have HH3 := Lib.hid (HH2.out.below' (((Below.refl W2.heap.size W2).alloc (Nat.le_refl _) (.cells #[.int .i64 op, .int .i64 a1, .int .i64 b1, .int .i64 c1, .int .i64 n1] 35))))
    have hbx := Bx.new W2 #[.int .i64 op, .int .i64 a1, .int .i64 b1, .int .i64 c1, .int .i64 n1] 35
    have HK1 := Lib.hid ((⟨hb2.size, fun k o hk _ => (hb2.block k (Array.getElem?_eq_some_iff.1 hk).1).trans hk⟩ : KeepsOthers W' W2).trans (KeepsOthers.alloc W2 (.cells #[.int .i64 op, .int .i64 a1, .int .i64 b1, .int .i64 c1, .int .i64 n1] 35)))
    have HG := Lib.hid (show (W2.alloc (.cells #[.int .i64 op, .int .i64 a1, .int .i64 b1, .int .i64 c1, .int .i64 n1] 35)).heap[w.heap.size + 4]? = W'.heap[w.heap.size + 4]? by
      simp only [World.size_alloc, hHS] at hsz0
      have h1 := hb2.block (w.heap.size + 4) (by omega)
      have h2 := hb2.size
      exact (Below.heap_alloc W2 _ (w.heap.size + 4) (by omega)).trans h1)
    have HSZ := Lib.hid HH3.out.sz
    obtain ⟨is, A, c, hmap, his, hown⟩ := HH3.out.have_
    have hisl : is.length = pre.length := by have := congrArg List.length hmap; simpa using this.symm
    rw [hisl] at his hown
    have hlen : (pre.length + 1) * 40 ≤ 140737488355328 := by
      have := congrArg List.length HLN.out
      simp only [List.length_append, List.length_cons] at this
      omega
    have c3 : (W2.alloc (.cells #[.int .i64 op, .int .i64 a1, .int .i64 b1, .int .i64 c1, .int .i64 n1] 35)).cell? ⟨w.heap.size + 1 + 1 + 1, 0, none⟩ = some (.slice A pre.length c) := his.c 0
    have f3 : (W2.alloc (.cells #[.int .i64 op, .int .i64 a1, .int .i64 b1, .int .i64 c1, .int .i64 n1] 35)).frozen? ⟨w.heap.size + 1 + 1 + 1, 0, none⟩ = false := his.f 0
    have HIS := Lib.hid his
    have HOWN := Lib.hid hown
    have HISL := Lib.hid hisl
    have HMAP := Lib.hid hmap
    clear his hown hmap hisl hb2 HH2 hbg hI0
    cases ok
    · have f0 := HH3.out.b2.f 0
      have f1 := HH3.out.b3.f 0
      have f2 : (W2.alloc (.cells #[.int .i64 op, .int .i64 a1, .int .i64 b1, .int .i64 c1, .int .i64 n1] 35)).frozen? ⟨w.heap.size + 1 + 1, 0, none⟩ = false := HH3.out.b4.f 0
      have d0 := HH3.out.b2.c 0
      have d1 := HH3.out.b3.c 0
      have d2 : (W2.alloc (.cells #[.int .i64 op, .int .i64 a1, .int .i64 b1, .int .i64 c1, .int .i64 n1] 35)).cell? ⟨w.heap.size + 1 + 1, 0, none⟩ = some (.int .i64 0) := HH3.out.b4.c 0
      clear hbx
      gi_wp2_with fail
      gi_region
      all_goals
        gi_wp2_with fail
      all_goals
        obtain ⟨hq1, hq2⟩ := HH3.out.bad (x := Lib.trimSuffix x [10]) (by rw [HTY.out]; rfl) (IntKind.i64.wrap (↑pre.length + 1)) (wrapN pre.length (by omega))
        exact ⟨HK1.out.trans hq1, hq2⟩
    · have e0 := hbx.c 0
      have e1 := hbx.c 1
      have e2 := hbx.c 2
      have e3 := hbx.c 3
      have e4 := hbx.c 4
      have HB4 := Lib.hid (show w.heap.size + 5 ≤ ((W2.alloc (.cells #[.int .i64 op, .int .i64 a1, .int .i64 b1, .int .i64 c1, .int .i64 n1] 35)).alloc (.cells (insC ⟨op, a1, b1, c1, n1⟩).toArray 35)).heap.size by rw [World.size_alloc]; have := HH3.out.sz; omega)
      have HO3 := Lib.hid (HOWN.out.alloc (.cells (insC ⟨op, a1, b1, c1, n1⟩).toArray 35))
      have HN := Lib.hid (show ∀ (j : Nat) (u : Value), (insC ⟨op, a1, b1, c1, n1⟩)[j]? = some u → ((W2.alloc (.cells #[.int .i64 op, .int .i64 a1, .int .i64 b1, .int .i64 c1, .int .i64 n1] 35)).alloc (.cells (insC ⟨op, a1, b1, c1, n1⟩).toArray 35)).cell? ((⟨W2.heap.size + 1, 0, none⟩ : Addr).add j) = some u by simpa using cells_new (W2.alloc (.cells #[.int .i64 op, .int .i64 a1, .int .i64 b1, .int .i64 c1, .int .i64 n1] 35)) (insC ⟨op, a1, b1, c1, n1⟩) 35)
      have H1 := Lib.hid (insC_one ⟨op, a1, b1, c1, n1⟩)
      have m1 : pre.length + 1 ≤ maxLen := by simp only [maxLen]; omega
      obtain ⟨i0, hi, hz0', hz1, hz2⟩ := info_parts Tryd.info_inst
      have HTY2 : typedM (Lib.trimSuffix x [10]) = some ⟨op, a1, b1, c1, n1⟩ := by rw [HTY.out]; rfl
      have HT2 := Lib.hid HTY2
      clear HTY2 hbx
      gi_wp2_with (gi_at_builtin; refine wpListIn_append_own _ rfl _ _ _ rfl (w.heap.size + 5) 35 i0 _ 5 40 Tryd.underlying22 hi hz0' hz1 hz2 rfl (by decide) (.slice A pre.length c) pre.length _ rfl HO3.out ⟨W2.heap.size + 1, 0, none⟩ 1 1 (insC ⟨op, a1, b1, c1, n1⟩) rfl rfl HN.out H1.out m1 hlen HB4.out ?_; intro v' w4 hown' hg hnil; obtain ⟨A4, c4, rfl⟩ := own_slice5 hown'; obtain ⟨hP, hK4, hG4, k3, j3⟩ := HH3.out.more HIS.out HOWN.out HISL.out HMAP.out HT2.out _ hg hown')
      exact ⟨HK1.out.trans hK4, hP, hG4.trans HG.out⟩
  case done =>
    intro D W hD h hK
    have HH := Lib.hid h
    obtain ⟨hbel, hb2, hb3, hb4, hsz, is, A, c, hmap, his, hown⟩ := h
    have c0 : W.cell? ⟨w.heap.size + 1 + 1 + 1, 0, none⟩ = some (.slice A is.length c) := his.c 0
    have f0 := hb2.f 0
    have f1 := hb3.f 0
    have f2 : W.frozen? ⟨w.heap.size + 1 + 1, 0, none⟩ = false := hb4.f 0
    have d0 := hb2.c 0
    have d1 := hb3.c 0
    have d2 : W.cell? ⟨w.heap.size + 1 + 1, 0, none⟩ = some (.int .i64 0) := hb4.c 0
    have H1 := Lib.hid hown
    have H2 := Lib.hid hbel
    have H3 := Lib.hid hb2
    have H4 := Lib.hid hb3
    have H5 := Lib.hid hb4
    clear hown hbel hb2 hb3 hb4 his hbg hI0
    gi_wp2_with fail
    have hD2 : w.heap.size + 5 ≤ D := by simp [hHS] at hD; omega
    have hK3 : (((W.setCell ⟨w.heap.size, 0, none⟩ (.slice A is.length c)).setCell ⟨w.heap.size + 1, 0, none⟩ (.int .i64 0)).setCell ⟨w.heap.size + 1 + 1, 0, none⟩ (.int .i64 0)).heap[D]? = some (.deferred (some [])) :=
      (Below.heap_setCell _ _ _ D (by simp; omega)).trans ((Below.heap_setCell _ _ _ D (by simp; omega)).trans ((Below.heap_setCell _ _ _ D (by simp; omega)).trans hK))
    refine ⟨by simp, .inl ⟨_, _, rfl, run_takeDeferred hK3, ?_⟩⟩
    have HF := fun (W4 : World) hW => HH.out.fin H1.out D hD2 (.deferred none) _ hK rfl (W4 := W4) hW
    generalize (((W.setCell ⟨w.heap.size, 0, none⟩ (.slice A is.length c)).setCell ⟨w.heap.size + 1, 0, none⟩ (.int .i64 0)).setCell ⟨w.heap.size + 1 + 1, 0, none⟩ (.int .i64 0)).putObj D (.deferred none) = W4 at *
    obtain ⟨q1, v0, v1, v2, q2⟩ := HF W4 rfl
    refine ⟨.tuple #[.slice A is.length c, .int .i64 0, .int .i64 0], by simp [results, Tryd.results24, go_sem, v0, v1, v2], ?_⟩
    exact ⟨q1, .inl ⟨is, A, c, hmap, rfl, q2⟩⟩
  case stop =>
    intro D pre W hD hpre h hK
    gi_wp2_with fail
    have hD2 : w.heap.size + 5 ≤ D := by simp [hHS] at hD; omega
    refine ⟨by simp, .inl ⟨_, _, rfl, run_takeDeferred hK, ?_⟩⟩
    have h4 := h.put D (.deferred none) (by omega)
    generalize W.putObj D (.deferred none) = W4 at *
    have v0 := h4.b2.c 0
    have v1 := h4.b3.c 0
    have v2 : W4.cell? ⟨w.heap.size + 1 + 1, 0, none⟩ = some (.int .i64 41) := h4.b4.c 0
    refine ⟨.tuple #[.slice none 0 0, .int .i64 pre.length, .int .i64 41], by simp [results, Tryd.results24, go_sem, v0, v1, v2], ?_⟩
    obtain ⟨p, x, rfl, hp, hx⟩ := h4.bad
    obtain ⟨more, hm⟩ := hpre
    refine ⟨h4.below, .inr ⟨p, x, more, by rw [← hm]; simp, hp, hx, ?_⟩⟩
    rw [List.length_append, List.length_singleton]
end Go.Proofs.YtoebboimdkogpaaDoor
