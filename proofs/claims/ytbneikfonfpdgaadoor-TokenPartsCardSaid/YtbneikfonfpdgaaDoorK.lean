/-
  A loop over a text's parts; Split.
-/
import Derived.Test.YtbneikfonfpdgaaDoorJ
namespace Go.Proofs.YtbneikfonfpdgaaDoor
open Go.RowKit
attribute [local go_sem] Oper.semAt_some

/-- How a round's body may be left. -/
def partPost (I : List Str → World → Prop) (xs : List Str) (g : Nat) (W : World) : Exit → Act → World → Prop
  | .normal, _, W' => KeepsOthers W W' ∧ I xs W' ∧ ∀ k, g ≤ k → k < g + 3 → W'.heap[k]? = W.heap[k]?
  | .ret, _, _ => False
  | .exit _, _, _ => False
  | .goto _, _, _ => False
  | .panic _, _, _ => False
  | .outgrown, _, _ => False

/-- A loop over a text's parts. -/
theorem range_parts (n : Nat) (hn : 2 ≤ n) {g : Operand} {ps : Array Tmp} {assign body : Code} {Q : Exit → Act → World → Prop} {a : Act} {w : World} (b : Nat) (s : Str) (hs : s.length ≤ 9223372036854775806)
    (hg : a.eval g = .func (.func 32) #[] #[.pointer (some ⟨b + 1, 0, none⟩), .pointer (some ⟨b, 0, none⟩), .pointer (some ⟨b + 2, 0, none⟩)]) (hps : ps.size = 1) (hb : It w b s)
    (I : List Str → World → Prop)
    (hset : ∀ pre W v, I pre W → I pre (W.setCell ⟨b, 0, none⟩ v))
    (hput : ∀ pre W l o o', w.heap.size ≤ l → I pre W → W.heap[l]? = some o → o.isCells = false → I pre (W.putObj l o'))
    (h0 : ∀ r : Loop, I [] ((w.alloc (.deferred (some []))).alloc (.loop r)))
    (a₁ : Str → Act)
    (hassign : ∀ (l : Nat) (x : Str) (W : World) (K : Act → World → Prop), K (a₁ x) W →
      assign.wpIn (Fence.wide.inRound l) (n - 1 - 1) Tryd.prog (Exit.then K (fun _ _ _ => False)) { tmps := (ps.zip #[str x]).foldl (fun t (p, v) => t.setIfInBounds p v) a.tmps, defers := [] } W)
    (hbody : ∀ (l : Nat) (pre : List Str) (x : Str) (more : List Str) (W : World), I pre W → spl 58 s = pre ++ x :: more → x.length ≤ s.length → w.heap.size + 2 ≤ W.heap.size →
      body.wpIn (Fence.wide.inRound l) (n - 1 - 1) Tryd.prog (partPost I (pre ++ [x]) b W) (a₁ x) W)
    (hdone : ∀ (D : Nat) (W : World), w.heap.size ≤ D → I (spl 58 s) W → W.heap[D]? = some (.deferred (some [])) → Q .normal { a with defers := { target := .collected D, args := #[] } :: a.defers } W) :
    (Code.rangeFunc g ps assign body).wpIn Fence.wide n Tryd.prog Q a w := by
  refine wpIn_rangeFunc ?_
  intro fn hfn
  obtain ⟨rec, hrec⟩ : ∃ rec : LoopState → Option Code → Loop, rec = fun st pe => { state := st, pending := pe, fn, tmps := a.tmps, params := ps, assign, body, defers := w.heap.size } := ⟨_, rfl⟩
  obtain ⟨W1, hW1⟩ : ∃ W1, (w.alloc (.deferred (some []))).alloc (.loop (rec .ready none)) = W1 := ⟨_, rfl⟩
  have hL1 : W1.heap[w.heap.size + 1]? = some (.loop (rec .ready none)) := by
    rw [← hW1]; have := World.alloc_heap_new (w.alloc (.deferred (some []))) (.loop (rec .ready none)); rwa [World.size_alloc] at this
  have hK1 : W1.heap[w.heap.size]? = some (.deferred (some [])) := by
    rw [← hW1]; exact (Below.heap_alloc _ _ _ (by simp)).trans (World.alloc_heap_new w _)
  have hI1 : I [] W1 := by rw [← hW1]; exact h0 _
  have hblt := hb.b2.lt
  have hbx1 : It W1 b s := by rw [← hW1]; exact ⟨(hb.b0.alloc _).alloc _, (hb.b1.alloc _).alloc _, (hb.b2.alloc _).alloc _⟩
  refine ⟨w.heap.size + 1, [{ target := .collected w.heap.size, args := #[] }], W1, { target := .fn (.func 32) #[.pointer (some ⟨b + 1, 0, none⟩), .pointer (some ⟨b, 0, none⟩), .pointer (some ⟨b + 2, 0, none⟩)], args := #[.func (.yield (w.heap.size + 1)) #[] #[]] }, W1, 32,
    #[.func (.yield (w.heap.size + 1)) #[] #[]] ++ #[.pointer (some ⟨b + 1, 0, none⟩), .pointer (some ⟨b, 0, none⟩), .pointer (some ⟨b + 2, 0, none⟩)], W1, ?_, ?_, ?_, ?_, fun _ => by omega, ?_⟩
  · rw [← hW1, hrec]; exact run_enterLoop_outer _ _ _ _ _
  · simp only [resolve, hg]
    simp [go_sem]
  · intro f' hf'; trivial
  · have eg : ∀ args w, (callFunc 32 args).run Tryd.prog w = .ok (.enter 32 args) w := enters_of Tryd.func32 (by kernel_rfl) rfl
    simp [invoke, go_sem, eg]
  · refine (seq1_in (n - 1) (by omega) (w.heap.size + 1) b s hs
      (fun pre W => I pre W ∧ W.heap[w.heap.size + 1]? = some (.loop (rec .ready none)) ∧ W.heap[w.heap.size]? = some (.deferred (some [])))
      (fun pre W v h => ⟨hset pre W v h.1, (Below.heap_setCell W ⟨b, 0, none⟩ v _ (by simp; omega)).trans h.2.1, (Below.heap_setCell W ⟨b, 0, none⟩ v _ (by simp; omega)).trans h.2.2⟩)
      ?_ W1 hbx1 ⟨hI1, hL1, hK1⟩).mono ?_
    · rintro pre x more W ⟨hi, hl, hk⟩ hln hxl
      have hlt : w.heap.size + 1 < W.heap.size := (Array.getElem?_eq_some_iff.1 hl).1
      have hy := run_yield (P := Tryd.prog) (args := #[str x]) hl (by rw [hrec]; simp [hps])
      rw [hrec] at hy
      refine ⟨fn, _, assign, body, hy, roundIn_of_wpIn hfn (hassign _ x W _ ⟨_, run_beginRound hl (by rw [hrec]), ?_⟩)⟩
      have hl2 : (W.putObj (w.heap.size + 1) (.loop { rec .ready none with state := .busy })).heap[w.heap.size + 1]? = some (.loop { rec .ready none with state := .busy }) := World.putObj_heap_same hlt
      have hk2 : (W.putObj (w.heap.size + 1) (.loop { rec .ready none with state := .busy })).heap[w.heap.size]? = some (.deferred (some [])) := (World.putObj_heap_other (by omega)).trans hk
      have hg2 : ∀ k, b ≤ k → k < b + 3 → (W.putObj (w.heap.size + 1) (.loop { rec .ready none with state := .busy })).heap[k]? = W.heap[k]? := fun k _ h3 => World.putObj_heap_other (by omega)
      refine wpIn_mono (hbody _ pre x more _ (hput _ _ _ _ _ (by omega) hi hl rfl) hln hxl (by simp; omega)) ?_
      have fin : ∀ (jump : Option Code) (W3 : World), KeepsOthers (W.putObj (w.heap.size + 1) (.loop { rec .ready none with state := .busy })) W3 →
          (Instr.endRound (w.heap.size + 1) jump).run Tryd.prog W3 = .ok (.bool jump.isNone) (W3.putObj (w.heap.size + 1) (.loop (rec (if jump.isNone then .ready else .done) jump))) ∧
          W3.heap[w.heap.size + 1]? = some (.loop { rec .ready none with state := .busy }) ∧
          (W3.putObj (w.heap.size + 1) (.loop (rec (if jump.isNone then .ready else .done) jump))).heap[w.heap.size + 1]? = some (.loop (rec (if jump.isNone then .ready else .done) jump)) ∧
          (W3.putObj (w.heap.size + 1) (.loop (rec (if jump.isNone then .ready else .done) jump))).heap[w.heap.size]? = some (.deferred (some [])) := fun jump W3 hk3 => by
        have hl3 := hk3.same _ _ hl2 rfl
        have := run_endRound (P := Tryd.prog) jump hl3
        rw [hrec] at this ⊢
        exact ⟨this, by rw [hrec] at hl3; exact hl3, World.putObj_heap_same (Array.getElem?_eq_some_iff.1 hl3).1, (World.putObj_heap_other (by omega)).trans (hk3.same _ _ hk2 rfl)⟩
      rintro e a3 W3 hp
      cases e with
      | normal =>
        obtain ⟨hk3, hi3, hg3⟩ := hp
        obtain ⟨hr, hl3, hl4, hk4⟩ := fin none W3 hk3
        exact ⟨_, _, hr, rfl, ⟨hput _ _ _ _ _ (by omega) hi3 hl3 rfl, hl4, hk4⟩, fun k h1 h2 => (World.putObj_heap_other (by omega)).trans ((hg3 k h1 h2).trans (hg2 k h1 h2))⟩
      | ret => exact hp.elim
      | exit id => exact hp.elim
      | goto t => exact hp.elim
      | panic ch => exact hp.elim
      | outgrown => exact hp.elim
    · rintro e W2 ⟨⟨v, rfl⟩, hi, hl, hk⟩
      exact ⟨none, _, by have := run_endLoop (P := Tryd.prog) hl (by rw [hrec]; simp); rw [hrec] at this; exact this, hdone _ _ (Nat.le_refl _) (hput _ _ _ _ _ (by omega) hi hl rfl) ((World.putObj_heap_other (by omega)).trans hk)⟩

theorem PS.more {w0 W3 w4 : World} {pre : List Str} {A A' : Option Addr} {c c' : Nat} {x : Str} (h : PS w0 pre W3) (hx : x ≠ [])
    (his : Bx W3 w0.heap.size #[.slice A (pre.filter full).length c] 27) (hown : W3.ownsRow (w0.heap.size + 4) 9 1 (.slice A (pre.filter full).length c) (pre.filter full).length (strs (pre.filter full)))
    (o : Obj) (hg : (W3.alloc o).grownBy w4 (Value.slice A (pre.filter full).length c).ownBlock)
    (hown' : w4.ownsRow (w0.heap.size + 4) 9 1 (.slice A' ((pre.filter full).length + 1) c') ((pre.filter full).length + 1) (strs (pre.filter full) ++ [str x])) :
    PS w0 (pre ++ [x]) (w4.setCell ⟨w0.heap.size, 0, none⟩ (.slice A' ((pre.filter full).length + 1) c')) ∧ KeepsOthers W3 (w4.setCell ⟨w0.heap.size, 0, none⟩ (.slice A' ((pre.filter full).length + 1) c')) ∧
    (∀ k, w0.heap.size + 1 ≤ k → k < w0.heap.size + 1 + 3 → (w4.setCell ⟨w0.heap.size, 0, none⟩ (.slice A' ((pre.filter full).length + 1) c')).heap[k]? = W3.heap[k]?) ∧
    w4.cell? ⟨w0.heap.size, 0, none⟩ = some (.slice A (pre.filter full).length c) ∧ w4.frozen? ⟨w0.heap.size, 0, none⟩ = false := by
  have hsz := h.sz
  have hlow : ∀ g, g < w0.heap.size + 4 → w4.heap[g]? = W3.heap[g]? := fun g hg5 =>
    (hg.block g (by rw [World.size_alloc]; omega) (by intro e; have := (hown.lt _ e.symm).1; omega)).trans (Below.heap_alloc W3 o g (by omega))
  have hset : ∀ g, g < w0.heap.size + 4 → g ≠ w0.heap.size → (w4.setCell ⟨w0.heap.size, 0, none⟩ (.slice A' ((pre.filter full).length + 1) c')).heap[g]? = W3.heap[g]? := fun g h1 h2 =>
    (Below.heap_setCell w4 _ _ g (by simpa using h2)).trans (hlow g h1)
  have hb4 : Bx w4 w0.heap.size #[.slice A (pre.filter full).length c] 27 := (hlow _ (by omega)).trans his
  have hgs := hg.size
  rw [World.size_alloc] at hgs
  have hf : (pre ++ [x]).filter full = pre.filter full ++ [x] := by rw [filter_snoc, if_neg hx]
  have hfl : ((pre ++ [x]).filter full).length = (pre.filter full).length + 1 := by rw [hf]; simp
  refine ⟨⟨?_, ?_, A', c', ?_, ?_⟩, ?_, fun k h1 h2 => hset k (by omega) (by omega), hb4.c 0, hb4.f 0⟩
  · have h1 := ((h.below.alloc h.below.size o).grown hg (by have := h.below.size; rw [World.size_alloc]; omega) (fun k hk => by have := (hown.lt _ hk).1; omega))
    exact h1.grown (grownBy_setCell' w4 w0.heap.size _) h1.size (fun k e => by cases e; omega)
  · exact Nat.le_trans (by omega : w0.heap.size + 4 ≤ w4.heap.size) (grownBy_setCell' w4 w0.heap.size (.slice A' ((pre.filter full).length + 1) c')).size
  · rw [hfl]
    exact heap_setCell_same w4 _ 0 _ _ _ hb4
  · rw [hfl, hf, strs_app]
    exact hown'.kept (grownBy_setCell' w4 w0.heap.size _) (.inr (fun e => by have := (hown'.lt _ e).1; omega))
  · exact ((KeepsOthers.alloc W3 o).trans (KeepsOthers.of_grownBy hg (own_cells (hown.alloc o)))).trans (KeepsOthers.setCell _ _ _)
end Go.Proofs.YtbneikfonfpdgaaDoor
