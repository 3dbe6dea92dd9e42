/-
  A space of the program beside one of the document's and beside blocks that are kept; and an old one that a copy left.
  Both spaces and lent bytes.
  SpaceDoes.
-/
import Derived.Test.YthbdncojekpanaaEa
import Derived.Test.YthbdncojekpanaaBw
import Derived.Deep.Cut
namespace Go.Proofs.Ythbdncojekpanaa
section
open Go.RowKit

/-- These blocks are as they were. -/
def Kept (Q : Nat → Prop) (w w' : World) : Prop := ∀ k, Q k → w'.heap[k]? = w.heap[k]?
/-- A space of the program and one of the document's, made since w0, that share nothing, beside the blocks Q. -/
def Wm (w0 w : World) (Q : Nat → Prop) (g : Nat) (ss : List Seg) (gm : Nat) (sm : List Seg) : Prop :=
  Below w0.heap.size w0 w ∧ ∃ F F', Lies w w0.heap.size g F ss ∧ Mies w w0.heap.size gm F' sm ∧ (∀ k, F k → ¬ F' k) ∧ ∀ k, Q k → k < w.heap.size ∧ ¬ F k ∧ ¬ F' k
theorem Wm.quiet {w0 w w' : World} {Q : Nat → Prop} {g gm : Nat} {ss sm : List Seg} (h : Wm w0 w Q g ss gm sm) (hb' : Below w.heap.size w w') : Wm w0 w' Q g ss gm sm ∧ Kept Q w w' := by
  obtain ⟨hb, F, F', h1, h2, h3, h4⟩ := h
  exact ⟨⟨hb.trans (hb'.mono hb.size), F, F', h1.below hb', h2.below hb', h3, fun k hk => ⟨Nat.lt_of_lt_of_le (h4 k hk).1 hb'.size, (h4 k hk).2⟩⟩, fun k hk => hb'.block k (h4 k hk).1⟩
/-- Beside one more that is new. -/
theorem Wm.more {w0 w w' : World} {Q : Nat → Prop} {g gm b : Nat} {ss sm : List Seg} (h : Wm w0 w Q g ss gm sm) (hb' : Below w.heap.size w w') (h0 : w.heap.size ≤ b) (h1 : b < w'.heap.size) : Wm w0 w' (fun k => Q k ∨ k = b) g ss gm sm ∧ Kept Q w w' := by
  obtain ⟨hb, F, F', p1, p2, p3, p4⟩ := h
  refine ⟨⟨hb.trans (hb'.mono hb.size), F, F', p1.below hb', p2.below hb', p3, fun k hk => ?_⟩, fun k hk => hb'.block k (p4 k hk).1⟩
  rcases hk with hk | rfl
  · exact ⟨Nat.lt_of_lt_of_le (p4 k hk).1 hb'.size, (p4 k hk).2⟩
  · refine ⟨h1, fun hf => ?_, fun hf => ?_⟩
    · have := (p1.lt hf).2
      omega
    · have := (p2.lt hf).2
      omega
theorem Wm.less {w0 w : World} {Q Q' : Nat → Prop} {g gm : Nat} {ss sm : List Seg} (h : Wm w0 w Q g ss gm sm) (hq : ∀ k, Q' k → Q k) : Wm w0 w Q' g ss gm sm := by
  obtain ⟨hb, F, F', h1, h2, h3, h4⟩ := h
  exact ⟨hb, F, F', h1, h2, h3, fun k hk => h4 k (hq k hk)⟩
/-- What changes only kept blocks. -/
theorem Wm.stir {w0 w w' : World} {Q p : Nat → Prop} {g gm : Nat} {ss sm : List Seg} (h : Wm w0 w Q g ss gm sm) (hbs : Beside w w' p) (hp : ∀ k, p k → Q k ∧ w0.heap.size ≤ k) : Wm w0 w' Q g ss gm sm := by
  obtain ⟨hb, F, F', h1, h2, h3, h4⟩ := h
  exact ⟨hb.trans (hbs.below (fun k hk => (hp k hk).2) hb.size), F, F', h1.beside hbs fun k hk e => (h4 k (hp k e).1).2.1 hk, h2.beside hbs fun k hk e => (h4 k (hp k e).1).2.2 hk, h3, fun k hk => ⟨Nat.lt_of_lt_of_le (h4 k hk).1 hbs.size, (h4 k hk).2⟩⟩
theorem Wm.went {w0 w w' : World} {Q : Nat → Prop} {g gm : Nat} {ss sm s2 : List Seg} {F F' : Nat → Prop} (hb : Below w0.heap.size w0 w) (h1 : Lies w w0.heap.size g F ss) (h2 : Mies w w0.heap.size gm F' sm) (h3 : ∀ k, F k → ¬ F' k) (h4 : ∀ k, Q k → k < w.heap.size ∧ ¬ F k ∧ ¬ F' k) (h : Went w w' w0.heap.size g F s2) : Wm w0 w' Q g s2 gm sm ∧ Kept Q w w' := by
  obtain ⟨F2, p1, p2, p3⟩ := h
  refine ⟨⟨hb.trans (p2.below (fun k hk => (h1.lt hk).1) hb.size), F2, F', p1, h2.beside p2 fun k hk hf => h3 k hf hk, fun k hk hk' => ?_, fun k hk => ⟨Nat.lt_of_lt_of_le (h4 k hk).1 p2.size, fun hf => ?_, (h4 k hk).2.2⟩⟩, fun k hk => p2.block k (h4 k hk).1 (h4 k hk).2.1⟩
  · rcases p3 k hk with h | h
    · exact h3 k h hk'
    · have := (h2.lt hk').2
      omega
  · rcases p3 k hf with h | h
    · exact (h4 k hk).2.1 h
    · have := (h4 k hk).1
      omega
theorem Wm.wentM {w0 w w' : World} {Q : Nat → Prop} {g gm : Nat} {ss sm s2 : List Seg} {F F' : Nat → Prop} (hb : Below w0.heap.size w0 w) (h1 : Lies w w0.heap.size g F ss) (h2 : Mies w w0.heap.size gm F' sm) (h3 : ∀ k, F k → ¬ F' k) (h4 : ∀ k, Q k → k < w.heap.size ∧ ¬ F k ∧ ¬ F' k) (h : WentM w w' w0.heap.size gm F' s2) : Wm w0 w' Q g ss gm s2 ∧ Kept Q w w' := by
  obtain ⟨F2, p1, p2, p3⟩ := h
  refine ⟨⟨hb.trans (p2.below (fun k hk => (h2.lt hk).1) hb.size), F, F2, h1.beside p2 h3, p1, fun k hk hk' => ?_, fun k hk => ⟨Nat.lt_of_lt_of_le (h4 k hk).1 p2.size, (h4 k hk).2.1, fun hf => ?_⟩⟩, fun k hk => p2.block k (h4 k hk).1 (h4 k hk).2.2⟩
  · rcases p3 k hk' with h | h
    · exact h3 k hk h
    · have := (h1.lt hk).2
      omega
  · rcases p3 k hf with h | h
    · exact (h4 k hk).2.2 h
    · have := (h4 k hk).1
      omega
/-- An act, done by the program's. -/
theorem Wm.does {w0 w : World} {Q : Nat → Prop} {g gm : Nat} {ss sm : List Seg} {P : Nat → Prop} (h : Wm w0 w Q g ss gm sm) (x : Ac) (A : Option Addr) (c : Nat) (hv : AcV w P x A c) (hP : ∀ q, P q → q < w0.heap.size ∨ Q q) :
    Calls Try.prog 17 #[.pointer (some ⟨g, 0, none⟩), .agg (acells x A c)] w fun e w' => e = .returned (.tuple #[.int .i64 (actS ss x).1, .int .i64 (actS ss x).2.1]) ∧ Wm w0 w' Q g (actS ss x).2.2 gm sm ∧ Kept Q w w' := by
  obtain ⟨hb, F, F', h1, h2, h3, h4⟩ := h
  refine (does_any x A c h1 hv fun q hq => ?_).mono fun e w' hw => ⟨hw.1, Wm.went hb h1 h2 h3 h4 hw.2⟩
  rcases hP q hq with hq | hq
  · refine ⟨fun hf => ?_, Nat.lt_of_lt_of_le hq hb.size⟩
    have := (h1.lt hf).1
    omega
  · exact ⟨(h4 q hq).2.1, (h4 q hq).1⟩
/-- And by the document's. -/
theorem Wm.model {w0 w : World} {Q : Nat → Prop} {g gm : Nat} {ss sm : List Seg} {P : Nat → Prop} (h : Wm w0 w Q g ss gm sm) (x : Ac) (A : Option Addr) (c : Nat) (hv : AcV w P x A c) (hP : ∀ q, P q → q < w0.heap.size ∨ Q q) :
    Calls Try.prog 19 #[.pointer (some ⟨gm, 0, none⟩), .agg (acells x A c)] w fun e w' => e = .returned (.tuple #[.int .i64 (actS sm x).1, .int .i64 (actS sm x).2.1]) ∧ Wm w0 w' Q g ss gm (actS sm x).2.2 ∧ Kept Q w w' := by
  obtain ⟨hb, F, F', h1, h2, h3, h4⟩ := h
  refine (model_any x A c h2 hv fun q hq => ?_).mono fun e w' hw => ⟨hw.1, Wm.wentM hb h1 h2 h3 h4 hw.2⟩
  rcases hP q hq with hq | hq
  · refine ⟨fun hf => ?_, Nat.lt_of_lt_of_le hq hb.size⟩
    have := (h2.lt hf).1
    omega
  · exact ⟨(h4 q hq).2.2, (h4 q hq).1⟩
theorem Wm.alike {w0 w : World} {Q : Nat → Prop} {g gm : Nat} {ss : List Seg} (h : Wm w0 w Q g ss gm ss) (a n : Int) (ha : I64 a) :
    Calls Try.prog 20 #[.pointer (some ⟨g, 0, none⟩), .pointer (some ⟨gm, 0, none⟩), .int .i64 a, .int .i64 n] w fun e w' => e = .returned (.bool true) ∧ Wm w0 w' Q g ss gm ss ∧ Kept Q w w' := by
  have hq := h
  obtain ⟨hb, F, F', h1, h2, h3⟩ := h
  exact (alike_any w0.heap.size g gm ss a n ha w ⟨⟨F, h1⟩, F', h2⟩).mono fun e w' hw => ⟨hw.1, hq.quiet hw.2⟩
/-- The old one, the copy, the document's. -/
def W3 (w0 w : World) (Q : Nat → Prop) (g : Nat) (so : List Seg) (gc : Nat) (ss : List Seg) (gm : Nat) (sm : List Seg) : Prop :=
  ∃ F, Lies w w0.heap.size g F so ∧ (∀ k, Q k → ¬ F k) ∧ Wm w0 w (fun k => Q k ∨ F k) gc ss gm sm
theorem W3.drop {w0 w : World} {Q : Nat → Prop} {g gc gm : Nat} {so ss sm : List Seg} (h : W3 w0 w Q g so gc ss gm sm) : Wm w0 w Q gc ss gm sm := by
  obtain ⟨F, h1, h2, h3⟩ := h
  exact h3.less fun k hk => .inl hk
theorem W3.act {w0 w : World} {Q : Nat → Prop} {g gc gm : Nat} {so ss sm s2 : List Seg} (h : W3 w0 w Q g so gc ss gm sm) {f : Nat} {args : Array Value} {v : Value} (hc : ∀ F, Lies w w0.heap.size g F so → Calls Try.prog f args w fun e w' => e = .returned v ∧ Went w w' w0.heap.size g F s2) :
    Calls Try.prog f args w fun e w' => e = .returned v ∧ W3 w0 w' Q g s2 gc ss gm sm ∧ Kept Q w w' := by
  obtain ⟨F, h1, h2, hb, F2, F', p1, p2, p3, p4⟩ := h
  refine (hc F h1).mono fun e w' ⟨he, F4, q1, q2, q3⟩ => ⟨he, ⟨F4, q1, fun k hk hf => ?_, hb.trans (q2.below (fun k hk => (h1.lt hk).1) hb.size), F2, F', p1.beside q2 fun k hk hf => (p4 k (.inr hf)).2.1 hk, p2.beside q2 fun k hk hf => (p4 k (.inr hf)).2.2 hk, p3, fun k hk => ?_⟩, fun k hk => q2.block k (p4 k (.inl hk)).1 (h2 k hk)⟩
  · rcases q3 k hf with h | h
    · exact h2 k hk h
    · have := (p4 k (.inl hk)).1
      omega
  · rcases hk with hk | hk
    · exact ⟨Nat.lt_of_lt_of_le (p4 k (.inl hk)).1 q2.size, (p4 k (.inl hk)).2⟩
    · refine ⟨(q1.lt hk).2, ?_⟩
      rcases q3 k hk with h | h
      · exact (p4 k (.inr h)).2
      · refine ⟨fun hf => ?_, fun hf => ?_⟩
        · have := (p1.lt hf).2
          omega
        · have := (p2.lt hf).2
          omega
theorem Wm.copy {w0 w : World} {Q : Nat → Prop} {g gm : Nat} {ss sm : List Seg} (h : Wm w0 w Q g ss gm sm) :
    Calls Try.prog 12 #[.pointer (some ⟨g, 0, none⟩)] w fun e w' => ∃ gc, e = .returned (.pointer (some ⟨gc, 0, none⟩)) ∧ W3 w0 w' Q g ss gc ss gm sm ∧ Kept Q w w' := by
  obtain ⟨hb, F, F', h1, h2, h3, h4⟩ := h
  refine (Copy_s h1).mono fun e w' ⟨gc, F2, he, p1, p2⟩ => ⟨gc, he, ⟨F, h1.below p2, fun k hk => (h4 k hk).2.1, hb.trans (p2.mono hb.size), F2, F', ?_, h2.below p2, fun k hk hk' => ?_, fun k hk => ?_⟩, fun k hk => p2.block k (h4 k hk).1⟩
  · obtain ⟨A, c, rs, p1, p2, p3, p4⟩ := p1
    exact ⟨A, c, rs, ⟨Nat.le_trans hb.size p1.hg, p1.box, own_more p1.own hb.size, fun r hr => own_more (p1.bytes r hr) hb.size, p1.short, p1.ne, p1.apart, p1.pair, p1.ord⟩, p2, p3, p4⟩
  · have := (h2.lt hk').2
    have := (p1.lt hk).1
    omega
  · have hlt : k < w.heap.size := by
      rcases hk with hk | hk
      · exact (h4 k hk).1
      · exact (h1.lt hk).2
    refine ⟨Nat.lt_of_lt_of_le hlt p2.size, fun hf => ?_, ?_⟩
    · have := (p1.lt hf).1
      omega
    · rcases hk with hk | hk
      · exact (h4 k hk).2.2
      · exact h3 k hk
end

section
open Go.RowKit

theorem src_lent {w : World} {g : Nat} {l : Str} (h : w.heap[g]? = some (.cells (lentCells l).toArray 5 (0, 0))) : Src w (fun k => k = g) (some ⟨g, 0, none⟩) l.length (l.length + 3) (cells l) := by
  refine ⟨cells_len l, (by intro h; cases h), by omega, (by intro ad h _; cases h; rfl), ?_⟩
  intro ad ha j u hu
  cases ha
  have hj : j < (cells l).length := (List.getElem?_eq_some_iff.1 hu).1
  rw [plainAdd, Nat.zero_add, cell_of_row _ _ j _ _ _ h]
  simp only [lentCells, List.getElem?_toArray]
  rw [List.getElem?_append_left hj]
  exact hu
/-- Lent bytes, beside both. -/
theorem Wm.lend {w0 w : World} {Q : Nat → Prop} {g gm n c : Nat} {ss sm : List Seg} {l : Str} {P : Nat → Prop} {A : Option Addr} (h : Wm w0 w Q g ss gm sm) (hs : Src w P A n c (cells l)) (hn : n ≤ 140737488351232) :
    Calls Try.prog 16 #[.slice A n c] w fun e w' => ∃ gl, e = .returned (.slice (some ⟨gl, 0, none⟩) l.length (l.length + 3)) ∧ w'.heap[gl]? = some (.cells (lentCells l).toArray 5 (0, 0)) ∧ w.heap.size ≤ gl ∧ Wm w0 w' (fun k => Q k ∨ k = gl) g ss gm sm ∧ Kept Q w w' :=
  (lent_any P A n c l w hs hn).mono fun _ _ ⟨gl, he, hc, hw, hle⟩ => ⟨gl, he, hc, hle, h.more hw hle (lt_of_block hc)⟩
/-- Looked at and written over: only they change. -/
theorem Wm.back {w0 w : World} {Q : Nat → Prop} {g gm gl n c : Nat} {ss sm : List Seg} {l : Str} {A : Option Addr} (h : Wm w0 w (fun k => Q k ∨ k = gl) g ss gm sm) (hq : ¬ Q gl) (h0 : w0.heap.size ≤ gl) (hc : w.heap[gl]? = some (.cells (lentCells l).toArray 5 (0, 0))) (hs : Src w (fun k => k < w0.heap.size) A n c (cells l)) (hn : n ≤ 140737488351232) :
    Calls Try.prog 18 #[.slice (some ⟨gl, 0, none⟩) n (n + 3), .slice A n c] w fun e w' => e = .returned (.bool true) ∧ Wm w0 w' Q g ss gm sm ∧ Kept Q w w' := by
  refine (back_any' _ gl A n c l w hs hc (by omega) hn).mono fun e w' ⟨he, hg⟩ => ?_
  have hbs : Beside w w' (fun k => k = gl) := Beside.grown hg fun k hk => by injection hk with hk; exact hk.symm
  have hlt := fun k hk => (h.2.choose_spec.choose_spec.2.2.2 k hk).1
  exact ⟨he, (h.stir hbs fun k hk => ⟨.inr hk, by omega⟩).less fun k hk => .inl hk, fun k hk => hbs.block k (hlt k (.inl hk)) fun e => hq (e ▸ hk)⟩
/-- A cell of a kept block is set. -/
theorem Wm.set {w0 w : World} {Q : Nat → Prop} {g gm b : Nat} {ss sm : List Seg} (h : Wm w0 w Q g ss gm sm) (hq : Q b) (h0 : w0.heap.size ≤ b) (i : Nat) (u : Value) : Wm w0 (w.setCell ⟨b, i, none⟩ u) Q g ss gm sm :=
  h.stir (Beside.grown (p := fun k => k = b) (grown_set w b i u) fun k hk => by injection hk with hk; exact hk.symm) fun k hk => by subst hk; exact ⟨hq, h0⟩
/-- Both, new. -/
theorem Wm.new {w0 w : World} {g : Nat} (h : Ws w0 w g []) : Wm w0 (w.alloc (.cells #[.slice none 0 0] 29)) (fun _ => False) g [] w.heap.size [] := by
  obtain ⟨hb, F, hl⟩ := h
  have hbe : Below w.heap.size w (w.alloc (.cells #[.slice none 0 0] 29)) := (Below.refl _ w).alloc (Nat.le_refl _) _
  refine ⟨hb.trans (hbe.mono hb.size), F, _, hl.below hbe, mies_new w w0.heap.size hb.size, fun k hk e => ?_, fun k hk => hk.elim⟩
  have := (hl.lt hk).2
  omega
end

section
open Go.RowKit

theorem W3.actQ {w0 w : World} {Q : Nat → Prop} {g gc gm : Nat} {so ss sm s2 : List Seg} (h : W3 w0 w Q g so gc ss gm sm) {f : Nat} {args : Array Value} {v : Value} (hc : ∀ F, Lies w w0.heap.size g F so → (∀ k, Q k → ¬ F k ∧ k < w.heap.size) → Calls Try.prog f args w fun e w' => e = .returned v ∧ Went w w' w0.heap.size g F s2) :
    Calls Try.prog f args w fun e w' => e = .returned v ∧ W3 w0 w' Q g s2 gc ss gm sm ∧ Kept Q w w' := by
  obtain ⟨F, h1, h2, hb, F2, F', p1, p2, p3, p4⟩ := h
  refine (hc F h1 fun k hk => ⟨h2 k hk, (p4 k (.inl hk)).1⟩).mono fun e w' ⟨he, F4, q1, q2, q3⟩ => ⟨he, ⟨F4, q1, fun k hk hf => ?_, hb.trans (q2.below (fun k hk => (h1.lt hk).1) hb.size), F2, F', p1.beside q2 fun k hk hf => (p4 k (.inr hf)).2.1 hk, p2.beside q2 fun k hk hf => (p4 k (.inr hf)).2.2 hk, p3, fun k hk => ?_⟩, fun k hk => q2.block k (p4 k (.inl hk)).1 (h2 k hk)⟩
  · rcases q3 k hf with h | h
    · exact h2 k hk h
    · have := (p4 k (.inl hk)).1
      omega
  · rcases hk with hk | hk
    · exact ⟨Nat.lt_of_lt_of_le (p4 k (.inl hk)).1 q2.size, (p4 k (.inl hk)).2⟩
    · refine ⟨(q1.lt hk).2, ?_⟩
      rcases q3 k hk with h | h
      · exact (p4 k (.inr h)).2
      · refine ⟨fun hf => ?_, fun hf => ?_⟩
        · have := (p1.lt hf).2
          omega
        · have := (p2.lt hf).2
          omega
theorem W3.more {w0 w w' : World} {Q : Nat → Prop} {g gc gm b : Nat} {so ss sm : List Seg} (h : W3 w0 w Q g so gc ss gm sm) (hb' : Below w.heap.size w w') (h0 : w.heap.size ≤ b) (h1 : b < w'.heap.size) : W3 w0 w' (fun k => Q k ∨ k = b) g so gc ss gm sm ∧ Kept Q w w' := by
  obtain ⟨F, p1, p2, p3⟩ := h
  obtain ⟨q1, q2⟩ := p3.more hb' h0 h1
  refine ⟨⟨F, p1.below hb', fun k hk hf => ?_, q1.less fun k hk => ?_⟩, fun k hk => q2 k (.inl hk)⟩
  · rcases hk with hk | rfl
    · exact p2 k hk hf
    · have := (p1.lt hf).2
      omega
  · rcases hk with (hk | hk) | hk
    · exact .inl (.inl hk)
    · exact .inr hk
    · exact .inl (.inr hk)
theorem W3.less {w0 w : World} {Q Q' : Nat → Prop} {g gc gm : Nat} {so ss sm : List Seg} (h : W3 w0 w Q g so gc ss gm sm) (hq : ∀ k, Q' k → Q k) : W3 w0 w Q' g so gc ss gm sm := by
  obtain ⟨F, p1, p2, p3⟩ := h
  exact ⟨F, p1, fun k hk => p2 k (hq k hk), p3.less fun k hk => hk.imp (hq k) id⟩
/-- A block of its own, as it is. -/
theorem Bx.kept {w w' : World} {g : Nat} {cs : Array Value} {t : TypeId} {Q : Nat → Prop} (h : Bx w g cs t) (hk : Kept Q w w') (hq : Q g) : Bx w' g cs t := (hk g hq).trans h
theorem one_byte (w : World) (x : UInt8) : Src (w.alloc (.cells #[.int .u8 (x.toNat : Int)] 5)) (fun k => k = w.heap.size) (some ⟨w.heap.size, 0, none⟩) 1 1 (cells [x]) := by
  refine ⟨rfl, (by intro h; cases h), Nat.le_refl _, (by intro ad h _; cases h; rfl), ?_⟩
  intro ad h j u hu
  cases h
  have hj : j = 0 := by have := (List.getElem?_eq_some_iff.1 hu).1; simp [cells] at this; omega
  subst hj
  rw [plainAdd]
  have hb : Bx (w.alloc (.cells #[.int .u8 (x.toNat : Int)] 5)) w.heap.size #[.int .u8 (x.toNat : Int)] 5 := Bx.new _ _ _
  rw [hb.c 0]
  simpa [cells] using hu
/-- Where a round stands: both spaces, and the act's box. -/
def At5 (w w' : World) (bx g gm : Nat) (ss sm : List Seg) (x : Ac) (A : Option Addr) (c : Nat) : Prop := Wm w w' (fun k => k = bx) g ss gm sm ∧ Bx w' bx (acells x A c) 33
theorem At5.cells {w w' : World} {bx g gm : Nat} {ss sm : List Seg} {x : Ac} {A : Option Addr} {c : Nat} (h : At5 w w' bx g gm ss sm x A c) :
    w'.cell? ⟨bx, 0, none⟩ = some (.int .i64 x.do_) ∧ w'.cell? ⟨bx, 1, none⟩ = some (.int .i64 x.at_) ∧ w'.cell? ⟨bx, 2, none⟩ = some (.int .i64 x.n) ∧ w'.cell? ⟨bx, 3, none⟩ = some (.int .i64 x.perm) ∧ w'.cell? ⟨bx, 4, none⟩ = some (.slice A x.b.length c) ∧ w'.frozen? ⟨bx, 4, none⟩ = false :=
  ⟨h.2.c 0, h.2.c 1, h.2.c 2, h.2.c 3, h.2.c 4, h.2.f 4⟩
theorem At5.new {w wr : World} {g gm : Nat} {ss sm : List Seg} (h : Wm w wr (fun _ => False) g ss gm sm) (x : Ac) (A : Option Addr) (c : Nat) : At5 w (wr.alloc (.cells (acells x A c) 33)) wr.heap.size g gm ss sm x A c :=
  ⟨((h.more ((Below.refl _ _).alloc (Nat.le_refl _) _) (Nat.le_refl _) (by simp)).1).less fun k hk => .inr hk, Bx.new _ _ _⟩

set_option maxRecDepth 100000 in
set_option maxHeartbeats 16000000 in
theorem does5_any (A0 : Option Addr) (n0 c0 : Nat) (xs : List Ac) (w : World) (h : Acs w (fun k => k < w.heap.size) A0 n0 c0 xs) (hn : n0 ≤ 140737488351232) :
    Calls Try.prog 3 #[.slice A0 n0 c0] w fun e w' => e = .returned (.bool true) ∧ Below w.heap.size w w' := by
  have HL := Lib.hid h.len
  have HX := Lib.hid h
  have HA := Lib.hid (awake_any w)
  clear h
  go_enter Try.func3, Try.ntmps3
  go_wp2_with fail
  refine HA.out.mono ?_
  rintro e w1 ⟨rfl, hb⟩
  have C1 := Lib.hid (New_w w w1 hb)
  clear hb HA
  go_wp2_with fail
  refine C1.out.mono ?_
  rintro e w2 ⟨rfl, h1⟩
  have H2 := Lib.hid (Wm.new h1)
  generalize w1.heap.size = g0 at *
  generalize hgm : w2.heap.size = gm at *
  clear h1 C1
  go_wp2_with fail
  generalize w2.alloc (.cells #[.slice none 0 0] 29) = w3 at *
  go_loopw [4, 6] (fun t4 t6 wr => ∃ k g ss, k ≤ n0 ∧ t6 = .int .i64 (k : Nat) ∧ t4 = .pointer (some ⟨g, 0, none⟩) ∧ Wm w wr (fun _ => False) g ss gm ss) (fun _ t6 _ => n0 - (intOf t6).toNat)
  case atStart => exact ⟨0, g0, [], Nat.zero_le _, rfl, rfl, H2.out⟩
  case round =>
    obtain ⟨k, g, ss, hk, rfl, rfl, hat⟩ := hrel
    by_cases hlt : k < n0
    · have hkl : k < xs.length := by rw [HL.out]; exact hlt
      obtain ⟨ad, rfl⟩ : ∃ ad, A0 = some ad := by
        cases A0 with
        | none => have := (HX.out.nil rfl).1; omega
        | some ad => exact ⟨ad, rfl⟩
      obtain ⟨b, o, Ai, ci, rfl, hv, k0, k1, k2, k3, k4⟩ := HX.out.cells k hkl
      have hcp := HX.out.cap
      generalize xs[k] = x at *
      have HV := Lib.hid hv
      have HK := Lib.hid (show ∀ X, Below w.heap.size w X → (X.cell? ⟨b, o + k * 5, none⟩ = some (.int .i64 x.do_) ∧ X.cell? ⟨b, o + k * 5 + 1, none⟩ = some (.int .i64 x.at_) ∧ X.cell? ⟨b, o + k * 5 + 2, none⟩ = some (.int .i64 x.n) ∧ X.cell? ⟨b, o + k * 5 + 3, none⟩ = some (.int .i64 x.perm) ∧ X.cell? ⟨b, o + k * 5 + 4, none⟩ = some (.slice Ai x.b.length ci)) from fun X hX => ⟨cell_below hX k0, cell_below hX k1, cell_below hX k2, cell_below hX k3, cell_below hX k4⟩)
      have H5 := Lib.hid (At5.new hat x Ai ci)
      have HW0 := Lib.hid hat.1.size
      obtain ⟨r0, r1, r2, r3, r4⟩ := HK.out _ hat.1
      clear hat hv k0 k1 k2 k3 k4
      unfold acells at H5
      go_upto_region 10 with (fail)
      generalize hwa : wr.alloc (.cells #[.int .i64 x.do_, .int .i64 x.at_, .int .i64 x.n, .int .i64 x.perm, .slice Ai x.b.length ci] 33) = wa at *
      generalize wr.heap.size = bx at *
      clear r0 r1 r2 r3 r4 hwa
      obtain ⟨c0', c1', c2', c3', c4', f4'⟩ := H5.out.cells
      go_upto_if 36 with (fail)
      go_cut [4] from 24 (fun s4 wx => ∃ g', s4 = .pointer (some ⟨g', 0, none⟩) ∧ At5 w wx bx g' gm ss ss x Ai ci)
      case first =>
        by_cases hd : x.do_ = 9
        · have HCO := Lib.hid H5.out.1.copy
          go_wp2_with fail
          refine HCO.out.mono ?_
          rintro e w2 ⟨gc, rfl, h3, hk⟩
          have HX2 := Lib.hid (H5.out.2.kept hk rfl)
          have HM := Lib.hid (h3.act fun F hF => Map_s 64 7 hF)
          clear h3 hk HCO c0' c1' c2' c3' c4' f4'
          go_wp2_with fail
          refine HM.out.mono ?_
          rintro e w4 ⟨rfl, h3, hk⟩
          have HX4 := Lib.hid (HX2.out.kept hk rfl)
          have hbe : Below w4.heap.size w4 (w4.alloc (.cells #[.int .u8 ((9 : UInt8).toNat : Int)] 5)) := (Below.refl _ _).alloc (Nat.le_refl _) _
          have HX5 := Lib.hid (HX4.out.below hbe)
          have HS5 := Lib.hid (one_byte w4 9)
          have H35 := Lib.hid (h3.more hbe (Nat.le_refl _) (by simp)).1
          have HP := Lib.hid (H35.out.actQ fun F hF hq => Poke_s (P := fun k => k = w4.heap.size) HV.out.at_ hF HS5.out fun q e => ⟨(hq q (.inr e)).1, (hq q (.inr e)).2⟩)
          have e1 : w4.cell? ⟨bx, 1, none⟩ = some (.int .i64 x.at_) := HX4.out.c 1
          clear h3 hk HM hbe HX2
          go_wp2_with fail
          refine HP.out.mono ?_
          rintro e w6 ⟨rfl, h3, hk⟩
          have HX6 := Lib.hid (HX5.out.kept hk (.inl rfl))
          have HU := Lib.hid (h3.act fun F hF => Unmap_s 4096 hF)
          clear h3 hk HP HX5 HX4 HS5 H35 e1
          go_wp2_with fail
          refine HU.out.mono ?_
          rintro e w7 ⟨rfl, h3, hk⟩
          have HX7 := Lib.hid (HX6.out.kept hk (.inl rfl))
          have H7 := Lib.hid (h3.drop.less (Q' := fun k => k = bx) fun k hk => .inl hk)
          clear h3 hk HU HX6
          go_wp2_with fail
          go_meet
          case rel => exact ⟨gc, rfl, H7.out, HX7.out⟩
        · have hd' : (x.do_ == 9) = false := by simpa using hd
          go_wp2_with fail
          go_meet
          case rel => exact ⟨g, rfl, H5.out⟩
      case rest =>
        obtain ⟨g', rfl, h5⟩ := hcut
        have HBX := Lib.hid h5.2
        have HLT := Lib.hid h5.2.lt
        have HVc := Lib.hid (HV.out.keep (w' := wc) fun q hq _ => h5.1.1.block q hq)
        have HLE := Lib.hid (h5.1.lend HVc.out.src HVc.out.len)
        obtain ⟨c0, c1, c2, c3, c4, f4⟩ := h5.cells
        clear h5 H5 c0' c1' c2' c3' c4' f4'
        go_wp2_with fail
        refine HLE.out.mono ?_
        rintro e w4 ⟨gl, rfl, hc, hge, hw4, hk⟩
        have hbl : bx ≠ gl := by have := HLT.out; omega
        have HX4 := Lib.hid (HBX.out.kept hk rfl)
        have e4 : w4.cell? ⟨bx, 4, none⟩ = some (.slice Ai x.b.length ci) := HX4.out.c 4
        have e5 : w4.frozen? ⟨bx, 4, none⟩ = false := HX4.out.f 4
        have HG := Lib.hid (show w.heap.size ≤ gl by have := HLT.out; have := HW0.out; omega)
        have H5 := Lib.hid (hw4.set (b := bx) (.inl rfl) HW0.out 4 (.slice (some ⟨gl, 0, none⟩) x.b.length (x.b.length + 3)))
        have HX5 := Lib.hid (show Bx (w4.setCell ⟨bx, 4, none⟩ (.slice (some ⟨gl, 0, none⟩) x.b.length (x.b.length + 3))) bx (acells x (some ⟨gl, 0, none⟩) (x.b.length + 3)) 33 from heap_setCell_same w4 bx 4 _ _ _ HX4.out)
        have HC5 := Lib.hid (show (w4.setCell ⟨bx, 4, none⟩ (.slice (some ⟨gl, 0, none⟩) x.b.length (x.b.length + 3))).heap[gl]? = some (.cells (lentCells x.b).toArray 5 (0, 0)) from (heap_setCell_other _ _ _ _ (fun e => hbl (show gl = bx from e).symm)).trans hc)
        have HNE := Lib.hid hbl
        clear hc hge hw4 hk HLE HBX c0 c1 c2 c3 c4 f4 hbl
        go_upto_region 20 with (fail)
        generalize w4.setCell ⟨bx, 4, none⟩ (.slice (some ⟨gl, 0, none⟩) x.b.length (x.b.length + 3)) = w5 at *
        -- the act, by the program
        obtain ⟨c0, c1, c2, c3, c4⟩ : w5.cell? ⟨bx, 0, none⟩ = some (.int .i64 x.do_) ∧ w5.cell? ⟨bx, 1, none⟩ = some (.int .i64 x.at_) ∧ w5.cell? ⟨bx, 2, none⟩ = some (.int .i64 x.n) ∧ w5.cell? ⟨bx, 3, none⟩ = some (.int .i64 x.perm) ∧ w5.cell? ⟨bx, 4, none⟩ = some (.slice (some ⟨gl, 0, none⟩) x.b.length (x.b.length + 3)) := ⟨HX5.out.c 0, HX5.out.c 1, HX5.out.c 2, HX5.out.c 3, HX5.out.c 4⟩
        have HD := H5.out.does (P := fun q => q = gl) x (some ⟨gl, 0, none⟩) (x.b.length + 3) ⟨src_lent HC5.out, HV.out.len, HV.out.at_, HV.out.n⟩ fun q e => .inr (.inr e)
        unfold acells at HD
        have HD := Lib.hid HD
        clear e4 e5
        go_wp2_with fail
        refine HD.out.mono ?_
        rintro e w6 ⟨rfl, hw6, hk⟩
        have HX6 := Lib.hid (HX5.out.kept hk (.inl rfl))
        have HC6 := Lib.hid ((hk gl (.inr rfl)).trans HC5.out)
        have HV6 := Lib.hid (HV.out.keep (w' := w6) fun q hq _ => hw6.1.block q hq)
        have HBK := Lib.hid (hw6.back (Q := fun k => k = bx) (fun e => HNE.out e.symm) HG.out HC6.out HV6.out.src HV.out.len)
        obtain ⟨r0, r1, r2, r3, r4⟩ := HK.out _ hw6.1
        clear hw6 hk HD HC5 H5 HX5 c0 c1 c2 c3 c4
        generalize hact : actS ss x = ac at *
        go_wp2_with fail
        refine HBK.out.mono ?_
        rintro e w7 ⟨rfl, hw7, hk⟩
        have HX7 := Lib.hid (HX6.out.kept hk rfl)
        have HV7 := Lib.hid (HV.out.keep (w' := w7) fun q hq _ => hw7.1.block q hq)
        have HMO := hw7.model x Ai ci HV7.out fun q hq => .inl hq
        unfold acells at HMO
        rw [hact] at HMO
        have HMO := Lib.hid HMO
        clear r0 r1 r2 r3 r4
        obtain ⟨r0, r1, r2, r3, r4⟩ := HK.out _ hw7.1
        clear hw7 hk HBK HC6 HV6 HX6 hact
        go_wp2_with fail
        refine HMO.out.mono ?_
        rintro e w8 ⟨rfl, hw8, hk⟩
        have HX8 := Lib.hid (HX7.out.kept hk rfl)
        obtain ⟨c1, c2, c4⟩ : w8.cell? ⟨bx, 1, none⟩ = some (.int .i64 x.at_) ∧ w8.cell? ⟨bx, 2, none⟩ = some (.int .i64 x.n) ∧ w8.cell? ⟨bx, 4, none⟩ = some (.slice (some ⟨gl, 0, none⟩) x.b.length (x.b.length + 3)) := ⟨HX8.out.c 1, HX8.out.c 2, HX8.out.c 4⟩
        have HA1 := Lib.hid (hw8.alike x.at_ x.n HV.out.at_)
        clear hw8 hk HMO HX7 HV7 r0 r1 r2 r3 r4
        go_wp2_with fail
        refine HA1.out.mono ?_
        rintro e w9 ⟨rfl, hw9, hk⟩
        have HX9 := Lib.hid (HX8.out.kept hk rfl)
        clear c1 c2 c4
        obtain ⟨c1, c4⟩ : w9.cell? ⟨bx, 1, none⟩ = some (.int .i64 x.at_) ∧ w9.cell? ⟨bx, 4, none⟩ = some (.slice (some ⟨gl, 0, none⟩) x.b.length (x.b.length + 3)) := ⟨HX9.out.c 1, HX9.out.c 4⟩
        have HA2 := Lib.hid (hw9.alike x.at_ (x.b.length : Nat) HV.out.at_)
        clear hw9 hk HA1 HX8
        go_wp2_with fail
        refine HA2.out.mono ?_
        rintro e w10 ⟨rfl, hw10, hk⟩
        have HE := Lib.hid (hw10.less (Q' := fun _ => False) fun k hk => hk.elim)
        clear hw10 hk HA2 HX9 c1 c4
        go_wp2_with fail
        refine ⟨?_, by simp [intOf]; omega⟩
        first | exact ⟨k + 1, g', ac.2.2, by omega, by go_num, rfl, HE.out⟩ | ((repeat apply Exists.intro); exact ⟨⟨k + 1, g', ac.2.2, by omega, by go_num, rfl, HE.out⟩, rfl⟩)
    · obtain rfl : k = n0 := by omega
      have HAT := Lib.hid hat
      clear hat
      go_wp2
      first | go_ret | skip
      exact ⟨rfl, HAT.out.1⟩
end
end Go.Proofs.Ythbdncojekpanaa
