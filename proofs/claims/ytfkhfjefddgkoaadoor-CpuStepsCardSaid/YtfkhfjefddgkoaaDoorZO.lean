/-
  An act of a script, done by the document's model.
  A space of the program beside one of the document's and beside blocks that are kept; and an old one that a copy left.
  Two memories that hold the same: alike.
-/
import Derived.Test.YtfkhfjefddgkoaaDoorZSDo
import Derived.Test.YtfkhfjefddgkoaaDoorZD
import Derived.Test.YtfkhfjefddgkoaaDoorZSBw
import Derived.Test.YtfkhfjefddgkoaaDoorZL
namespace Go.Proofs.YtfkhfjefddgkoaaDoor
open Go.RowKit

theorem WentM.stay {w w' : World} {B g : Nat} {F : Nat → Prop} {ss : List Seg} (h : Mies w B g F ss) (hb : Below w.heap.size w w') : WentM w w' B g F ss := ⟨F, h.below hb, Beside.of_below hb _, fun _ hk => .inl hk⟩
theorem WentM.then {w w1 w2 : World} {B g : Nat} {F F' : Nat → Prop} {ss : List Seg} (hb : Beside w w1 F) (hF : ∀ k, F' k → F k ∨ w.heap.size ≤ k) (h : WentM w1 w2 B g F' ss) : WentM w w2 B g F ss := by
  obtain ⟨F2, h1, h2, h3⟩ := h
  refine ⟨F2, h1, hb.then h2 fun k hk hf => ?_, fun k hk => ?_⟩
  · rcases hF k hf with h | h
    · exact h
    · omega
  · rcases h3 k hk with h | h
    · exact hF k h
    · exact .inr (Nat.le_trans hb.size h)
/-- Behind an act. -/
def DidM (w : World) (B g : Nat) (F : Nat → Prop) (u : Int × Int × List Seg) (e : Ending) (w' : World) : Prop := e = .returned (.tuple #[.int .i64 u.1, .int .i64 u.2.1]) ∧ WentM w w' B g F u.2.2
theorem DidM.box {w w' : World} {B g : Nat} {F : Nat → Prop} {u : Int × Int × List Seg} {e : Ending} (o : Obj) (h : DidM (w.alloc o) B g F u e w') : DidM w B g F u e w' := ⟨h.1, WentM.then (Beside.alloc w o F) (fun _ h => .inl h) h.2⟩
set_option maxRecDepth 100000 in
set_option maxHeartbeats 4000000 in
theorem model_any {w : World} {B g : Nat} {F P : Nat → Prop} {ss : List Seg} (x : Ac) (A : Option Addr) (c : Nat) (h : Mies w B g F ss) (hv : AcV w P x A c) (hP : ∀ q, P q → ¬ F q ∧ q < w.heap.size) :
    Calls Tryd.prog 25 #[.pointer (some ⟨g, 0, none⟩), .agg (acells x A c)] w (DidM w B g F (actS ss x)) := by
  have hbx := (Below.refl w.heap.size w).alloc (Nat.le_refl _) (.cells (acells x A c) 68)
  have hl := h.below hbx
  have hP2 : ∀ q, P q → ¬ F q ∧ q < (w.alloc (.cells (acells x A c) 68)).heap.size := fun q hq => ⟨(hP q hq).1, Nat.lt_of_lt_of_le (hP q hq).2 hbx.size⟩
  have hV := hv.keep (w' := w.alloc (.cells (acells x A c) 68)) fun k _ hk => hbx.block k hk
  have hsrc := hV.src
  have hat := hV.at_
  have hu : actS ss x = if x.do_ = 1 then mapS ss x.n x.perm
    else if x.do_ = 2 then (0, mapAtS ss x.at_ x.n x.perm)
    else if x.do_ = 3 then (0, unmapS ss x.at_)
    else if x.do_ = 4 then (0, protS ss x.at_ x.perm)
    else if x.do_ = 5 then (0, storeS ss x.at_ x.b 2)
    else if x.do_ = 6 then (0, storeS ss x.at_ x.b 0)
    else if x.do_ = 7 then (0, storeS ss x.at_ (digs x.n 8) 2)
    else if x.do_ = 8 then (0, storeS ss x.at_ (digs x.n 8) 0)
    else (0, 0, ss) := rfl
  generalize actS ss x = u at *
  have HBOX := Lib.hid (fun e w' => DidM.box (w := w) (w' := w') (B := B) (g := g) (F := F) (u := u) (e := e) (.cells (acells x A c) 68))
  have HST := Lib.hid (WentM.stay h hbx)
  have HL := Lib.hid hl
  have HP := Lib.hid hP2
  have HSR := Lib.hid hsrc
  have HAT := Lib.hid hat
  clear h hbx hV hv hP hl hP2 hsrc hat
  obtain ⟨d, a, n, p, b⟩ := x
  unfold acells at *
  simp only at *
  by_cases h1 : d = 1
  · rw [if_pos h1] at hu
    subst hu
    subst h1
    have HX := Lib.hid (Map_m n p HL.out)
    clear HL HP HSR HAT HST
    go_enter Tryd.func25, Tryd.ntmps25
    go_wp2_with fail
    refine HX.out.mono ?_
    rintro e w2 ⟨rfl, hw⟩
    have HE := Lib.hid (HBOX.out _ w2 ⟨rfl, hw⟩)
    clear hw HX HBOX
    go_wp2_with fail
    first | go_ret2 | skip
    exact HE.out
  rw [if_neg h1] at hu
  by_cases h2 : d = 2
  · rw [if_pos h2] at hu
    subst hu
    subst h2
    have HX := Lib.hid (MapAt_m a n p HL.out)
    clear HL HP HSR HAT HST
    go_enter Tryd.func25, Tryd.ntmps25
    go_wp2_with fail
    refine HX.out.mono ?_
    rintro e w2 ⟨rfl, hw⟩
    have HE := Lib.hid (HBOX.out _ w2 ⟨rfl, hw⟩)
    clear hw HX HBOX
    go_wp2_with fail
    first | go_ret2 | skip
    exact HE.out
  rw [if_neg h2] at hu
  by_cases h3 : d = 3
  · rw [if_pos h3] at hu
    subst hu
    subst h3
    have HX := Lib.hid (Unmap_m a HL.out)
    clear HL HP HSR HAT HST
    go_enter Tryd.func25, Tryd.ntmps25
    go_wp2_with fail
    refine HX.out.mono ?_
    rintro e w2 ⟨rfl, hw⟩
    have HE := Lib.hid (HBOX.out _ w2 ⟨rfl, hw⟩)
    clear hw HX HBOX
    go_wp2_with fail
    first | go_ret2 | skip
    exact HE.out
  rw [if_neg h3] at hu
  by_cases h4 : d = 4
  · rw [if_pos h4] at hu
    subst hu
    subst h4
    have HX := Lib.hid (Protect_m a p HL.out)
    clear HL HP HSR HAT HST
    go_enter Tryd.func25, Tryd.ntmps25
    go_wp2_with fail
    refine HX.out.mono ?_
    rintro e w2 ⟨rfl, hw⟩
    have HE := Lib.hid (HBOX.out _ w2 ⟨rfl, hw⟩)
    clear hw HX HBOX
    go_wp2_with fail
    first | go_ret2 | skip
    exact HE.out
  rw [if_neg h4] at hu
  by_cases h5 : d = 5
  · rw [if_pos h5] at hu
    subst hu
    subst h5
    have HX := Lib.hid (Set_m HAT.out (p := 2) (by omega) HL.out HSR.out HP.out)
    clear HL HP HSR HAT HST
    go_enter Tryd.func25, Tryd.ntmps25
    go_wp2_with fail
    refine HX.out.mono ?_
    rintro e w2 ⟨rfl, hw⟩
    have HE := Lib.hid (HBOX.out _ w2 ⟨rfl, hw⟩)
    clear hw HX HBOX
    go_wp2_with fail
    first | go_ret2 | skip
    exact HE.out
  rw [if_neg h5] at hu
  by_cases h6 : d = 6
  · rw [if_pos h6] at hu
    subst hu
    subst h6
    have HX := Lib.hid (Set_m HAT.out (p := 0) (by omega) HL.out HSR.out HP.out)
    clear HL HP HSR HAT HST
    go_enter Tryd.func25, Tryd.ntmps25
    go_wp2_with fail
    refine HX.out.mono ?_
    rintro e w2 ⟨rfl, hw⟩
    have HE := Lib.hid (HBOX.out _ w2 ⟨rfl, hw⟩)
    clear hw HX HBOX
    go_wp2_with fail
    first | go_ret2 | skip
    exact HE.out
  rw [if_neg h6] at hu
  by_cases h7 : d = 7
  · rw [if_pos h7] at hu
    subst hu
    subst h7
    have HX := Lib.hid (SetWord_m n HAT.out (p := 2) (by omega) HL.out)
    clear HL HP HSR HAT HST
    go_enter Tryd.func25, Tryd.ntmps25
    go_wp2_with fail
    refine HX.out.mono ?_
    rintro e w2 ⟨rfl, hw⟩
    have HE := Lib.hid (HBOX.out _ w2 ⟨rfl, hw⟩)
    clear hw HX HBOX
    go_wp2_with fail
    first | go_ret2 | skip
    exact HE.out
  rw [if_neg h7] at hu
  by_cases h8 : d = 8
  · rw [if_pos h8] at hu
    subst hu
    subst h8
    have HX := Lib.hid (SetWord_m n HAT.out (p := 0) (by omega) HL.out)
    clear HL HP HSR HAT HST
    go_enter Tryd.func25, Tryd.ntmps25
    go_wp2_with fail
    refine HX.out.mono ?_
    rintro e w2 ⟨rfl, hw⟩
    have HE := Lib.hid (HBOX.out _ w2 ⟨rfl, hw⟩)
    clear hw HX HBOX
    go_wp2_with fail
    first | go_ret2 | skip
    exact HE.out
  rw [if_neg h8] at hu
  subst hu
  clear HL HP HSR HAT HBOX
  go_enter Tryd.func25, Tryd.ntmps25
  go_wp2_with fail
  first | go_ret2 | skip
  exact ⟨rfl, HST.out⟩
end Go.Proofs.YtfkhfjefddgkoaaDoor

namespace Go.Proofs.YtfkhfjefddgkoaaDoor
open Go.RowKit

/-- These blocks are as they were. -/
def Kept (Q : Nat → Prop) (w w' : World) : Prop := ∀ k, Q k → w'.heap[k]? = w.heap[k]?
/-- A space of the program and one of the document's, made since w0, that share nothing, beside the blocks Q. -/
def Wm (w0 w : World) (Q : Nat → Prop) (g : Nat) (ss : List Seg) (gm : Nat) (sm : List Seg) : Prop :=
  Below w0.heap.size w0 w ∧ ∃ F F', Lies w w0.heap.size g F ss ∧ Mies w w0.heap.size gm F' sm ∧ (∀ k, F k → ¬ F' k) ∧ ∀ k, Q k → k < w.heap.size ∧ ¬ F k ∧ ¬ F' k
theorem Wm.quiet {w0 w w' : World} {Q : Nat → Prop} {g gm : Nat} {ss sm : List Seg} (h : Wm w0 w Q g ss gm sm) (hb' : Below w.heap.size w w') : Wm w0 w' Q g ss gm sm ∧ Kept Q w w' := by
  obtain ⟨hb, F, F', h1, h2, h3, h4⟩ := h
  exact ⟨⟨hb.trans (hb'.mono hb.size), F, F', h1.below hb', h2.below hb', h3, fun k hk => ⟨Nat.lt_of_lt_of_le (h4 k hk).1 hb'.size, (h4 k hk).2⟩⟩, fun k hk => hb'.block k (h4 k hk).1⟩
/-- Beside one more that is new. -/
theorem Wm.more {w0 w w' : World} {Q : Nat → Prop} {g gm b : Nat} {ss sm : List Seg} (h : Wm w0 w Q g ss gm sm) (hb' : Below w.heap.size w w') (h0 : w.heap.size ≤ b) (h1 : b < w'.heap.size) : Wm w0 w' (fun k => Q k ∨ k = b) g ss gm sm ∧ Kept Q w w' := by
  obtain ⟨hb, F, F', p1, p2, p3, p4⟩ := h
  refine ⟨⟨hb.trans (hb'.mono hb.size), F, F', p1.below hb', p2.below hb', p3, fun k hk => ?_⟩, fun k hk => hb'.block k (p4 k hk).1⟩
  rcases hk with hk | rfl
  · exact ⟨Nat.lt_of_lt_of_le (p4 k hk).1 hb'.size, (p4 k hk).2⟩
  · refine ⟨h1, fun hf => ?_, fun hf => ?_⟩
    · have := (p1.lt hf).2
      omega
    · have := (p2.lt hf).2
      omega
theorem Wm.less {w0 w : World} {Q Q' : Nat → Prop} {g gm : Nat} {ss sm : List Seg} (h : Wm w0 w Q g ss gm sm) (hq : ∀ k, Q' k → Q k) : Wm w0 w Q' g ss gm sm := by
  obtain ⟨hb, F, F', h1, h2, h3, h4⟩ := h
  exact ⟨hb, F, F', h1, h2, h3, fun k hk => h4 k (hq k hk)⟩
/-- What changes only kept blocks. -/
theorem Wm.stir {w0 w w' : World} {Q p : Nat → Prop} {g gm : Nat} {ss sm : List Seg} (h : Wm w0 w Q g ss gm sm) (hbs : Beside w w' p) (hp : ∀ k, p k → Q k ∧ w0.heap.size ≤ k) : Wm w0 w' Q g ss gm sm := by
  obtain ⟨hb, F, F', h1, h2, h3, h4⟩ := h
  exact ⟨hb.trans (hbs.below (fun k hk => (hp k hk).2) hb.size), F, F', h1.beside hbs fun k hk e => (h4 k (hp k e).1).2.1 hk, h2.beside hbs fun k hk e => (h4 k (hp k e).1).2.2 hk, h3, fun k hk => ⟨Nat.lt_of_lt_of_le (h4 k hk).1 hbs.size, (h4 k hk).2⟩⟩
theorem Wm.went {w0 w w' : World} {Q : Nat → Prop} {g gm : Nat} {ss sm s2 : List Seg} {F F' : Nat → Prop} (hb : Below w0.heap.size w0 w) (h1 : Lies w w0.heap.size g F ss) (h2 : Mies w w0.heap.size gm F' sm) (h3 : ∀ k, F k → ¬ F' k) (h4 : ∀ k, Q k → k < w.heap.size ∧ ¬ F k ∧ ¬ F' k) (h : Went w w' w0.heap.size g F s2) : Wm w0 w' Q g s2 gm sm ∧ Kept Q w w' := by
  obtain ⟨F2, p1, p2, p3⟩ := h
  refine ⟨⟨hb.trans (p2.below (fun k hk => (h1.lt hk).1) hb.size), F2, F', p1, h2.beside p2 fun k hk hf => h3 k hf hk, fun k hk hk' => ?_, fun k hk => ⟨Nat.lt_of_lt_of_le (h4 k hk).1 p2.size, fun hf => ?_, (h4 k hk).2.2⟩⟩, fun k hk => p2.block k (h4 k hk).1 (h4 k hk).2.1⟩
  · rcases p3 k hk with h | h
    · exact h3 k h hk'
    · have := (h2.lt hk').2
      omega
  · rcases p3 k hf with h | h
    · exact (h4 k hk).2.1 h
    · have := (h4 k hk).1
      omega
theorem Wm.wentM {w0 w w' : World} {Q : Nat → Prop} {g gm : Nat} {ss sm s2 : List Seg} {F F' : Nat → Prop} (hb : Below w0.heap.size w0 w) (h1 : Lies w w0.heap.size g F ss) (h2 : Mies w w0.heap.size gm F' sm) (h3 : ∀ k, F k → ¬ F' k) (h4 : ∀ k, Q k → k < w.heap.size ∧ ¬ F k ∧ ¬ F' k) (h : WentM w w' w0.heap.size gm F' s2) : Wm w0 w' Q g ss gm s2 ∧ Kept Q w w' := by
  obtain ⟨F2, p1, p2, p3⟩ := h
  refine ⟨⟨hb.trans (p2.below (fun k hk => (h2.lt hk).1) hb.size), F, F2, h1.beside p2 h3, p1, fun k hk hk' => ?_, fun k hk => ⟨Nat.lt_of_lt_of_le (h4 k hk).1 p2.size, (h4 k hk).2.1, fun hf => ?_⟩⟩, fun k hk => p2.block k (h4 k hk).1 (h4 k hk).2.2⟩
  · rcases p3 k hk' with h | h
    · exact h3 k hk h
    · have := (h1.lt hk).2
      omega
  · rcases p3 k hf with h | h
    · exact (h4 k hk).2.2 h
    · have := (h4 k hk).1
      omega
/-- An act, done by the program's. -/
theorem Wm.does {w0 w : World} {Q : Nat → Prop} {g gm : Nat} {ss sm : List Seg} {P : Nat → Prop} (h : Wm w0 w Q g ss gm sm) (x : Ac) (A : Option Addr) (c : Nat) (hv : AcV w P x A c) (hP : ∀ q, P q → q < w0.heap.size ∨ Q q) :
    Calls Tryd.prog 24 #[.pointer (some ⟨g, 0, none⟩), .agg (acells x A c)] w fun e w' => e = .returned (.tuple #[.int .i64 (actS ss x).1, .int .i64 (actS ss x).2.1]) ∧ Wm w0 w' Q g (actS ss x).2.2 gm sm ∧ Kept Q w w' := by
  obtain ⟨hb, F, F', h1, h2, h3, h4⟩ := h
  refine (does_any x A c h1 hv fun q hq => ?_).mono fun e w' hw => ⟨hw.1, Wm.went hb h1 h2 h3 h4 hw.2⟩
  rcases hP q hq with hq | hq
  · refine ⟨fun hf => ?_, Nat.lt_of_lt_of_le hq hb.size⟩
    have := (h1.lt hf).1
    omega
  · exact ⟨(h4 q hq).2.1, (h4 q hq).1⟩
/-- And by the document's. -/
theorem Wm.model {w0 w : World} {Q : Nat → Prop} {g gm : Nat} {ss sm : List Seg} {P : Nat → Prop} (h : Wm w0 w Q g ss gm sm) (x : Ac) (A : Option Addr) (c : Nat) (hv : AcV w P x A c) (hP : ∀ q, P q → q < w0.heap.size ∨ Q q) :
    Calls Tryd.prog 25 #[.pointer (some ⟨gm, 0, none⟩), .agg (acells x A c)] w fun e w' => e = .returned (.tuple #[.int .i64 (actS sm x).1, .int .i64 (actS sm x).2.1]) ∧ Wm w0 w' Q g ss gm (actS sm x).2.2 ∧ Kept Q w w' := by
  obtain ⟨hb, F, F', h1, h2, h3, h4⟩ := h
  refine (model_any x A c h2 hv fun q hq => ?_).mono fun e w' hw => ⟨hw.1, Wm.wentM hb h1 h2 h3 h4 hw.2⟩
  rcases hP q hq with hq | hq
  · refine ⟨fun hf => ?_, Nat.lt_of_lt_of_le hq hb.size⟩
    have := (h2.lt hf).1
    omega
  · exact ⟨(h4 q hq).2.2, (h4 q hq).1⟩
/-- The old one, the copy, the document's. -/
def W3 (w0 w : World) (Q : Nat → Prop) (g : Nat) (so : List Seg) (gc : Nat) (ss : List Seg) (gm : Nat) (sm : List Seg) : Prop :=
  ∃ F, Lies w w0.heap.size g F so ∧ (∀ k, Q k → ¬ F k) ∧ Wm w0 w (fun k => Q k ∨ F k) gc ss gm sm
theorem W3.drop {w0 w : World} {Q : Nat → Prop} {g gc gm : Nat} {so ss sm : List Seg} (h : W3 w0 w Q g so gc ss gm sm) : Wm w0 w Q gc ss gm sm := by
  obtain ⟨F, h1, h2, h3⟩ := h
  exact h3.less fun k hk => .inl hk
theorem W3.act {w0 w : World} {Q : Nat → Prop} {g gc gm : Nat} {so ss sm s2 : List Seg} (h : W3 w0 w Q g so gc ss gm sm) {f : Nat} {args : Array Value} {v : Value} (hc : ∀ F, Lies w w0.heap.size g F so → Calls Tryd.prog f args w fun e w' => e = .returned v ∧ Went w w' w0.heap.size g F s2) :
    Calls Tryd.prog f args w fun e w' => e = .returned v ∧ W3 w0 w' Q g s2 gc ss gm sm ∧ Kept Q w w' := by
  obtain ⟨F, h1, h2, hb, F2, F', p1, p2, p3, p4⟩ := h
  refine (hc F h1).mono fun e w' ⟨he, F4, q1, q2, q3⟩ => ⟨he, ⟨F4, q1, fun k hk hf => ?_, hb.trans (q2.below (fun k hk => (h1.lt hk).1) hb.size), F2, F', p1.beside q2 fun k hk hf => (p4 k (.inr hf)).2.1 hk, p2.beside q2 fun k hk hf => (p4 k (.inr hf)).2.2 hk, p3, fun k hk => ?_⟩, fun k hk => q2.block k (p4 k (.inl hk)).1 (h2 k hk)⟩
  · rcases q3 k hf with h | h
    · exact h2 k hk h
    · have := (p4 k (.inl hk)).1
      omega
  · rcases hk with hk | hk
    · exact ⟨Nat.lt_of_lt_of_le (p4 k (.inl hk)).1 q2.size, (p4 k (.inl hk)).2⟩
    · refine ⟨(q1.lt hk).2, ?_⟩
      rcases q3 k hk with h | h
      · exact (p4 k (.inr h)).2
      · refine ⟨fun hf => ?_, fun hf => ?_⟩
        · have := (p1.lt hf).2
          omega
        · have := (p2.lt hf).2
          omega
end Go.Proofs.YtfkhfjefddgkoaaDoor

namespace Go.Proofs.YtfkhfjefddgkoaaDoor
open Go.RowKit

/-- Both are these regions. -/
def Two (w : World) (B g gm : Nat) (ss : List Seg) : Prop := (∃ F, Lies w B g F ss) ∧ ∃ F, Mies w B gm F ss
theorem Two.below {w w' : World} {B g gm : Nat} {ss : List Seg} (h : Two w B g gm ss) (hb : Below w.heap.size w w') : Two w' B g gm ss := by
  obtain ⟨⟨F, h1⟩, F', h2⟩ := h
  exact ⟨⟨F, h1.below hb⟩, F', h2.below hb⟩
theorem Two.good {w : World} {B g gm : Nat} {ss : List Seg} (h : Two w B g gm ss) : Good ss := by
  obtain ⟨⟨F, h1⟩, _⟩ := h
  exact h1.good
theorem TookS.read {w w' : World} {ss : List Seg} {a n need : Int} {e : Ending} (h : TookS w ss a n need e w') : ∃ A c, e = .returned (.tuple #[.slice A (readS ss a n need).length c, .int .i64 (goesS ss a n need)]) ∧ w'.ownsRow w.heap.size 5 1 (.slice A (readS ss a n need).length c) (readS ss a n need).length (cells (readS ss a n need)) ∧ Below w.heap.size w w' := by
  obtain ⟨hb, A, l, c, h1, h2, h3⟩ := h
  subst h2
  exact ⟨A, c, h1, h3, hb⟩
set_option maxRecDepth 100000 in
set_option maxHeartbeats 4000000 in
theorem alike6_any (B g gm : Nat) (ss : List Seg) (w : World) (h : Two w B g gm ss) :
    Calls Tryd.prog 14 #[.pointer (some ⟨g, 0, none⟩), .pointer (some ⟨gm, 0, none⟩)] w fun e w' => e = .returned (.bool true) ∧ Below w.heap.size w w' := by
  have hfew := good_few h.good
  have HG := Lib.hid h.good
  have HT := Lib.hid h
  obtain ⟨⟨F, hl⟩, F', hm⟩ := h
  have C3 := Lib.hid (Regions_s hl)
  clear hl hm
  go_enter Tryd.func14, Tryd.ntmps14
  go_wp2_with fail
  refine C3.out.mono ?_
  rintro e w3 ⟨A3, c3, he3, ho3, hb⟩
  rw [List.length_map] at he3
  subst he3
  have HG3 := Lib.hid (Gls.of_own ho3)
  have HT3 := Lib.hid (HT.out.below hb)
  have HB3 := Lib.hid hb
  have C4 := Lib.hid (by
    obtain ⟨_, F', hm⟩ := HT3.out
    exact Regions_m hm)
  clear C3 hb ho3 HT
  go_wp2_with fail
  refine C4.out.mono ?_
  rintro e w4 ⟨A4, c4, he4, ho4, hb⟩
  rw [List.length_map] at he4
  subst he4
  have C5 := Lib.hid (by
    have h5 := sameR_any _ A3 A4 c3 c4 _ w4 (HG3.out.below hb) (Gls.of_own ho4) (by rw [List.length_map]; omega)
    rw [List.length_map] at h5
    exact h5)
  have HG4 := Lib.hid (HG3.out.below hb)
  have HT4 := Lib.hid (HT3.out.below hb)
  have HB4 := Lib.hid (HB3.out.trans (hb.mono HB3.out.size))
  clear C4 hb ho4 HT3 HB3 HG3
  go_wp2_with fail
  refine C5.out.mono ?_
  rintro e w5 ⟨rfl, hb⟩
  have HG5 := Lib.hid (HG4.out.below hb)
  have HT5 := Lib.hid (HT4.out.below hb)
  have HB5 := Lib.hid (HB4.out.trans (hb.mono HB4.out.size))
  clear C5 hb HG4 HT4 HB4
  go_upto_region 5 with (fail)
  go_loopw [6] (fun t6 wr => ∃ k : Nat, k ≤ ss.length ∧ t6 = .int .i64 (k : Int) ∧ Below w5.heap.size w5 wr) (fun t6 _ => ss.length - (intOf t6).toNat)
  case atStart => exact ⟨0, Nat.zero_le _, rfl, Below.refl _ _⟩
  case round =>
    obtain ⟨k, hk, rfl, hbr⟩ := hrel
    have HBR := Lib.hid hbr
    clear hbr
    by_cases hlt : k < ss.length
    · have hkl : k < (ss.map rgS).length := by rw [List.length_map]; exact hlt
      obtain ⟨ad, rfl⟩ : ∃ ad, A3 = some ad := by
        cases A3 with
        | none => have := (HG5.out.nil rfl).1; omega
        | some ad => exact ⟨ad, rfl⟩
      obtain ⟨b, o, rfl⟩ := HG5.out.plain ad rfl
      have hfit := HG.out.fit ss[k] (List.getElem_mem hlt)
      have hcap := HG5.out.cap
      have HKE := Lib.hid (show ∀ X, Below w5.heap.size w5 X → (X.cell? ⟨b, o + k * 3, none⟩ = some (.int .i64 ss[k].at_) ∧ X.cell? ⟨b, o + k * 3 + 1, none⟩ = some (.int .i64 ss[k].size)) from fun X hX => by
        obtain ⟨k0, k1, _⟩ := (HG5.out.below hX).at_ b o k rfl hkl
        rw [List.getElem_map] at k0 k1
        exact ⟨k0, k1⟩)
      have ha : I64 ss[k].at_ := by unfold I64; omega
      generalize ss[k].at_ = a0 at *
      generalize ss[k].size = s0 at *
      have HPK := Lib.hid (show ∀ X, Below w5.heap.size w5 X → Calls Tryd.prog 37 #[.pointer (some ⟨g, 0, none⟩), .int .i64 a0, .int .i64 s0] X fun e w' => ∃ A c, e = .returned (.tuple #[.slice A (readS ss a0 s0 0).length c, .int .i64 (goesS ss a0 s0 0)]) ∧ Src w' (fun k => k < w'.heap.size) A (readS ss a0 s0 0).length c (cells (readS ss a0 s0 0)) ∧ Below w5.heap.size w5 w' from fun X hX => by
        obtain ⟨⟨F, hl⟩, _⟩ := HT5.out.below hX
        refine (Peek_s s0 ha hl).mono fun e w' ht => ?_
        obtain ⟨A, c, h1, h2, h3⟩ := ht.read
        exact ⟨A, c, h1, (Src.of_own h2).lt, hX.trans (h3.mono hX.size)⟩)
      have HGT := Lib.hid (show ∀ X, Below w5.heap.size w5 X → Calls Tryd.prog 38 #[.pointer (some ⟨gm, 0, none⟩), .int .i64 a0, .int .i64 s0, .int .i64 0] X fun e w' => ∃ A c, e = .returned (.tuple #[.slice A (readS ss a0 s0 0).length c, .int .i64 (goesS ss a0 s0 0)]) ∧ Src w' (fun k => k < w'.heap.size) A (readS ss a0 s0 0).length c (cells (readS ss a0 s0 0)) ∧ Below w5.heap.size w5 w' ∧ Below X.heap.size X w' from fun X hX => by
        obtain ⟨_, F, hm⟩ := HT5.out.below hX
        refine (Get_m s0 ha (p := 0) (by omega) hm).mono fun e w' ht => ?_
        obtain ⟨A, c, h1, h2, h3⟩ := ht.read
        exact ⟨A, c, h1, (Src.of_own h2).lt, hX.trans (h3.mono hX.size), h3⟩)
      generalize readS ss a0 s0 0 = r at *
      generalize goesS ss a0 s0 0 = x at *
      obtain ⟨q0, q1⟩ := HKE.out _ HBR.out
      have hk0 : (0 : Int) ≤ (k : Int) := by omega
      have hk1 : (k : Int) < (ss.length : Int) := by omega
      clear hkl hfit ha
      go_wp2_with fail
      go_region_held3 (fun X => X.cell? ⟨b, o + k * 3, none⟩ = some (.int .i64 a0) ∧ X.cell? ⟨b, o + k * 3 + 1, none⟩ = some (.int .i64 s0)) (first | (exact ⟨by assumption, by assumption⟩) | go_keep) (first
        | (go_at_call 37; (with_reducible refine (HPK.out _ (by first | exact HBR.out | exact below_draw6 HBR.out)).mono ?_); rintro e w6 ⟨A6, c6, rfl, hs6, hb6⟩; obtain ⟨p0, p1⟩ := HKE.out _ hb6))
      all_goals
        have HS6 := Lib.hid hs6
        have HB6 := Lib.hid hb6
        clear q0 q1 hs6 hb6 HPK
        go_wp2_with fail
        go_region_held3 (fun X => X.cell? ⟨b, o + k * 3, none⟩ = some (.int .i64 a0) ∧ X.cell? ⟨b, o + k * 3 + 1, none⟩ = some (.int .i64 s0)) (first | (exact ⟨by assumption, by assumption⟩) | go_keep) (first
          | (go_at_call 38; (with_reducible refine (HGT.out _ (by first | exact HB6.out | exact below_draw6 HB6.out)).mono ?_); rintro e w7 ⟨A7, c7, rfl, hs7, hb7, hb67⟩; obtain ⟨s0', s1'⟩ := HKE.out _ hb7))
        all_goals
          have cv1 := conv_string (HS6.out.on (show Below w6.heap.size w6 w7 from ⟨hb67.os, hb67.tape, hb67.output, hb67.size, hb67.block⟩))
          have cv2 := conv_string hs7
          have HB7 := Lib.hid hb7
          clear hs7 hb67 hb7 HGT p0 p1 s0' s1' HS6 HB6 HKE
          go_wp2_with fail
          exact ⟨⟨k + 1, by omega, by go_num, HB7.out⟩, by simp [intOf]; omega⟩
    · have HE := Lib.hid (HB5.out.trans (HBR.out.mono HB5.out.size))
      go_wp2_with fail
      first | go_ret | skip
      exact ⟨rfl, HE.out⟩
end Go.Proofs.YtfkhfjefddgkoaaDoor
