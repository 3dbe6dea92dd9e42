/-
  What each act does keeps the regions in order; a space that lies in memory as such regions; each act of the program, said so.
-/
import Derived.Test.YtpgmapcpffefnaaAd
import Derived.Test.YtpgmapcpffefnaaAc
namespace Go.Proofs.Ytpgmapcpffefnaa
open Go.RowKit

structure Good (ss : List Seg) : Prop where
  fit : ∀ s ∈ ss, 4096 ≤ s.at_ ∧ s.at_ % 64 = 0 ∧ 64 ≤ s.size ∧ s.size ≤ 1048576 ∧ s.size % 64 = 0 ∧ s.at_ + s.size ≤ 4294967296 ∧ 0 ≤ s.perm ∧ s.perm ≤ 7
  next : ss.Pairwise fun a b => a.at_ + a.size ≤ b.at_
theorem good_nil : Good [] := ⟨(by intro s hs; cases hs), List.Pairwise.nil⟩
theorem Good.al {rs : List Raw} (h : Good (segs rs)) : Al rs := fun r hr => by
  obtain ⟨_, h1, _, _, h2, _⟩ := h.fit (seg r.b) (List.mem_map_of_mem hr)
  exact ⟨h1, h2⟩
theorem ins_mem_s {x s : Seg} : ∀ {ss : List Seg}, s ∈ insS x ss → s = x ∨ s ∈ ss
  | [], h => .inl (List.mem_singleton.1 h)
  | y :: ss, h => by
    unfold insS at h
    split at h
    · rcases List.mem_cons.1 h with h | h
      · exact .inl h
      · exact .inr h
    · rcases List.mem_cons.1 h with h | h
      · exact .inr (by rw [h]; exact List.mem_cons_self ..)
      · rcases ins_mem_s h with h | h
        · exact .inl h
        · exact .inr (List.mem_cons_of_mem _ h)
theorem good_ins {ss : List Seg} (h : Good ss) {x : Seg} (hx : 4096 ≤ x.at_ ∧ x.at_ % 64 = 0 ∧ 64 ≤ x.size ∧ x.size ≤ 1048576 ∧ x.size % 64 = 0 ∧ x.at_ + x.size ≤ 4294967296 ∧ 0 ≤ x.perm ∧ x.perm ≤ 7) (hf : freeS ss x.at_ x.size) : Good (insS x ss) := by
  refine ⟨fun s hs => ?_, ?_⟩
  · rcases ins_mem_s hs with rfl | hs
    · exact hx
    · exact h.fit s hs
  · have key : ∀ (l : List Seg), l.Pairwise (fun a b => a.at_ + a.size ≤ b.at_) → (∀ s ∈ l, 64 ≤ s.size) → freeS l x.at_ x.size → (insS x l).Pairwise fun a b => a.at_ + a.size ≤ b.at_ := by
      intro l
      induction l with
      | nil => intro _ _ _; exact List.pairwise_singleton _ _
      | cons y l ih =>
        intro hp hs hf
        obtain ⟨hy, hp2⟩ := List.pairwise_cons.1 hp
        have hys := hs y (List.mem_cons_self ..)
        unfold insS
        split
        · rename_i hlt
          refine List.pairwise_cons.2 ⟨fun z hz => ?_, hp⟩
          have h1 : x.at_ + x.size ≤ y.at_ := by
            rcases hf y (List.mem_cons_self ..) with h1 | h1
            · exact h1
            · omega
          rcases List.mem_cons.1 hz with rfl | hz
          · exact h1
          · have := hy z hz; omega
        · rename_i hlt
          refine List.pairwise_cons.2 ⟨fun z hz => ?_, ih hp2 (fun s h => hs s (List.mem_cons_of_mem _ h)) fun s h => hf s (List.mem_cons_of_mem _ h)⟩
          rcases ins_mem_s hz with rfl | hz
          · rcases hf y (List.mem_cons_self ..) with h1 | h1
            · omega
            · exact h1
          · exact hy z hz
    exact key ss h.next (fun s hs => (h.fit s hs).2.2.1) hf
theorem good_del {ss : List Seg} (h : Good ss) (a : Int) : Good (delS ss a) :=
  ⟨fun s hs => h.fit s (List.mem_filter.1 hs).1, h.next.sublist List.filter_sublist⟩
theorem good_map {ss : List Seg} (h : Good ss) (g : Seg → Seg) (hg : ∀ s ∈ ss, (g s).at_ = s.at_ ∧ (g s).size = s.size ∧ 0 ≤ (g s).perm ∧ (g s).perm ≤ 7) : Good (ss.map g) := by
  refine ⟨fun s hs => ?_, ?_⟩
  · obtain ⟨s0, h0, rfl⟩ := List.mem_map.1 hs
    obtain ⟨e1, e2, e3, e4⟩ := hg s0 h0
    obtain ⟨f1, f2, f3, f4, f5, f6, _⟩ := h.fit s0 h0
    rw [e1, e2]
    exact ⟨f1, f2, f3, f4, f5, f6, e3, e4⟩
  · rw [List.pairwise_map]
    refine h.next.imp_of_mem fun {a b} ha hb hab => ?_
    obtain ⟨e1, e2, _⟩ := hg a ha
    obtain ⟨e3, _⟩ := hg b hb
    rw [e1, e2, e3]
    exact hab
theorem good_perm {ss : List Seg} (h : Good ss) (a p : Int) (hp : permB p = true) : Good (permS ss a p) := good_map h _ fun s hs => by
  have hp2 : 0 ≤ p ∧ p ≤ 7 := by unfold permB at hp; simpa using hp
  have := (h.fit s hs).2.2.2.2.2.2
  split
  · exact ⟨rfl, rfl, hp2⟩
  · exact ⟨rfl, rfl, this⟩
theorem good_put {ss : List Seg} (h : Good ss) (a : Int) (ms : Str) : Good (putS ss a ms) := good_map h _ fun s hs => by
  have := (h.fit s hs).2.2.2.2.2.2
  split
  · exact ⟨rfl, rfl, this⟩
  · exact ⟨rfl, rfl, this⟩

/-! What each act answers, and what is behind it. -/
abbrev newS (a s p : Int) : Seg := ⟨a, s, p, fun _ => 0⟩
def mapS (ss : List Seg) (s p : Int) : Int × Int × List Seg :=
  if (sizeB s && permB p) = true then (match gapS s 4096 ss with
    | none => (0, 3, ss)
    | some a => (a, 0, insS (newS a (up s) p) ss)) else (0, 1, ss)
def mapAtS (ss : List Seg) (a s p : Int) : Int × List Seg :=
  if (sizeB s && (permB p && startB a s)) = true then (if freeS ss a s then (0, insS (newS a (up s) p) ss) else (51, ss)) else (1, ss)
def unmapS (ss : List Seg) (a : Int) : Int × List Seg := if hasS ss a = true then (0, delS ss a) else (50, ss)
def protS (ss : List Seg) (a p : Int) : Int × List Seg := if permB p = true then (if hasS ss a = true then (0, permS ss a p) else (50, ss)) else (1, ss)
def storeS (ss : List Seg) (a : Int) (ms : Str) (need : Int) : Int × List Seg := if goesS ss a ms.length need = 0 then (0, putS ss a ms) else (goesS ss a ms.length need, ss)
theorem up_fit {a s : Int} (h0 : a % 64 = 0) (h1 : 4096 ≤ a) (hs : 1 ≤ s ∧ s ≤ 1048576) (h2 : a + s ≤ 4294967296) : 4096 ≤ a ∧ a % 64 = 0 ∧ 64 ≤ up s ∧ up s ≤ 1048576 ∧ up s % 64 = 0 ∧ a + up s ≤ 4294967296 := by
  unfold up
  omega
theorem gapS_free {ss : List Seg} : ∀ {s a r : Int}, Good ss → (∀ x ∈ ss, a ≤ x.at_) → gapS s a ss = some r → a ≤ r ∧ r + s ≤ 4294967296 ∧ freeS ss r s ∧ (a % 64 = 0 → r % 64 = 0) := by
  induction ss with
  | nil =>
    intro s a r _ _ h
    unfold gapS at h
    split at h
    · cases h
      exact ⟨Int.le_refl _, by assumption, (fun x hx => by cases hx), fun h => h⟩
    · cases h
  | cons x ss ih =>
    intro s a r ho hx h
    obtain ⟨hnx, hp2⟩ := List.pairwise_cons.1 ho.next
    have hox : Good ss := ⟨fun r hr => ho.fit r (List.mem_cons_of_mem _ hr), hp2⟩
    have hfx := ho.fit x (List.mem_cons_self ..)
    have hax := hx x (List.mem_cons_self ..)
    unfold gapS at h
    split at h
    · cases h
      rename_i hle
      refine ⟨Int.le_refl _, by omega, fun y hy => ?_, fun h => h⟩
      rcases List.mem_cons.1 hy with rfl | hy
      · exact .inl hle
      · have := hnx y hy
        exact .inl (by omega)
    · obtain ⟨h1, h2, h3, h4⟩ := ih hox hnx h
      refine ⟨by omega, h2, fun y hy => ?_, fun h0 => h4 (by omega)⟩
      rcases List.mem_cons.1 hy with rfl | hy
      · exact .inr h1
      · exact h3 y hy
theorem freeS_up {ss : List Seg} (hg : Good ss) {a s : Int} (h0 : a % 64 = 0) (h : freeS ss a s) : freeS ss a (up s) := fun x hx => by
  obtain ⟨_, h1, _⟩ := hg.fit x hx
  rcases h x hx with h3 | h3
  · left
    unfold up
    omega
  · exact .inr h3
theorem size_of {s : Int} (h : sizeB s = true) : 1 ≤ s ∧ s ≤ 1048576 := by unfold sizeB at h; simpa using h
theorem perm_of {s : Int} (h : permB s = true) : 0 ≤ s ∧ s ≤ 7 := by unfold permB at h; simpa using h
theorem start_of {a s : Int} (h : startB a s = true) : a % 64 = 0 ∧ 4096 ≤ a ∧ a ≤ 4294967296 - s := by unfold startB at h; simpa using h
theorem good_map_ {ss : List Seg} (h : Good ss) (s p : Int) : Good (mapS ss s p).2.2 := by
  unfold mapS
  split
  · rename_i hb
    obtain ⟨h1, h2⟩ := (Bool.and_eq_true _ _).mp hb
    cases hgp : gapS s 4096 ss with
    | none => exact h
    | some a =>
      obtain ⟨g1, g2, g3, g4⟩ := gapS_free h (fun x hx => (h.fit x hx).1) hgp
      have g5 := g4 (by omega)
      have h3 := up_fit g5 g1 (size_of h1) (by omega)
      have h4 := perm_of h2
      exact good_ins h (x := newS a (up s) p) ⟨h3.1, h3.2.1, h3.2.2.1, h3.2.2.2.1, h3.2.2.2.2.1, h3.2.2.2.2.2, h4.1, h4.2⟩ (freeS_up h g5 g3)
  · exact h
theorem good_mapAt {ss : List Seg} (h : Good ss) (a s p : Int) : Good (mapAtS ss a s p).2 := by
  unfold mapAtS
  split
  · rename_i hb
    obtain ⟨h1, h2⟩ := (Bool.and_eq_true _ _).mp hb
    obtain ⟨h2, h3⟩ := (Bool.and_eq_true _ _).mp h2
    split
    · rename_i hf
      have h5 := start_of h3
      have h3 := up_fit h5.1 h5.2.1 (size_of h1) (by omega)
      have h4 := perm_of h2
      exact good_ins h (x := newS a (up s) p) ⟨h3.1, h3.2.1, h3.2.2.1, h3.2.2.2.1, h3.2.2.2.2.1, h3.2.2.2.2.2, h4.1, h4.2⟩ (freeS_up h h5.1 hf)
    · exact h
  · exact h
theorem good_unmap {ss : List Seg} (h : Good ss) (a : Int) : Good (unmapS ss a).2 := by
  unfold unmapS
  split
  · exact good_del h a
  · exact h
theorem good_prot {ss : List Seg} (h : Good ss) (a p : Int) : Good (protS ss a p).2 := by
  unfold protS
  split
  · rename_i hb
    split
    · exact good_perm h a p hb
    · exact h
  · exact h
theorem good_store {ss : List Seg} (h : Good ss) (a : Int) (ms : Str) (need : Int) : Good (storeS ss a ms need).2 := by
  unfold storeS
  split
  · exact good_put h a ms
  · exact h

/-! A space in memory. -/
/-- A space whose box is the block g, which lies in just the blocks F, and is these regions. -/
def Lies (w : World) (B g : Nat) (F : Nat → Prop) (ss : List Seg) : Prop := ∃ A c rs, Sp w B g A c rs ∧ segs rs = ss ∧ Good ss ∧ ∀ k, F k ↔ Foot g A rs k
/-- Behind an act: the space is these regions now; nothing beside it has changed; it lies in what it lay in, and in what is new. -/
def Went (w w' : World) (B g : Nat) (F : Nat → Prop) (ss : List Seg) : Prop := ∃ F', Lies w' B g F' ss ∧ Beside w w' F ∧ ∀ k, F' k → F k ∨ w.heap.size ≤ k
theorem Lies.good {w : World} {B g : Nat} {F : Nat → Prop} {ss : List Seg} (h : Lies w B g F ss) : Good ss := by
  obtain ⟨_, _, _, _, _, h, _⟩ := h
  exact h
theorem Lies.lt {w : World} {B g : Nat} {F : Nat → Prop} {ss : List Seg} (h : Lies w B g F ss) {k : Nat} (hk : F k) : B ≤ k ∧ k < w.heap.size := by
  obtain ⟨A, c, rs, h1, _, _, h4⟩ := h
  exact h1.lt ((h4 k).1 hk)
theorem Lies.own {w : World} {B g : Nat} {F : Nat → Prop} {ss : List Seg} (h : Lies w B g F ss) : F g := by
  obtain ⟨A, c, rs, h1, _, _, h4⟩ := h
  exact (h4 g).2 (.inl rfl)
theorem Lies.beside {w w' : World} {B g : Nat} {F p : Nat → Prop} {ss : List Seg} (h : Lies w B g F ss) (hb : Beside w w' p) (hn : ∀ k, F k → ¬ p k) : Lies w' B g F ss := by
  obtain ⟨A, c, rs, h1, h2, h3, h4⟩ := h
  exact ⟨A, c, rs, h1.beside hb fun k hk => hn k ((h4 k).2 hk), h2, h3, h4⟩
theorem Lies.below {w w' : World} {B g : Nat} {F : Nat → Prop} {ss : List Seg} (h : Lies w B g F ss) (hb : Below w.heap.size w w') : Lies w' B g F ss := h.beside (Beside.of_below hb (fun _ => False)) fun _ _ e => e
theorem Went.stay {w w' : World} {B g : Nat} {F : Nat → Prop} {ss : List Seg} (h : Lies w B g F ss) (hb : Below w.heap.size w w') : Went w w' B g F ss := ⟨F, h.below hb, Beside.of_below hb _, fun _ hk => .inl hk⟩
theorem Went.lies {w w' : World} {B g : Nat} {F : Nat → Prop} {ss : List Seg} (h : Went w w' B g F ss) : ∃ F', Lies w' B g F' ss ∧ Beside w w' F ∧ ∀ k, F' k → F k ∨ w.heap.size ≤ k := h
theorem Went.then {w w1 w2 : World} {B g : Nat} {F F' : Nat → Prop} {ss : List Seg} (hb : Beside w w1 F) (hF : ∀ k, F' k → F k ∨ w.heap.size ≤ k) (h : Went w1 w2 B g F' ss) : Went w w2 B g F ss := by
  obtain ⟨F2, h1, h2, h3⟩ := h
  refine ⟨F2, h1, hb.then h2 fun k hk hf => ?_, fun k hk => ?_⟩
  · rcases hF k hf with h | h
    · exact h
    · omega
  · rcases h3 k hk with h | h
    · exact hF k h
    · exact .inr (Nat.le_trans hb.size h)
theorem lies_of {w w' : World} {B g : Nat} {A A' : Option Addr} {c' : Nat} {rs rs' : List Raw} {F : Nat → Prop} (h : ∀ k, F k ↔ Foot g A rs k) (hs : Sp w' B g A' c' rs') (hg : Good (segs rs')) (hb : Beside w w' (Foot g A rs)) (hF : ∀ k, Foot g A' rs' k → Foot g A rs k ∨ w.heap.size ≤ k) : Went w w' B g F (segs rs') :=
  ⟨Foot g A' rs', ⟨A', c', rs', hs, rfl, hg, fun _ => Iff.rfl⟩, hb.weak fun k _ hk => (h k).2 hk, fun k hk => (hF k hk).imp (h k).2 id⟩
theorem Inset.went {w w' : World} {B g : Nat} {A : Option Addr} {rs : List Raw} {a s p : Int} {e : Ending} {F : Nat → Prop} (h : Inset w B g A rs a s p e w') (hF : ∀ k, F k ↔ Foot g A rs k) (hg : Good (insS (newS a s p) (segs rs))) : Went w w' B g F (insS (newS a s p) (segs rs)) := by
  obtain ⟨_, i, A', c', h1, h2, h3, h4, h5, h6⟩ := h
  rw [← ins_segs a s p rs i h1 h2 h3] at hg ⊢
  refine lies_of hF h4 hg h5 fun k hk => ?_
  rcases hk with rfl | hk | ⟨r, hr, hk⟩
  · exact .inl (.inl rfl)
  · rcases h6 with e | ⟨q, hq, e⟩
    · exact .inl (.inr (.inl (hk.trans e)))
    · rw [e] at hk
      cases hk
      exact .inr hq
  · rcases ins_mem h1 hr with rfl | hr
    · cases hk
    · exact .inl (.inr (.inr ⟨r, hr, hk⟩))
end Go.Proofs.Ytpgmapcpffefnaa
