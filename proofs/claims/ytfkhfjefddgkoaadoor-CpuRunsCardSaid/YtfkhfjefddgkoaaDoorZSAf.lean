/-
  What each act does keeps the regions in order; a space that lies in memory as such regions; each act of the program, said so.
  Each act of the program, said of a space as plain regions.
-/
import Derived.Test.YtfkhfjefddgkoaaDoorZSAa
namespace Go.Proofs.YtfkhfjefddgkoaaDoor
open Go.RowKit

structure Good (ss : List Seg) : Prop where
  fit : ∀ s ∈ ss, 4096 ≤ s.at_ ∧ s.at_ % 64 = 0 ∧ 64 ≤ s.size ∧ s.size ≤ 1048576 ∧ s.size % 64 = 0 ∧ s.at_ + s.size ≤ 4294967296 ∧ 0 ≤ s.perm ∧ s.perm ≤ 7
  next : ss.Pairwise fun a b => a.at_ + a.size ≤ b.at_
theorem good_nil : Good [] := ⟨(by intro s hs; cases hs), List.Pairwise.nil⟩
theorem Good.al {rs : List Raw} (h : Good (segs rs)) : Al rs := fun r hr => by
  obtain ⟨_, h1, _, _, h2, _⟩ := h.fit (seg r.b) (List.mem_map_of_mem hr)
  exact ⟨h1, h2⟩
theorem ins_mem_s {x s : Seg} : ∀ {ss : List Seg}, s ∈ insS x ss → s = x ∨ s ∈ ss
  | [], h => .inl (List.mem_singleton.1 h)
  | y :: ss, h => by
    unfold insS at h
    split at h
    · rcases List.mem_cons.1 h with h | h
      · exact .inl h
      · exact .inr h
    · rcases List.mem_cons.1 h with h | h
      · exact .inr (by rw [h]; exact List.mem_cons_self ..)
      · rcases ins_mem_s h with h | h
        · exact .inl h
        · exact .inr (List.mem_cons_of_mem _ h)
theorem good_ins {ss : List Seg} (h : Good ss) {x : Seg} (hx : 4096 ≤ x.at_ ∧ x.at_ % 64 = 0 ∧ 64 ≤ x.size ∧ x.size ≤ 1048576 ∧ x.size % 64 = 0 ∧ x.at_ + x.size ≤ 4294967296 ∧ 0 ≤ x.perm ∧ x.perm ≤ 7) (hf : freeS ss x.at_ x.size) : Good (insS x ss) := by
  refine ⟨fun s hs => ?_, ?_⟩
  · rcases ins_mem_s hs with rfl | hs
    · exact hx
    · exact h.fit s hs
  · have key : ∀ (l : List Seg), l.Pairwise (fun a b => a.at_ + a.size ≤ b.at_) → (∀ s ∈ l, 64 ≤ s.size) → freeS l x.at_ x.size → (insS x l).Pairwise fun a b => a.at_ + a.size ≤ b.at_ := by
      intro l
      induction l with
      | nil => intro _ _ _; exact List.pairwise_singleton _ _
      | cons y l ih =>
        intro hp hs hf
        obtain ⟨hy, hp2⟩ := List.pairwise_cons.1 hp
        have hys := hs y (List.mem_cons_self ..)
        unfold insS
        split
        · rename_i hlt
          refine List.pairwise_cons.2 ⟨fun z hz => ?_, hp⟩
          have h1 : x.at_ + x.size ≤ y.at_ := by
            rcases hf y (List.mem_cons_self ..) with h1 | h1
            · exact h1
            · omega
          rcases List.mem_cons.1 hz with rfl | hz
          · exact h1
          · have := hy z hz; omega
        · rename_i hlt
          refine List.pairwise_cons.2 ⟨fun z hz => ?_, ih hp2 (fun s h => hs s (List.mem_cons_of_mem _ h)) fun s h => hf s (List.mem_cons_of_mem _ h)⟩
          rcases ins_mem_s hz with rfl | hz
          · rcases hf y (List.mem_cons_self ..) with h1 | h1
            · omega
            · exact h1
          · exact hy z hz
    exact key ss h.next (fun s hs => (h.fit s hs).2.2.1) hf
theorem good_del {ss : List Seg} (h : Good ss) (a : Int) : Good (delS ss a) :=
  ⟨fun s hs => h.fit s (List.mem_filter.1 hs).1, h.next.sublist List.filter_sublist⟩
theorem good_map {ss : List Seg} (h : Good ss) (g : Seg → Seg) (hg : ∀ s ∈ ss, (g s).at_ = s.at_ ∧ (g s).size = s.size ∧ 0 ≤ (g s).perm ∧ (g s).perm ≤ 7) : Good (ss.map g) := by
  refine ⟨fun s hs => ?_, ?_⟩
  · obtain ⟨s0, h0, rfl⟩ := List.mem_map.1 hs
    obtain ⟨e1, e2, e3, e4⟩ := hg s0 h0
    obtain ⟨f1, f2, f3, f4, f5, f6, _⟩ := h.fit s0 h0
    rw [e1, e2]
    exact ⟨f1, f2, f3, f4, f5, f6, e3, e4⟩
  · rw [List.pairwise_map]
    refine h.next.imp_of_mem fun {a b} ha hb hab => ?_
    obtain ⟨e1, e2, _⟩ := hg a ha
    obtain ⟨e3, _⟩ := hg b hb
    rw [e1, e2, e3]
    exact hab
theorem good_perm {ss : List Seg} (h : Good ss) (a p : Int) (hp : permB p = true) : Good (permS ss a p) := good_map h _ fun s hs => by
  have hp2 : 0 ≤ p ∧ p ≤ 7 := by unfold permB at hp; simpa using hp
  have := (h.fit s hs).2.2.2.2.2.2
  split
  · exact ⟨rfl, rfl, hp2⟩
  · exact ⟨rfl, rfl, this⟩
theorem good_put {ss : List Seg} (h : Good ss) (a : Int) (ms : Str) : Good (putS ss a ms) := good_map h _ fun s hs => by
  have := (h.fit s hs).2.2.2.2.2.2
  split
  · exact ⟨rfl, rfl, this⟩
  · exact ⟨rfl, rfl, this⟩

/-! What each act answers, and what is behind it. -/
abbrev newS (a s p : Int) : Seg := ⟨a, s, p, fun _ => 0⟩
def mapS (ss : List Seg) (s p : Int) : Int × Int × List Seg :=
  if (sizeB s && permB p) = true then (match gapS s 4096 ss with
    | none => (0, 3, ss)
    | some a => (a, 0, insS (newS a (up s) p) ss)) else (0, 1, ss)
def mapAtS (ss : List Seg) (a s p : Int) : Int × List Seg :=
  if (sizeB s && (permB p && startB a s)) = true then (if freeS ss a s then (0, insS (newS a (up s) p) ss) else (51, ss)) else (1, ss)
def unmapS (ss : List Seg) (a : Int) : Int × List Seg := if hasS ss a = true then (0, delS ss a) else (50, ss)
def protS (ss : List Seg) (a p : Int) : Int × List Seg := if permB p = true then (if hasS ss a = true then (0, permS ss a p) else (50, ss)) else (1, ss)
def storeS (ss : List Seg) (a : Int) (ms : Str) (need : Int) : Int × List Seg := if goesS ss a ms.length need = 0 then (0, putS ss a ms) else (goesS ss a ms.length need, ss)
theorem up_fit {a s : Int} (h0 : a % 64 = 0) (h1 : 4096 ≤ a) (hs : 1 ≤ s ∧ s ≤ 1048576) (h2 : a + s ≤ 4294967296) : 4096 ≤ a ∧ a % 64 = 0 ∧ 64 ≤ up s ∧ up s ≤ 1048576 ∧ up s % 64 = 0 ∧ a + up s ≤ 4294967296 := by
  unfold up
  omega
theorem gapS_free {ss : List Seg} : ∀ {s a r : Int}, Good ss → (∀ x ∈ ss, a ≤ x.at_) → gapS s a ss = some r → a ≤ r ∧ r + s ≤ 4294967296 ∧ freeS ss r s ∧ (a % 64 = 0 → r % 64 = 0) := by
  induction ss with
  | nil =>
    intro s a r _ _ h
    unfold gapS at h
    split at h
    · cases h
      exact ⟨Int.le_refl _, by assumption, (fun x hx => by cases hx), fun h => h⟩
    · cases h
  | cons x ss ih =>
    intro s a r ho hx h
    obtain ⟨hnx, hp2⟩ := List.pairwise_cons.1 ho.next
    have hox : Good ss := ⟨fun r hr => ho.fit r (List.mem_cons_of_mem _ hr), hp2⟩
    have hfx := ho.fit x (List.mem_cons_self ..)
    have hax := hx x (List.mem_cons_self ..)
    unfold gapS at h
    split at h
    · cases h
      rename_i hle
      refine ⟨Int.le_refl _, by omega, fun y hy => ?_, fun h => h⟩
      rcases List.mem_cons.1 hy with rfl | hy
      · exact .inl hle
      · have := hnx y hy
        exact .inl (by omega)
    · obtain ⟨h1, h2, h3, h4⟩ := ih hox hnx h
      refine ⟨by omega, h2, fun y hy => ?_, fun h0 => h4 (by omega)⟩
      rcases List.mem_cons.1 hy with rfl | hy
      · exact .inr h1
      · exact h3 y hy
theorem freeS_up {ss : List Seg} (hg : Good ss) {a s : Int} (h0 : a % 64 = 0) (h : freeS ss a s) : freeS ss a (up s) := fun x hx => by
  obtain ⟨_, h1, _⟩ := hg.fit x hx
  rcases h x hx with h3 | h3
  · left
    unfold up
    omega
  · exact .inr h3
theorem size_of {s : Int} (h : sizeB s = true) : 1 ≤ s ∧ s ≤ 1048576 := by unfold sizeB at h; simpa using h
theorem perm_of {s : Int} (h : permB s = true) : 0 ≤ s ∧ s ≤ 7 := by unfold permB at h; simpa using h
theorem start_of {a s : Int} (h : startB a s = true) : a % 64 = 0 ∧ 4096 ≤ a ∧ a ≤ 4294967296 - s := by unfold startB at h; simpa using h
theorem good_map_ {ss : List Seg} (h : Good ss) (s p : Int) : Good (mapS ss s p).2.2 := by
  unfold mapS
  split
  · rename_i hb
    obtain ⟨h1, h2⟩ := (Bool.and_eq_true _ _).mp hb
    cases hgp : gapS s 4096 ss with
    | none => exact h
    | some a =>
      obtain ⟨g1, g2, g3, g4⟩ := gapS_free h (fun x hx => (h.fit x hx).1) hgp
      have g5 := g4 (by omega)
      have h3 := up_fit g5 g1 (size_of h1) (by omega)
      have h4 := perm_of h2
      exact good_ins h (x := newS a (up s) p) ⟨h3.1, h3.2.1, h3.2.2.1, h3.2.2.2.1, h3.2.2.2.2.1, h3.2.2.2.2.2, h4.1, h4.2⟩ (freeS_up h g5 g3)
  · exact h
theorem good_mapAt {ss : List Seg} (h : Good ss) (a s p : Int) : Good (mapAtS ss a s p).2 := by
  unfold mapAtS
  split
  · rename_i hb
    obtain ⟨h1, h2⟩ := (Bool.and_eq_true _ _).mp hb
    obtain ⟨h2, h3⟩ := (Bool.and_eq_true _ _).mp h2
    split
    · rename_i hf
      have h5 := start_of h3
      have h3 := up_fit h5.1 h5.2.1 (size_of h1) (by omega)
      have h4 := perm_of h2
      exact good_ins h (x := newS a (up s) p) ⟨h3.1, h3.2.1, h3.2.2.1, h3.2.2.2.1, h3.2.2.2.2.1, h3.2.2.2.2.2, h4.1, h4.2⟩ (freeS_up h h5.1 hf)
    · exact h
  · exact h
theorem good_unmap {ss : List Seg} (h : Good ss) (a : Int) : Good (unmapS ss a).2 := by
  unfold unmapS
  split
  · exact good_del h a
  · exact h
theorem good_prot {ss : List Seg} (h : Good ss) (a p : Int) : Good (protS ss a p).2 := by
  unfold protS
  split
  · rename_i hb
    split
    · exact good_perm h a p hb
    · exact h
  · exact h
theorem good_store {ss : List Seg} (h : Good ss) (a : Int) (ms : Str) (need : Int) : Good (storeS ss a ms need).2 := by
  unfold storeS
  split
  · exact good_put h a ms
  · exact h

/-! A space in memory. -/
/-- A space whose box is the block g, which lies in just the blocks F, and is these regions. -/
def Lies (w : World) (B g : Nat) (F : Nat → Prop) (ss : List Seg) : Prop := ∃ A c rs, Sp w B g A c rs ∧ segs rs = ss ∧ Good ss ∧ ∀ k, F k ↔ Foot g A rs k
/-- Behind an act: the space is these regions now; nothing beside it has changed; it lies in what it lay in, and in what is new. -/
def Went (w w' : World) (B g : Nat) (F : Nat → Prop) (ss : List Seg) : Prop := ∃ F', Lies w' B g F' ss ∧ Beside w w' F ∧ ∀ k, F' k → F k ∨ w.heap.size ≤ k
theorem Lies.good {w : World} {B g : Nat} {F : Nat → Prop} {ss : List Seg} (h : Lies w B g F ss) : Good ss := by
  obtain ⟨_, _, _, _, _, h, _⟩ := h
  exact h
theorem Lies.lt {w : World} {B g : Nat} {F : Nat → Prop} {ss : List Seg} (h : Lies w B g F ss) {k : Nat} (hk : F k) : B ≤ k ∧ k < w.heap.size := by
  obtain ⟨A, c, rs, h1, _, _, h4⟩ := h
  exact h1.lt ((h4 k).1 hk)
theorem Lies.own {w : World} {B g : Nat} {F : Nat → Prop} {ss : List Seg} (h : Lies w B g F ss) : F g := by
  obtain ⟨A, c, rs, h1, _, _, h4⟩ := h
  exact (h4 g).2 (.inl rfl)
theorem Lies.beside {w w' : World} {B g : Nat} {F p : Nat → Prop} {ss : List Seg} (h : Lies w B g F ss) (hb : Beside w w' p) (hn : ∀ k, F k → ¬ p k) : Lies w' B g F ss := by
  obtain ⟨A, c, rs, h1, h2, h3, h4⟩ := h
  exact ⟨A, c, rs, h1.beside hb fun k hk => hn k ((h4 k).2 hk), h2, h3, h4⟩
theorem Lies.below {w w' : World} {B g : Nat} {F : Nat → Prop} {ss : List Seg} (h : Lies w B g F ss) (hb : Below w.heap.size w w') : Lies w' B g F ss := h.beside (Beside.of_below hb (fun _ => False)) fun _ _ e => e
theorem Went.stay {w w' : World} {B g : Nat} {F : Nat → Prop} {ss : List Seg} (h : Lies w B g F ss) (hb : Below w.heap.size w w') : Went w w' B g F ss := ⟨F, h.below hb, Beside.of_below hb _, fun _ hk => .inl hk⟩
theorem Went.lies {w w' : World} {B g : Nat} {F : Nat → Prop} {ss : List Seg} (h : Went w w' B g F ss) : ∃ F', Lies w' B g F' ss ∧ Beside w w' F ∧ ∀ k, F' k → F k ∨ w.heap.size ≤ k := h
theorem Went.then {w w1 w2 : World} {B g : Nat} {F F' : Nat → Prop} {ss : List Seg} (hb : Beside w w1 F) (hF : ∀ k, F' k → F k ∨ w.heap.size ≤ k) (h : Went w1 w2 B g F' ss) : Went w w2 B g F ss := by
  obtain ⟨F2, h1, h2, h3⟩ := h
  refine ⟨F2, h1, hb.then h2 fun k hk hf => ?_, fun k hk => ?_⟩
  · rcases hF k hf with h | h
    · exact h
    · omega
  · rcases h3 k hk with h | h
    · exact hF k h
    · exact .inr (Nat.le_trans hb.size h)
theorem lies_of {w w' : World} {B g : Nat} {A A' : Option Addr} {c' : Nat} {rs rs' : List Raw} {F : Nat → Prop} (h : ∀ k, F k ↔ Foot g A rs k) (hs : Sp w' B g A' c' rs') (hg : Good (segs rs')) (hb : Beside w w' (Foot g A rs)) (hF : ∀ k, Foot g A' rs' k → Foot g A rs k ∨ w.heap.size ≤ k) : Went w w' B g F (segs rs') :=
  ⟨Foot g A' rs', ⟨A', c', rs', hs, rfl, hg, fun _ => Iff.rfl⟩, hb.weak fun k _ hk => (h k).2 hk, fun k hk => (hF k hk).imp (h k).2 id⟩
theorem Inset.went {w w' : World} {B g : Nat} {A : Option Addr} {rs : List Raw} {a s p : Int} {e : Ending} {F : Nat → Prop} (h : Inset w B g A rs a s p e w') (hF : ∀ k, F k ↔ Foot g A rs k) (hg : Good (insS (newS a s p) (segs rs))) : Went w w' B g F (insS (newS a s p) (segs rs)) := by
  obtain ⟨_, i, A', c', h1, h2, h3, h4, h5, h6⟩ := h
  rw [← ins_segs a s p rs i h1 h2 h3] at hg ⊢
  refine lies_of hF h4 hg h5 fun k hk => ?_
  rcases hk with rfl | hk | ⟨r, hr, hk⟩
  · exact .inl (.inl rfl)
  · rcases h6 with e | ⟨q, hq, e⟩
    · exact .inl (.inr (.inl (hk.trans e)))
    · rw [e] at hk
      cases hk
      exact .inr hq
  · rcases ins_mem h1 hr with rfl | hr
    · cases hk
    · exact .inl (.inr (.inr ⟨r, hr, hk⟩))
end Go.Proofs.YtfkhfjefddgkoaaDoor

namespace Go.Proofs.YtfkhfjefddgkoaaDoor
open Go.RowKit

theorem Map_s {w : World} {B g : Nat} {F : Nat → Prop} {ss : List Seg} (s p : Int) (h : Lies w B g F ss) :
    Calls Tryd.prog 55 #[.pointer (some ⟨g, 0, none⟩), .int .i64 s, .int .i64 p] w fun e w' => e = .returned (.tuple #[.int .i64 (mapS ss s p).1, .int .i64 (mapS ss s p).2.1]) ∧ Went w w' B g F (mapS ss s p).2.2 := by
  have h0 := h
  obtain ⟨A, c, rs, h1, rfl, h3, h4⟩ := h
  have hg := good_map_ h3 s p
  refine (Map_any B g A c rs s p h3.al w h1).mono fun e w' hm => ?_
  unfold mapS at hg ⊢
  rcases hm with ⟨a1, rfl, a3⟩ | ⟨a1, a2, rfl, a3⟩ | ⟨a1, a, a2, rfl, a3⟩
  · rw [if_neg (by rw [a1]; decide)]
    exact ⟨rfl, Went.stay h0 a3⟩
  · have a2' : gapS s 4096 (segs rs) = none := (gap_segs s rs 4096).symm.trans a2
    rw [if_pos a1, a2']
    exact ⟨rfl, Went.stay h0 a3⟩
  · have a2' : gapS s 4096 (segs rs) = some a := (gap_segs s rs 4096).symm.trans a2
    rw [if_pos a1, a2'] at hg
    rw [if_pos a1, a2']
    exact ⟨rfl, a3.went h4 hg⟩
theorem MapAt_s {w : World} {B g : Nat} {F : Nat → Prop} {ss : List Seg} (a s p : Int) (h : Lies w B g F ss) :
    Calls Tryd.prog 17 #[.pointer (some ⟨g, 0, none⟩), .int .i64 a, .int .i64 s, .int .i64 p] w fun e w' => e = .returned (.int .i64 (mapAtS ss a s p).1) ∧ Went w w' B g F (mapAtS ss a s p).2 := by
  have h0 := h
  obtain ⟨A, c, rs, h1, rfl, h3, h4⟩ := h
  have hg := good_mapAt h3 a s p
  refine (MapAt_any B g A c rs a s p h3.al w h1).mono fun e w' hm => ?_
  unfold mapAtS at hg ⊢
  rcases hm with ⟨a1, rfl, a3⟩ | ⟨a1, a2, rfl, a3⟩ | ⟨a1, a2, rfl, a3⟩
  · rw [if_neg (by rw [a1]; decide)]
    exact ⟨rfl, Went.stay h0 a3⟩
  · rw [if_pos a1, if_neg fun h => a2 ((free_segs rs a s).2 h)]
    exact ⟨rfl, Went.stay h0 a3⟩
  · rw [if_pos a1, if_pos ((free_segs rs a s).1 a2)] at hg
    rw [if_pos a1, if_pos ((free_segs rs a s).1 a2)]
    exact ⟨rfl, a3.went h4 hg⟩
theorem Unmap_s {w : World} {B g : Nat} {F : Nat → Prop} {ss : List Seg} (a : Int) (h : Lies w B g F ss) :
    Calls Tryd.prog 56 #[.pointer (some ⟨g, 0, none⟩), .int .i64 a] w fun e w' => e = .returned (.int .i64 (unmapS ss a).1) ∧ Went w w' B g F (unmapS ss a).2 := by
  have h0 := h
  obtain ⟨A, c, rs, h1, rfl, h3, h4⟩ := h
  have hg := good_unmap h3 a
  refine (Unmap_any B g A c rs a w h1).mono fun e w' hm => ?_
  unfold unmapS at hg ⊢
  rcases hm with ⟨a1, rfl, a3⟩ | ⟨k, hk, a1, rfl, a2, a3⟩
  · rw [if_neg fun h => by obtain ⟨k, hk, e⟩ := (has_segs rs a).1 h; exact a1 k hk e]
    exact ⟨rfl, Went.stay h0 a3⟩
  · have hh := (has_segs rs a).2 ⟨k, hk, a1⟩
    rw [if_pos hh] at hg
    rw [if_pos hh]
    refine ⟨rfl, ?_⟩
    subst a1
    show Went w w' B g F (delS (segs rs) rs[k].b.at_)
    have hg2 : Good (delS (segs rs) rs[k].b.at_) := hg
    rw [← del_segs h1.ord hk] at hg2 ⊢
    exact lies_of h4 a2 hg2 a3 fun q hq => .inl (hq.imp id (Or.imp id fun ⟨r, hr, e⟩ => ⟨r, mem_erase hr, e⟩))
theorem Protect_s {w : World} {B g : Nat} {F : Nat → Prop} {ss : List Seg} (a p : Int) (h : Lies w B g F ss) :
    Calls Tryd.prog 57 #[.pointer (some ⟨g, 0, none⟩), .int .i64 a, .int .i64 p] w fun e w' => e = .returned (.int .i64 (protS ss a p).1) ∧ Went w w' B g F (protS ss a p).2 := by
  have h0 := h
  obtain ⟨A, c, rs, h1, rfl, h3, h4⟩ := h
  have hg := good_prot h3 a p
  refine (Protect_any B g A c rs a p w h1).mono fun e w' hm => ?_
  unfold protS at hg ⊢
  rcases hm with ⟨a0, rfl, a3⟩ | ⟨a0, a1, rfl, a3⟩ | ⟨a0, k, hk, a1, rfl, a2, a3⟩
  · rw [if_neg (by rw [a0]; decide)]
    exact ⟨rfl, Went.stay h0 a3⟩
  · rw [if_pos a0, if_neg fun h => by obtain ⟨k, hk, e⟩ := (has_segs rs a).1 h; exact a1 k hk e]
    exact ⟨rfl, Went.stay h0 a3⟩
  · have hh := (has_segs rs a).2 ⟨k, hk, a1⟩
    rw [if_pos a0, if_pos hh] at hg
    rw [if_pos a0, if_pos hh]
    refine ⟨rfl, ?_⟩
    show Went w w' B g F (permS (segs rs) a p)
    have hg2 : Good (permS (segs rs) a p) := hg
    rw [← perm_segs h1.ord hk a1] at hg2 ⊢
    refine lies_of h4 a2 hg2 a3 fun q hq => .inl (hq.imp id (Or.imp id fun ⟨r, hr, e⟩ => ?_))
    obtain ⟨j, hj, rfl⟩ := List.getElem_of_mem hr
    rw [List.length_set] at hj
    rw [List.getElem_set] at e
    split at e
    · exact ⟨_, List.getElem_mem hk, e⟩
    · exact ⟨_, List.getElem_mem hj, e⟩
theorem goes_len {ss : List Seg} {a n need : Int} (h : goesS ss a n need = 0) : 1 ≤ n ∧ n ≤ 1048576 := by
  unfold goesS at h
  split at h
  · cases h
  · omega
theorem Putted.went {w w' : World} {B g : Nat} {F : Nat → Prop} {A : Option Addr} {c : Nat} {rs : List Raw} {a need : Int} {ms : Str} {e : Ending} (hs : Sp w B g A c rs) (hgd : Good (segs rs)) (h4 : ∀ k, F k ↔ Foot g A rs k) (h : Putted w B g A c rs a ms need e w') :
    e = .returned (.int .i64 (storeS (segs rs) a ms need).1) ∧ Went w w' B g F (storeS (segs rs) a ms need).2 := by
  have hg := good_store hgd a ms need
  unfold storeS at hg ⊢
  rcases h with ⟨a1, rfl, a3⟩ | ⟨a1, rfl, k, hk, A', c', b1, b2, b3, b4, b5⟩
  · rw [goes_segs] at a1
    rw [if_neg a1, goes_segs]
    exact ⟨rfl, Went.stay ⟨A, c, rs, hs, rfl, hgd, h4⟩ a3⟩
  · rw [goes_segs] at a1
    rw [if_pos a1] at hg
    rw [if_pos a1]
    refine ⟨rfl, ?_⟩
    show Went w w' B g F (putS (segs rs) a ms)
    have hg2 : Good (putS (segs rs) a ms) := hg
    have hm : 1 ≤ ms.length := by have := (goes_len a1).1; omega
    rw [← put_segs hs.ord hk hm b1 b2 A' c'] at hg2 ⊢
    refine lies_of h4 b3 hg2 b4 fun q hq => ?_
    rcases hq with rfl | hq | ⟨r, hr, hq⟩
    · exact .inl (.inl rfl)
    · exact .inl (.inr (.inl hq))
    · obtain ⟨j, hj, rfl⟩ := List.getElem_of_mem hr
      rw [List.length_set] at hj
      rw [List.getElem_set] at hq
      split at hq
      · rcases b5 with e | ⟨q', hq', e⟩
        · exact .inl (.inr (.inr ⟨_, List.getElem_mem hk, hq.trans e⟩))
        · have e2 : some q = some q' := hq.trans e
          cases e2
          exact .inr hq'
      · exact .inl (.inr (.inr ⟨_, List.getElem_mem hj, hq⟩))
theorem Write_s {w : World} {B g : Nat} {F P : Nat → Prop} {ss : List Seg} {a : Int} {SA : Option Addr} {m sc : Nat} {ms : Str} (ha : I64 a) (h : Lies w B g F ss) (hs : Src w P SA m sc (cells ms)) (hP : ∀ q, P q → ¬ F q ∧ q < w.heap.size) :
    Calls Tryd.prog 58 #[.pointer (some ⟨g, 0, none⟩), .int .i64 a, .slice SA m sc] w fun e w' => e = .returned (.int .i64 (storeS ss a ms 2).1) ∧ Went w w' B g F (storeS ss a ms 2).2 := by
  obtain ⟨A, c, rs, h1, rfl, h3, h4⟩ := h
  exact (Write_any B g A c rs a P SA m sc ms ha w h1 hs fun q hq => ⟨fun e => (hP q hq).1 ((h4 q).2 e), (hP q hq).2⟩).mono fun e w' hm => hm.went h1 h3 h4
theorem Poke_s {w : World} {B g : Nat} {F P : Nat → Prop} {ss : List Seg} {a : Int} {SA : Option Addr} {m sc : Nat} {ms : Str} (ha : I64 a) (h : Lies w B g F ss) (hs : Src w P SA m sc (cells ms)) (hP : ∀ q, P q → ¬ F q ∧ q < w.heap.size) :
    Calls Tryd.prog 21 #[.pointer (some ⟨g, 0, none⟩), .int .i64 a, .slice SA m sc] w fun e w' => e = .returned (.int .i64 (storeS ss a ms 0).1) ∧ Went w w' B g F (storeS ss a ms 0).2 := by
  obtain ⟨A, c, rs, h1, rfl, h3, h4⟩ := h
  exact (Poke_any B g A c rs a P SA m sc ms ha w h1 hs fun q hq => ⟨fun e => (hP q hq).1 ((h4 q).2 e), (hP q hq).2⟩).mono fun e w' hm => hm.went h1 h3 h4
theorem SetWord_s {w : World} {B g : Nat} {F : Nat → Prop} {ss : List Seg} {a : Int} (n : Int) (ha : I64 a) (h : Lies w B g F ss) :
    Calls Tryd.prog 59 #[.pointer (some ⟨g, 0, none⟩), .int .i64 a, .int .i64 n] w fun e w' => e = .returned (.int .i64 (storeS ss a (digs n 8) 2).1) ∧ Went w w' B g F (storeS ss a (digs n 8) 2).2 := by
  obtain ⟨A, c, rs, h1, rfl, h3, h4⟩ := h
  exact (SetWord_any B g A c rs a n ha w h1).mono fun e w' hm => hm.went h1 h3 h4
theorem PokeWord_s {w : World} {B g : Nat} {F : Nat → Prop} {ss : List Seg} {a : Int} (n : Int) (ha : I64 a) (h : Lies w B g F ss) :
    Calls Tryd.prog 60 #[.pointer (some ⟨g, 0, none⟩), .int .i64 a, .int .i64 n] w fun e w' => e = .returned (.int .i64 (storeS ss a (digs n 8) 0).1) ∧ Went w w' B g F (storeS ss a (digs n 8) 0).2 := by
  obtain ⟨A, c, rs, h1, rfl, h3, h4⟩ := h
  exact (PokeWord_any B g A c rs a n ha w h1).mono fun e w' hm => hm.went h1 h3 h4

/-! What is asked. -/
/-- Behind a read: bytes in a row of their own, or none and an error. -/
def TookS (w : World) (ss : List Seg) (a n need : Int) (e : Ending) (w' : World) : Prop := Below w.heap.size w w' ∧ ∃ A l c, e = .returned (.tuple #[.slice A l c, .int .i64 (goesS ss a n need)]) ∧ l = (if goesS ss a n need = 0 then gotS ss a n else []).length ∧
  w'.ownsRow w.heap.size 5 1 (.slice A l c) l (cells (if goesS ss a n need = 0 then gotS ss a n else []))
theorem gotS_len {ss : List Seg} {a n need : Int} (h : goesS ss a n need = 0) : (gotS ss a n).length = n.toNat := by
  unfold goesS at h
  split at h
  · cases h
  · unfold gotS
    cases hh : holdS ss a n with
    | none => rw [hh] at h; cases h
    | some s => simp
theorem Taken.took {w w' : World} {rs : List Raw} {a n need : Int} {e : Ending} (h : Taken w (blks rs) a n need e w') : TookS w (segs rs) a n need e w' := by
  obtain ⟨hb, h⟩ := h
  rw [goes_segs, got_segs] at h
  refine ⟨hb, ?_⟩
  rcases h with ⟨h1, rfl⟩ | ⟨h1, gn, rfl, h2⟩
  · exact ⟨none, 0, 0, rfl, by rw [if_neg h1]; rfl, by rw [if_neg h1]; exact ⟨rfl, .inl ⟨rfl, rfl⟩⟩⟩
  · refine ⟨_, _, _, by rw [h1], by rw [if_pos h1, gotS_len h1], by rw [if_pos h1]; exact h2⟩
theorem Peek_s {w : World} {B g : Nat} {F : Nat → Prop} {ss : List Seg} {a : Int} (n : Int) (ha : I64 a) (h : Lies w B g F ss) :
    Calls Tryd.prog 37 #[.pointer (some ⟨g, 0, none⟩), .int .i64 a, .int .i64 n] w (TookS w ss a n 0) := by
  obtain ⟨A, c, rs, h1, rfl, h3, h4⟩ := h
  exact (Peek_any B g A c rs a n ha w h1).mono fun e w' hm => hm.took
theorem Fetch_s {w : World} {B g : Nat} {F : Nat → Prop} {ss : List Seg} {a : Int} (ha : I64 a) (h : Lies w B g F ss) :
    Calls Tryd.prog 84 #[.pointer (some ⟨g, 0, none⟩), .int .i64 a] w (TookS w ss a 8 4) := by
  obtain ⟨A, c, rs, h1, rfl, h3, h4⟩ := h
  exact (Fetch_any B g A c rs a ha w h1).mono fun e w' hm => hm.took
def wordS (ss : List Seg) (a need : Int) : Int := val (if goesS ss a 8 need = 0 then gotS ss a 8 else [])
theorem word_segs (rs : List Raw) (a need : Int) : wordAt (blks rs) a need = wordS (segs rs) a need := by
  unfold wordAt wordS
  rw [goes_segs, got_segs]
theorem Word_s {w : World} {B g : Nat} {F : Nat → Prop} {ss : List Seg} {a : Int} (ha : I64 a) (h : Lies w B g F ss) :
    Calls Tryd.prog 98 #[.pointer (some ⟨g, 0, none⟩), .int .i64 a] w fun e w' => e = .returned (.tuple #[.int .i64 (wordS ss a 1), .int .i64 (goesS ss a 8 1)]) ∧ Below w.heap.size w w' := by
  obtain ⟨A, c, rs, h1, rfl, h3, h4⟩ := h
  exact (Word_any B g A c rs a ha w h1).mono fun e w' hm => ⟨by rw [hm.2, word_segs, goes_segs], hm.1⟩
def gapA (ss : List Seg) (n : Int) : Int × Int := if sizeB n = true then (match gapS n 4096 ss with
  | none => (0, 3)
  | some a => (a, 0)) else (0, 1)
def rgS (s : Seg) : Rg := ⟨s.at_, s.size, s.perm⟩
theorem Regions_s {w : World} {B g : Nat} {F : Nat → Prop} {ss : List Seg} (h : Lies w B g F ss) :
    Calls Tryd.prog 34 #[.pointer (some ⟨g, 0, none⟩)] w (Rgns w (ss.map rgS)) := by
  obtain ⟨A, c, rs, h1, rfl, h3, h4⟩ := h
  have : (segs rs).map rgS = rgs rs := by unfold segs rgs; rw [List.map_map]; rfl
  rw [this]
  exact Regions_any B g A c rs w h1
/-- A copy lies in what is new. -/
def CopyS (w : World) (ss : List Seg) (e : Ending) (w' : World) : Prop := ∃ gc F', e = .returned (.pointer (some ⟨gc, 0, none⟩)) ∧ Lies w' w.heap.size gc F' ss ∧ Below w.heap.size w w'
theorem New_s (w : World) (B : Nat) (hB : B ≤ w.heap.size) :
    Calls Tryd.prog 23 #[] w fun e w' => e = .returned (.pointer (some ⟨w.heap.size, 0, none⟩)) ∧ Lies w' B w.heap.size (fun k => k = w.heap.size) [] ∧ Below w.heap.size w w' := by
  refine (new_any w).mono fun e w' ⟨h1, h2⟩ => ⟨h1, ?_, by rw [h2]; exact (Below.refl _ _).alloc (Nat.le_refl _) _⟩
  rw [h2]
  refine ⟨none, 0, [], sp_new w B hB, rfl, good_nil, fun k => ⟨fun e => .inl e, fun e => ?_⟩⟩
  rcases e with e | e | ⟨r, hr, _⟩
  · exact e
  · cases e
  · cases hr
end Go.Proofs.YtfkhfjefddgkoaaDoor
