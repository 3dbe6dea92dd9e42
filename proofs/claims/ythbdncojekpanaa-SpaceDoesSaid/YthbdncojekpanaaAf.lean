/-
  Each act of the program, said of a space as plain regions.
-/
import Derived.Test.YthbdncojekpanaaAe
namespace Go.Proofs.Ythbdncojekpanaa
open Go.RowKit

theorem Map_s {w : World} {B g : Nat} {F : Nat → Prop} {ss : List Seg} (s p : Int) (h : Lies w B g F ss) :
    Calls Try.prog 13 #[.pointer (some ⟨g, 0, none⟩), .int .i64 s, .int .i64 p] w fun e w' => e = .returned (.tuple #[.int .i64 (mapS ss s p).1, .int .i64 (mapS ss s p).2.1]) ∧ Went w w' B g F (mapS ss s p).2.2 := by
  have h0 := h
  obtain ⟨A, c, rs, h1, rfl, h3, h4⟩ := h
  have hg := good_map_ h3 s p
  refine (Map_any B g A c rs s p h3.al w h1).mono fun e w' hm => ?_
  unfold mapS at hg ⊢
  rcases hm with ⟨a1, rfl, a3⟩ | ⟨a1, a2, rfl, a3⟩ | ⟨a1, a, a2, rfl, a3⟩
  · rw [if_neg (by rw [a1]; decide)]
    exact ⟨rfl, Went.stay h0 a3⟩
  · have a2' : gapS s 4096 (segs rs) = none := (gap_segs s rs 4096).symm.trans a2
    rw [if_pos a1, a2']
    exact ⟨rfl, Went.stay h0 a3⟩
  · have a2' : gapS s 4096 (segs rs) = some a := (gap_segs s rs 4096).symm.trans a2
    rw [if_pos a1, a2'] at hg
    rw [if_pos a1, a2']
    exact ⟨rfl, a3.went h4 hg⟩
theorem MapAt_s {w : World} {B g : Nat} {F : Nat → Prop} {ss : List Seg} (a s p : Int) (h : Lies w B g F ss) :
    Calls Try.prog 24 #[.pointer (some ⟨g, 0, none⟩), .int .i64 a, .int .i64 s, .int .i64 p] w fun e w' => e = .returned (.int .i64 (mapAtS ss a s p).1) ∧ Went w w' B g F (mapAtS ss a s p).2 := by
  have h0 := h
  obtain ⟨A, c, rs, h1, rfl, h3, h4⟩ := h
  have hg := good_mapAt h3 a s p
  refine (MapAt_any B g A c rs a s p h3.al w h1).mono fun e w' hm => ?_
  unfold mapAtS at hg ⊢
  rcases hm with ⟨a1, rfl, a3⟩ | ⟨a1, a2, rfl, a3⟩ | ⟨a1, a2, rfl, a3⟩
  · rw [if_neg (by rw [a1]; decide)]
    exact ⟨rfl, Went.stay h0 a3⟩
  · rw [if_pos a1, if_neg fun h => a2 ((free_segs rs a s).2 h)]
    exact ⟨rfl, Went.stay h0 a3⟩
  · rw [if_pos a1, if_pos ((free_segs rs a s).1 a2)] at hg
    rw [if_pos a1, if_pos ((free_segs rs a s).1 a2)]
    exact ⟨rfl, a3.went h4 hg⟩
theorem Unmap_s {w : World} {B g : Nat} {F : Nat → Prop} {ss : List Seg} (a : Int) (h : Lies w B g F ss) :
    Calls Try.prog 15 #[.pointer (some ⟨g, 0, none⟩), .int .i64 a] w fun e w' => e = .returned (.int .i64 (unmapS ss a).1) ∧ Went w w' B g F (unmapS ss a).2 := by
  have h0 := h
  obtain ⟨A, c, rs, h1, rfl, h3, h4⟩ := h
  have hg := good_unmap h3 a
  refine (Unmap_any B g A c rs a w h1).mono fun e w' hm => ?_
  unfold unmapS at hg ⊢
  rcases hm with ⟨a1, rfl, a3⟩ | ⟨k, hk, a1, rfl, a2, a3⟩
  · rw [if_neg fun h => by obtain ⟨k, hk, e⟩ := (has_segs rs a).1 h; exact a1 k hk e]
    exact ⟨rfl, Went.stay h0 a3⟩
  · have hh := (has_segs rs a).2 ⟨k, hk, a1⟩
    rw [if_pos hh] at hg
    rw [if_pos hh]
    refine ⟨rfl, ?_⟩
    subst a1
    show Went w w' B g F (delS (segs rs) rs[k].b.at_)
    have hg2 : Good (delS (segs rs) rs[k].b.at_) := hg
    rw [← del_segs h1.ord hk] at hg2 ⊢
    exact lies_of h4 a2 hg2 a3 fun q hq => .inl (hq.imp id (Or.imp id fun ⟨r, hr, e⟩ => ⟨r, mem_erase hr, e⟩))
theorem Protect_s {w : World} {B g : Nat} {F : Nat → Prop} {ss : List Seg} (a p : Int) (h : Lies w B g F ss) :
    Calls Try.prog 40 #[.pointer (some ⟨g, 0, none⟩), .int .i64 a, .int .i64 p] w fun e w' => e = .returned (.int .i64 (protS ss a p).1) ∧ Went w w' B g F (protS ss a p).2 := by
  have h0 := h
  obtain ⟨A, c, rs, h1, rfl, h3, h4⟩ := h
  have hg := good_prot h3 a p
  refine (Protect_any B g A c rs a p w h1).mono fun e w' hm => ?_
  unfold protS at hg ⊢
  rcases hm with ⟨a0, rfl, a3⟩ | ⟨a0, a1, rfl, a3⟩ | ⟨a0, k, hk, a1, rfl, a2, a3⟩
  · rw [if_neg (by rw [a0]; decide)]
    exact ⟨rfl, Went.stay h0 a3⟩
  · rw [if_pos a0, if_neg fun h => by obtain ⟨k, hk, e⟩ := (has_segs rs a).1 h; exact a1 k hk e]
    exact ⟨rfl, Went.stay h0 a3⟩
  · have hh := (has_segs rs a).2 ⟨k, hk, a1⟩
    rw [if_pos a0, if_pos hh] at hg
    rw [if_pos a0, if_pos hh]
    refine ⟨rfl, ?_⟩
    show Went w w' B g F (permS (segs rs) a p)
    have hg2 : Good (permS (segs rs) a p) := hg
    rw [← perm_segs h1.ord hk a1] at hg2 ⊢
    refine lies_of h4 a2 hg2 a3 fun q hq => .inl (hq.imp id (Or.imp id fun ⟨r, hr, e⟩ => ?_))
    obtain ⟨j, hj, rfl⟩ := List.getElem_of_mem hr
    rw [List.length_set] at hj
    rw [List.getElem_set] at e
    split at e
    · exact ⟨_, List.getElem_mem hk, e⟩
    · exact ⟨_, List.getElem_mem hj, e⟩
theorem goes_len {ss : List Seg} {a n need : Int} (h : goesS ss a n need = 0) : 1 ≤ n ∧ n ≤ 1048576 := by
  unfold goesS at h
  split at h
  · cases h
  · omega
theorem Putted.went {w w' : World} {B g : Nat} {F : Nat → Prop} {A : Option Addr} {c : Nat} {rs : List Raw} {a need : Int} {ms : Str} {e : Ending} (hs : Sp w B g A c rs) (hgd : Good (segs rs)) (h4 : ∀ k, F k ↔ Foot g A rs k) (h : Putted w B g A c rs a ms need e w') :
    e = .returned (.int .i64 (storeS (segs rs) a ms need).1) ∧ Went w w' B g F (storeS (segs rs) a ms need).2 := by
  have hg := good_store hgd a ms need
  unfold storeS at hg ⊢
  rcases h with ⟨a1, rfl, a3⟩ | ⟨a1, rfl, k, hk, A', c', b1, b2, b3, b4, b5⟩
  · rw [goes_segs] at a1
    rw [if_neg a1, goes_segs]
    exact ⟨rfl, Went.stay ⟨A, c, rs, hs, rfl, hgd, h4⟩ a3⟩
  · rw [goes_segs] at a1
    rw [if_pos a1] at hg
    rw [if_pos a1]
    refine ⟨rfl, ?_⟩
    show Went w w' B g F (putS (segs rs) a ms)
    have hg2 : Good (putS (segs rs) a ms) := hg
    have hm : 1 ≤ ms.length := by have := (goes_len a1).1; omega
    rw [← put_segs hs.ord hk hm b1 b2 A' c'] at hg2 ⊢
    refine lies_of h4 b3 hg2 b4 fun q hq => ?_
    rcases hq with rfl | hq | ⟨r, hr, hq⟩
    · exact .inl (.inl rfl)
    · exact .inl (.inr (.inl hq))
    · obtain ⟨j, hj, rfl⟩ := List.getElem_of_mem hr
      rw [List.length_set] at hj
      rw [List.getElem_set] at hq
      split at hq
      · rcases b5 with e | ⟨q', hq', e⟩
        · exact .inl (.inr (.inr ⟨_, List.getElem_mem hk, hq.trans e⟩))
        · have e2 : some q = some q' := hq.trans e
          cases e2
          exact .inr hq'
      · exact .inl (.inr (.inr ⟨_, List.getElem_mem hj, hq⟩))
theorem Write_s {w : World} {B g : Nat} {F P : Nat → Prop} {ss : List Seg} {a : Int} {SA : Option Addr} {m sc : Nat} {ms : Str} (ha : I64 a) (h : Lies w B g F ss) (hs : Src w P SA m sc (cells ms)) (hP : ∀ q, P q → ¬ F q ∧ q < w.heap.size) :
    Calls Try.prog 41 #[.pointer (some ⟨g, 0, none⟩), .int .i64 a, .slice SA m sc] w fun e w' => e = .returned (.int .i64 (storeS ss a ms 2).1) ∧ Went w w' B g F (storeS ss a ms 2).2 := by
  obtain ⟨A, c, rs, h1, rfl, h3, h4⟩ := h
  exact (Write_any B g A c rs a P SA m sc ms ha w h1 hs fun q hq => ⟨fun e => (hP q hq).1 ((h4 q).2 e), (hP q hq).2⟩).mono fun e w' hm => hm.went h1 h3 h4
theorem Poke_s {w : World} {B g : Nat} {F P : Nat → Prop} {ss : List Seg} {a : Int} {SA : Option Addr} {m sc : Nat} {ms : Str} (ha : I64 a) (h : Lies w B g F ss) (hs : Src w P SA m sc (cells ms)) (hP : ∀ q, P q → ¬ F q ∧ q < w.heap.size) :
    Calls Try.prog 14 #[.pointer (some ⟨g, 0, none⟩), .int .i64 a, .slice SA m sc] w fun e w' => e = .returned (.int .i64 (storeS ss a ms 0).1) ∧ Went w w' B g F (storeS ss a ms 0).2 := by
  obtain ⟨A, c, rs, h1, rfl, h3, h4⟩ := h
  exact (Poke_any B g A c rs a P SA m sc ms ha w h1 hs fun q hq => ⟨fun e => (hP q hq).1 ((h4 q).2 e), (hP q hq).2⟩).mono fun e w' hm => hm.went h1 h3 h4
theorem SetWord_s {w : World} {B g : Nat} {F : Nat → Prop} {ss : List Seg} {a : Int} (n : Int) (ha : I64 a) (h : Lies w B g F ss) :
    Calls Try.prog 27 #[.pointer (some ⟨g, 0, none⟩), .int .i64 a, .int .i64 n] w fun e w' => e = .returned (.int .i64 (storeS ss a (digs n 8) 2).1) ∧ Went w w' B g F (storeS ss a (digs n 8) 2).2 := by
  obtain ⟨A, c, rs, h1, rfl, h3, h4⟩ := h
  exact (SetWord_any B g A c rs a n ha w h1).mono fun e w' hm => hm.went h1 h3 h4
theorem PokeWord_s {w : World} {B g : Nat} {F : Nat → Prop} {ss : List Seg} {a : Int} (n : Int) (ha : I64 a) (h : Lies w B g F ss) :
    Calls Try.prog 30 #[.pointer (some ⟨g, 0, none⟩), .int .i64 a, .int .i64 n] w fun e w' => e = .returned (.int .i64 (storeS ss a (digs n 8) 0).1) ∧ Went w w' B g F (storeS ss a (digs n 8) 0).2 := by
  obtain ⟨A, c, rs, h1, rfl, h3, h4⟩ := h
  exact (PokeWord_any B g A c rs a n ha w h1).mono fun e w' hm => hm.went h1 h3 h4

/-! What is asked. -/
/-- Behind a read: bytes in a row of their own, or none and an error. -/
def TookS (w : World) (ss : List Seg) (a n need : Int) (e : Ending) (w' : World) : Prop := Below w.heap.size w w' ∧ ∃ A l c, e = .returned (.tuple #[.slice A l c, .int .i64 (goesS ss a n need)]) ∧ l = (if goesS ss a n need = 0 then gotS ss a n else []).length ∧
  w'.ownsRow w.heap.size 5 1 (.slice A l c) l (cells (if goesS ss a n need = 0 then gotS ss a n else []))
theorem gotS_len {ss : List Seg} {a n need : Int} (h : goesS ss a n need = 0) : (gotS ss a n).length = n.toNat := by
  unfold goesS at h
  split at h
  · cases h
  · unfold gotS
    cases hh : holdS ss a n with
    | none => rw [hh] at h; cases h
    | some s => simp
theorem Taken.took {w w' : World} {rs : List Raw} {a n need : Int} {e : Ending} (h : Taken w (blks rs) a n need e w') : TookS w (segs rs) a n need e w' := by
  obtain ⟨hb, h⟩ := h
  rw [goes_segs, got_segs] at h
  refine ⟨hb, ?_⟩
  rcases h with ⟨h1, rfl⟩ | ⟨h1, gn, rfl, h2⟩
  · exact ⟨none, 0, 0, rfl, by rw [if_neg h1]; rfl, by rw [if_neg h1]; exact ⟨rfl, .inl ⟨rfl, rfl⟩⟩⟩
  · refine ⟨_, _, _, by rw [h1], by rw [if_pos h1, gotS_len h1], by rw [if_pos h1]; exact h2⟩
theorem Read_s {w : World} {B g : Nat} {F : Nat → Prop} {ss : List Seg} {a : Int} (n : Int) (ha : I64 a) (h : Lies w B g F ss) :
    Calls Try.prog 28 #[.pointer (some ⟨g, 0, none⟩), .int .i64 a, .int .i64 n] w (TookS w ss a n 1) := by
  obtain ⟨A, c, rs, h1, rfl, h3, h4⟩ := h
  exact (Read_any B g A c rs a n ha w h1).mono fun e w' hm => hm.took
theorem Peek_s {w : World} {B g : Nat} {F : Nat → Prop} {ss : List Seg} {a : Int} (n : Int) (ha : I64 a) (h : Lies w B g F ss) :
    Calls Try.prog 26 #[.pointer (some ⟨g, 0, none⟩), .int .i64 a, .int .i64 n] w (TookS w ss a n 0) := by
  obtain ⟨A, c, rs, h1, rfl, h3, h4⟩ := h
  exact (Peek_any B g A c rs a n ha w h1).mono fun e w' hm => hm.took
theorem Fetch_s {w : World} {B g : Nat} {F : Nat → Prop} {ss : List Seg} {a : Int} (ha : I64 a) (h : Lies w B g F ss) :
    Calls Try.prog 51 #[.pointer (some ⟨g, 0, none⟩), .int .i64 a] w (TookS w ss a 8 4) := by
  obtain ⟨A, c, rs, h1, rfl, h3, h4⟩ := h
  exact (Fetch_any B g A c rs a ha w h1).mono fun e w' hm => hm.took
def wordS (ss : List Seg) (a need : Int) : Int := val (if goesS ss a 8 need = 0 then gotS ss a 8 else [])
theorem word_segs (rs : List Raw) (a need : Int) : wordAt (blks rs) a need = wordS (segs rs) a need := by
  unfold wordAt wordS
  rw [goes_segs, got_segs]
theorem Word_s {w : World} {B g : Nat} {F : Nat → Prop} {ss : List Seg} {a : Int} (ha : I64 a) (h : Lies w B g F ss) :
    Calls Try.prog 29 #[.pointer (some ⟨g, 0, none⟩), .int .i64 a] w fun e w' => e = .returned (.tuple #[.int .i64 (wordS ss a 1), .int .i64 (goesS ss a 8 1)]) ∧ Below w.heap.size w w' := by
  obtain ⟨A, c, rs, h1, rfl, h3, h4⟩ := h
  exact (Word_any B g A c rs a ha w h1).mono fun e w' hm => ⟨by rw [hm.2, word_segs, goes_segs], hm.1⟩
theorem PeekWord_s {w : World} {B g : Nat} {F : Nat → Prop} {ss : List Seg} {a : Int} (ha : I64 a) (h : Lies w B g F ss) :
    Calls Try.prog 54 #[.pointer (some ⟨g, 0, none⟩), .int .i64 a] w fun e w' => e = .returned (.tuple #[.int .i64 (wordS ss a 0), .int .i64 (goesS ss a 8 0)]) ∧ Below w.heap.size w w' := by
  obtain ⟨A, c, rs, h1, rfl, h3, h4⟩ := h
  exact (PeekWord_any B g A c rs a ha w h1).mono fun e w' hm => ⟨by rw [hm.2, word_segs, goes_segs], hm.1⟩
def gapA (ss : List Seg) (n : Int) : Int × Int := if sizeB n = true then (match gapS n 4096 ss with
  | none => (0, 3)
  | some a => (a, 0)) else (0, 1)
theorem Gap_s {w : World} {B g : Nat} {F : Nat → Prop} {ss : List Seg} (n : Int) (h : Lies w B g F ss) :
    Calls Try.prog 23 #[.pointer (some ⟨g, 0, none⟩), .int .i64 n] w fun e w' => e = .returned (.tuple #[.int .i64 (gapA ss n).1, .int .i64 (gapA ss n).2]) ∧ Below w.heap.size w w' := by
  obtain ⟨A, c, rs, h1, rfl, h3, h4⟩ := h
  refine (Gap_any B g A c rs n w h1).mono fun e w' hm => ⟨?_, hm.1⟩
  rw [hm.2]
  unfold gapA gapB
  rw [gap_segs]
  split
  · cases gapS n 4096 (segs rs) <;> rfl
  · rfl
def rgS (s : Seg) : Rg := ⟨s.at_, s.size, s.perm⟩
theorem Regions_s {w : World} {B g : Nat} {F : Nat → Prop} {ss : List Seg} (h : Lies w B g F ss) :
    Calls Try.prog 22 #[.pointer (some ⟨g, 0, none⟩)] w (Rgns w (ss.map rgS)) := by
  obtain ⟨A, c, rs, h1, rfl, h3, h4⟩ := h
  have : (segs rs).map rgS = rgs rs := by unfold segs rgs; rw [List.map_map]; rfl
  rw [this]
  exact Regions_any B g A c rs w h1
/-- A copy lies in what is new. -/
def CopyS (w : World) (ss : List Seg) (e : Ending) (w' : World) : Prop := ∃ gc F', e = .returned (.pointer (some ⟨gc, 0, none⟩)) ∧ Lies w' w.heap.size gc F' ss ∧ Below w.heap.size w w'
theorem Copy_s {w : World} {B g : Nat} {F : Nat → Prop} {ss : List Seg} (h : Lies w B g F ss) :
    Calls Try.prog 12 #[.pointer (some ⟨g, 0, none⟩)] w (CopyS w ss) := by
  obtain ⟨A, c, rs, h1, rfl, h3, h4⟩ := h
  refine (Copy_any B g A c rs w h1).mono fun e w' ⟨gc, A', c', rs', b1, b2, b3, b4⟩ => ?_
  have he : segs rs' = segs rs := by
    have e1 : ∀ l : List Raw, segs l = (blks l).map seg := fun l => by unfold segs blks; rw [List.map_map]; rfl
    rw [e1, e1, b3]
  exact ⟨gc, Foot gc A' rs', b1, ⟨A', c', rs', b2, he, h3, fun _ => Iff.rfl⟩, b4⟩
theorem New_s (w : World) (B : Nat) (hB : B ≤ w.heap.size) :
    Calls Try.prog 11 #[] w fun e w' => e = .returned (.pointer (some ⟨w.heap.size, 0, none⟩)) ∧ Lies w' B w.heap.size (fun k => k = w.heap.size) [] ∧ Below w.heap.size w w' := by
  refine (new_any w).mono fun e w' ⟨h1, h2⟩ => ⟨h1, ?_, by rw [h2]; exact (Below.refl _ _).alloc (Nat.le_refl _) _⟩
  rw [h2]
  refine ⟨none, 0, [], sp_new w B hB, rfl, good_nil, fun k => ⟨fun e => .inl e, fun e => ?_⟩⟩
  rcases e with e | e | ⟨r, hr, _⟩
  · exact e
  · cases e
  · cases hr
end Go.Proofs.Ythbdncojekpanaa
