/-
  A new store, and what is set at a place.
-/
import Derived.Test.YtmabhciijdceoaaDoorG
namespace Go.Proofs.YtmabhciijdceoaaDoor
open Go.RowKit Go.Maps

/-- Nothing has turned but the store's two blocks. -/
structure Turn (sb mb : Nat) (w w' : World) : Prop where
  os : w'.os = w.os
  tape : w'.tape = w.tape
  output : w'.output = w.output
  size : w.heap.size ≤ w'.heap.size
  block : ∀ k, k < w.heap.size → k ≠ sb → k ≠ mb → w'.heap[k]? = w.heap[k]?
theorem Turn.refl (sb mb : Nat) (w : World) : Turn sb mb w w := ⟨rfl, rfl, rfl, Nat.le_refl _, fun _ _ _ _ => rfl⟩
theorem Turn.trans {sb mb : Nat} {a b c : World} (h : Turn sb mb a b) (k : Turn sb mb b c) : Turn sb mb a c :=
  ⟨k.os.trans h.os, k.tape.trans h.tape, k.output.trans h.output, Nat.le_trans h.size k.size, fun i hi h1 h2 => (k.block i (Nat.lt_of_lt_of_le hi h.size) h1 h2).trans (h.block i hi h1 h2)⟩
theorem Turn.of_below {sb mb B : Nat} {a b : World} (h : Below B a b) (hB : a.heap.size ≤ B) : Turn sb mb a b := ⟨h.os, h.tape, h.output, h.size, fun k hk _ _ => h.block k (Nat.lt_of_lt_of_le hk hB)⟩
theorem Turn.below {sb mb B : Nat} {a b : World} (h : Turn sb mb a b) (h1 : B ≤ sb) (h2 : B ≤ mb) (h3 : B ≤ a.heap.size) : Below B a b := ⟨h.os, h.tape, h.output, h.size, fun k hk => h.block k (by omega) (by omega) (by omega)⟩
theorem Turn.of_grown {sb mb : Nat} {a b : World} (h : a.grownBy b (some mb)) : Turn sb mb a b := ⟨h.os, h.tape, h.output, h.size, fun k hk _ hm => h.block k hk (by intro e; injection e with e; exact hm e)⟩
theorem Turn.ml {sb mb : Nat} {a b : World} (h : Turn sb mb a b) (hm : Ml a) (h1 : 0 < sb) (h2 : 0 < mb) : Ml b := by
  obtain ⟨m, hm⟩ := hm
  refine ⟨m, ?_⟩
  have hp := World.block_lt_of_cell? a _ hm
  rw [World.cell?_of_block (h.block 0 hp (by omega) (by omega))]
  exact hm

theorem own_tight {w : World} {b n : Nat} {D : Dt} (h : w.ownsMap Tryd.prog 9 thElem b n D) : w.ownsMap Tryd.prog 9 thElem b (Maps.size D) D := by
  obtain ⟨es, clock, hb, F, hs, rfl⟩ := h
  exact ⟨es, clock, hb, F, by simp [Maps.size, length_sorted], rfl⟩

/-- What is set at a place. -/
def setAt (s : St) (p : Str) (t : Th) : St × Int :=
  if (getD s.d p).kind = 0 ∧ 500 < Maps.size s.d then (s, 3) else (⟨s.d.put (.string p) (thD t), s.puts⟩, 0)
/-- What a call answers that changes the store. -/
def Does (w : World) (sb mb : Nat) (r : St × Int) (e : Ending) (w' : World) : Prop := e = .returned (.int .i64 r.2) ∧ Sto w' sb mb r.1 ∧ Turn sb mb w w'

/-- A thing is laid into the map. -/
theorem Sto.put {w : World} {sb mb : Nat} {s : St} (h : Sto w sb mb s) (p : Str) (t : Th) (hp : p.length ≤ 9223372036854775807) (ht : t.small = true) (hs : (getD s.d p).kind = 0 → Maps.size s.d ≤ 500) :
    ∃ w', (Instr.mapUpdate 62 (.map (some mb)) (str p) (thv t)).run Tryd.prog w = .ok () w' ∧ Sto w' sb mb ⟨s.d.put (.string p) (thD t), s.puts⟩ ∧ Turn sb mb w w' := by
  have hsz := h.size
  obtain ⟨w', hrun, hown, hg⟩ := h.own.update keyLaw Tryd.underlying62 (by simp only [maxLen]; omega) (keyOf_str p hp) (thElem_mk t ht)
  have hne := h.ne
  have hT : Turn sb mb w w' := Turn.of_grown hg
  refine ⟨w', hrun, ⟨?_, own_tight hown, hT.ml h.ml h.pos.1 h.pos.2, h.pos, ?_⟩, hT⟩
  · exact (hg.block sb h.lt.1 (by intro e; injection e with e; exact hne e)).trans h.blk
  · show Maps.size (s.d.put (.string p) (thD t)) ≤ 501
    rw [size_put (h.own.tidy keyLaw)]
    split
    · exact hsz
    · rename_i hh
      have := hs (Classical.byContradiction fun hk => hh (has_of_kind s.d p hk))
      omega
theorem Sto.lens {w : World} {sb mb : Nat} {s : St} (h : Sto w sb mb s) (ty : TypeId) : (Builtin.len_ #[62] ty #[.map (some mb)]).run Tryd.prog w = .ok (.int .i64 (Maps.size s.d)) w := h.own.len Tryd.underlying62 ty

set_option maxRecDepth 100000 in
theorem set_any (sb mb : Nat) (s : St) (p : Str) (t : Th) (w : World) (h : Sto w sb mb s) (hp : p.length ≤ 9223372036854775807) (ht : t.small = true) :
    Calls Tryd.prog 38 #[.pointer (some ⟨sb, 0, none⟩), str p, thv t] w (Does w sb mb (setAt s p t)) := by
  have hbx := (Below.refl w.heap.size w).alloc (Nat.le_refl _) (.cells #[.int .i64 t.kind, .int .i64 t.id, str t.text] 59)
  have hS := h.below hbx
  have hlk := (hS.look p hp).1
  have hln := fun ty => hS.lens ty
  have hc0 := hS.c0
  have hu : setAt s p t = if (getD s.d p).kind = 0 ∧ 500 < Maps.size s.d then (s, 3) else (⟨s.d.put (.string p) (thD t), s.puts⟩, 0) := rfl
  generalize setAt s p t = u at *
  have HBX := Lib.hid hbx
  have HS := Lib.hid hS
  clear h hbx
  by_cases hc : (getD s.d p).kind = 0 ∧ 500 < Maps.size s.d
  · rw [if_pos hc] at hu
    subst hu
    obtain ⟨h0, h5⟩ := hc
    generalize getD s.d p = o at *
    obtain ⟨kd, ti, tx⟩ := o
    simp only at h0
    subst h0
    obtain ⟨k', i', x'⟩ := t
    unfold thv at *
    have hfd := field_kind (w.alloc (.cells #[.int .i64 k', .int .i64 i', str x'] 59))
    generalize Maps.size s.d = sz at *
    clear hS ht
    go_enter Tryd.func38, Tryd.ntmps38
    go_wp2
    go_ret
    exact ⟨rfl, HS.out, Turn.of_below HBX.out (Nat.le_refl _)⟩
  · rw [if_neg hc] at hu
    subst hu
    have hsz : (getD s.d p).kind = 0 → Maps.size s.d ≤ 500 := fun h => by
      by_cases h5 : 500 < Maps.size s.d
      · exact absurd ⟨h, h5⟩ hc
      · omega
    have hSd := hS.below (drew_below _)
    obtain ⟨w2, hput, hS2, hT2⟩ := hSd.put p t hp ht hsz
    have HS2 := Lib.hid hS2
    have HT2 := Lib.hid ((Turn.of_below (sb := sb) (mb := mb) (below_drewN HBX.out 1) (Nat.le_refl _)).trans hT2)
    generalize getD s.d p = o at *
    obtain ⟨kd, ti, tx⟩ := o
    simp only at hsz hc
    obtain ⟨k', i', x'⟩ := t
    unfold thv at *
    have hfd := field_kind (w.alloc (.cells #[.int .i64 k', .int .i64 i', str x'] 59))
    have hln' := hln
    generalize hsq : Maps.size s.d = sz at hln hc hsz
    have HSQ := Lib.hid hsq
    clear hS ht hSd hS2 hT2 hsq hln'
    go_enter Tryd.func38, Tryd.ntmps38
    go_wp2
    all_goals go_region
    all_goals go_wp2
    all_goals go_ret
    all_goals exact ⟨rfl, HS2.out, HT2.out⟩
end Go.Proofs.YtmabhciijdceoaaDoor
