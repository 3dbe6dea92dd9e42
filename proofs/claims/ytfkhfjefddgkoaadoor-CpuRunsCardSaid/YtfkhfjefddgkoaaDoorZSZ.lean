/-
  A region put among the others: insert.
  MapAt and Map.
-/
import Derived.Test.YtfkhfjefddgkoaaDoorZSX
namespace Go.Proofs.YtfkhfjefddgkoaaDoor
open Go.RowKit

theorem ins_at {rs : List Raw} {i j : Nat} {r : Raw} (hi : i ≤ rs.length) (hj : j < (rs.insertIdx i r).length) : (j = i ∧ (rs.insertIdx i r)[j] = r) ∨ ∃ j', ∃ hj' : j' < rs.length, (rs.insertIdx i r)[j] = rs[j'] ∧ ((j < i ∧ j' = j) ∨ (i < j ∧ j' + 1 = j)) := by
  have hl := hj
  rw [List.length_insertIdx, if_pos hi] at hl
  rcases Nat.lt_trichotomy j i with h | h | h
  · exact .inr ⟨j, by omega, by rw [List.getElem_insertIdx_of_lt h], .inl ⟨h, rfl⟩⟩
  · subst h
    exact .inl ⟨rfl, by rw [List.getElem_insertIdx_self]⟩
  · exact .inr ⟨j - 1, by omega, by rw [List.getElem_insertIdx_of_gt h], .inr ⟨h, by omega⟩⟩
theorem ins_mem {rs : List Raw} {i : Nat} {r x : Raw} (hi : i ≤ rs.length) (h : x ∈ rs.insertIdx i r) : x = r ∨ x ∈ rs := (List.mem_insertIdx hi).1 h
abbrev newR (a s p : Int) : Raw := ⟨⟨a, s, p, []⟩, none, 0⟩
theorem Sp.insert {w w' : World} {B g i : Nat} {A A' : Option Addr} {c c' : Nat} {rs : List Raw} {a s p : Int} (h : Sp w B g A c rs) (hi : i ≤ rs.length) (hf : 4096 ≤ a ∧ 64 ≤ s ∧ a + s ≤ 4294967296 ∧ s ≤ 1048576) (hlo : ∀ (k : Nat) (hk : k < rs.length), k < i → rs[k].b.at_ + rs[k].b.size ≤ a) (hhi : ∀ (k : Nat) (hk : k < rs.length), i ≤ k → a + s ≤ rs[k].b.at_)
    (hbox : Bx w' g #[.slice A' (rs.length + 1) c'] 97) (hown : w'.ownsRow B 122 4 (.slice A' (rs.length + 1) c') (rs.length + 1) (rcells (rs.insertIdx i (newR a s p)))) (hb : Beside w w' (fun k => k = g ∨ some k = row A)) (hA : row A' = row A ∨ ∃ q, w.heap.size ≤ q ∧ row A' = some q) :
    Sp w' B g A' c' (rs.insertIdx i (newR a s p)) := by
  have hlen : (rs.insertIdx i (newR a s p)).length = rs.length + 1 := by rw [List.length_insertIdx, if_pos hi]
  have hlt := h.box.lt
  refine ⟨h.hg, by rw [hlen]; exact hbox, by rw [hlen]; exact hown, ?_, ?_, ?_, ?_, ?_, ?_⟩
  · intro r hr
    rcases ins_mem hi hr with rfl | hr
    · exact ⟨rfl, .inl ⟨rfl, rfl⟩⟩
    · refine own_beside (h.bytes r hr) hb fun q hq e => ?_
      rw [row_own] at hq
      obtain ⟨p1, p2⟩ := h.apart r hr q hq
      rcases e with e | e
      · exact p1 e
      · exact p2 e
  · intro r hr
    rcases ins_mem hi hr with rfl | hr
    · exact ⟨by show ((0 : Nat) : Int) ≤ s; omega, hf.2.2.2⟩
    · exact h.short r hr
  · rcases hA with e | ⟨q, hq, e⟩
    · rw [e]; exact h.ne
    · rw [e]; intro e'; cases e'; omega
  · intro r hr q hq
    rcases ins_mem hi hr with rfl | hr
    · cases hq
    · obtain ⟨p1, p2⟩ := h.apart r hr q hq
      refine ⟨p1, ?_⟩
      rcases hA with e | ⟨q', hq', e⟩
      · rw [e]; exact p2
      · rw [e]; intro e'; cases e'
        have := (h.lt (k := q) (.inr (.inr ⟨r, hr, hq.symm⟩))).2
        omega
  · rw [List.pairwise_iff_getElem]
    have h0 := List.pairwise_iff_getElem.1 h.pair
    intro j k hj hk hjk q hq
    rcases ins_at hi hj with ⟨_, e1⟩ | ⟨j', hj', e1, ej⟩
    · rw [e1] at hq; cases hq
    · rcases ins_at hi hk with ⟨_, e2⟩ | ⟨k', hk', e2, ek⟩
      · rw [e2]; intro e'; cases e'
      · rw [e2]
        rw [e1] at hq
        exact h0 j' k' hj' hk' (by omega) q hq
  · refine ⟨fun r hr => ?_, fun j k hj hk hjk => ?_⟩
    · rcases ins_mem hi hr with rfl | hr
      · exact ⟨hf.1, hf.2.1, hf.2.2.1⟩
      · exact h.ord.fit r hr
    · rcases ins_at hi hj with ⟨ej, e1⟩ | ⟨j', hj', e1, ej⟩
      · rcases ins_at hi hk with ⟨ek, e2⟩ | ⟨k', hk', e2, ek⟩
        · omega
        · rw [e1, e2]
          exact hhi k' hk' (by omega)
      · rcases ins_at hi hk with ⟨ek, e2⟩ | ⟨k', hk', e2, ek⟩
        · rw [e1, e2]
          exact hlo j' hj' (by omega)
        · rw [e1, e2]
          exact h.ord.next j' k' hj' hk' (by omega)
/-- Behind an insert: the new region stands among the others. -/
def Inset (w : World) (B g : Nat) (A : Option Addr) (rs : List Raw) (a s p : Int) (e : Ending) (w' : World) : Prop :=
  e = .returned (.tuple #[]) ∧ ∃ i A' c', i ≤ rs.length ∧ (∀ (k : Nat) (hk : k < rs.length), k < i → rs[k].b.at_ < a) ∧ (∀ (k : Nat) (hk : k < rs.length), i ≤ k → a < rs[k].b.at_) ∧ Sp w' B g A' c' (rs.insertIdx i (newR a s p)) ∧ Beside w w' (Foot g A rs) ∧ (row A' = row A ∨ ∃ q, w.heap.size ≤ q ∧ row A' = some q)
set_option maxRecDepth 100000 in
set_option maxHeartbeats 2000000 in
theorem insert_any (B g : Nat) (A : Option Addr) (c : Nat) (rs : List Raw) (a s p : Int) (hs : 1 ≤ s ∧ s ≤ 1048576) (ha : 4096 ≤ a ∧ a + up s ≤ 4294967296) (hfr : Free rs a (up s)) (w : World) (h : Sp w B g A c rs) :
    Calls Tryd.prog 44 #[.pointer (some ⟨g, 0, none⟩), .int .i64 a, .int .i64 s, .int .i64 p] w (Inset w B g A rs a (up s) p) := by
  have hu : s ≤ up s ∧ 64 ≤ up s ∧ up s ≤ 1048576 := by unfold up; omega
  have HU := Lib.hid (And.intro hu (And.intro ha hfr))
  clear hu ha hfr
  have HPO := Lib.hid (position_any A rs.length c g rs a w (h.box.c 0) h.bls h.ord.asc (by have := ord_few h.ord; omega))
  have HRO := Lib.hid (fun w => rounded_any s hs.1 hs.2 w)
  have HS := Lib.hid h
  clear h
  go_enter Tryd.func44, Tryd.ntmps44
  go_wp2_with fail
  refine HPO.out.mono ?_
  rintro e w1 ⟨i, f, rfl, hb, hp⟩
  have HB := Lib.hid hb
  have HP := Lib.hid hp
  clear hb hp HPO
  go_wp2_with fail
  refine (HRO.out _).mono ?_
  rintro e w2 ⟨rfl, rfl⟩
  go_wp2_with fail
  have HSW := Lib.hid ((HS.out.beside (Beside.of_below HB.out (fun _ => False)) fun _ _ e => e).beside (Beside.alloc w1 (.cells #[.int .i64 a, .int .i64 (up s), .int .i64 p] 89) (fun _ => False)) fun _ _ e => e)
  have HBW := Lib.hid ((Beside.of_below HB.out (fun _ => False)).trans (Beside.alloc w1 (.cells #[.int .i64 a, .int .i64 (up s), .int .i64 p] 89) (fun _ => False)))
  have HRB := Lib.hid (Bx.new w1 #[.int .i64 a, .int .i64 (up s), .int .i64 p] 89)
  have HNE := Lib.hid (show ¬ some w1.heap.size = row A from fun e => by have := ((HS.out.beside (Beside.of_below HB.out (fun _ => False)) fun _ _ e => e).lt (k := w1.heap.size) (.inr (.inl e))).2; omega)
  have HGW := Lib.hid (show w1.heap.size ≠ g from fun e => by have := ((HS.out.beside (Beside.of_below HB.out (fun _ => False)) fun _ _ e => e).lt (k := g) (.inl rfl)).2; omega)
  generalize w1.alloc (.cells #[.int .i64 a, .int .i64 (up s), .int .i64 p] 89) = W at *
  have HIN := Lib.hid (fun W' t (b00 : Beside W W' (fun _ => False)) hx => insert_call (t := t) HSW.out HP.out.le (a := a) (s := up s) (p := p) b00 hx)
  have hcW : W.cell? ⟨g, 0, none⟩ = some (.slice A rs.length c) := HSW.out.box.c 0
  have hr0 := HRB.out.c 0
  have hr1 := HRB.out.c 1
  have hr2 := HRB.out.c 2
  simp only [List.getElem?_toArray, List.getElem?_cons_zero, List.getElem?_cons_succ] at hr0 hr1 hr2
  clear HRO
  have hfW : W.frozen? ⟨g, 0, none⟩ = false := HSW.out.box.f 0
  have hfd : W.drew.frozen? ⟨g, 0, none⟩ = false := HSW.out.box.f 0
  have hfk : ∀ o, (W.alloc o).frozen? ⟨g, 0, none⟩ = false := fun o => (HSW.out.box.alloc o).f 0
  have hfk2 : ∀ o, (W.alloc o).drew.frozen? ⟨g, 0, none⟩ = false := fun o => (HSW.out.box.alloc o).f 0
  have hck : ∀ o, (W.alloc o).cell? ⟨g, 0, none⟩ = some (.slice A rs.length c) := fun o => (HSW.out.box.alloc o).c 0
  have hckd : ∀ o, (W.alloc o).drew.cell? ⟨g, 0, none⟩ = some (.slice A rs.length c) := fun o => (HSW.out.box.alloc o).c 0
  have hckd2 : ∀ o, (W.drew.alloc o).cell? ⟨g, 0, none⟩ = some (.slice A rs.length c) := fun o => (HSW.out.box.alloc o).c 0
  go_region_with ((with_reducible refine (HIN.out _ 122 ?_ ?_).mono ?_); (exact ⟨rfl, rfl, rfl, by simp, fun _ hk _ => heap_alloc_old W _ hk⟩); (exact Bx.new W _ _); rintro e w3 ⟨A', c', rfl, ho, hbe, hr, hcg, hfg⟩; have HO := Lib.hid ho; have HBE := Lib.hid hbe; have HR := Lib.hid hr; clear ho hbe hr)
  all_goals
    have hbx := HSW.out.box.beside HBE.out fun e => HSW.out.ne e.symm
    have hbox : Bx (w3.setCell ⟨g, 0, none⟩ (.slice A' (rs.length + 1) c')) g #[.slice A' (rs.length + 1) c'] 97 := by
      show (World.setCell _ _ _).heap[g]? = _
      rw [setCell_eq_setRow w3 g 0 _ 97 _ _ hbx]
      exact setRow_heap w3 g _ _ 97 _ hbx
    have hne : row A' ≠ some g := by
      rcases HR.out with e | ⟨q, hq, e⟩
      · rw [e]; exact HSW.out.ne
      · rw [e]; intro e'; cases e'
        have := HSW.out.box.lt
        omega
    have hown : (w3.setCell ⟨g, 0, none⟩ (.slice A' (rs.length + 1) c')).ownsRow B 122 4 (.slice A' (rs.length + 1) c') (rs.length + 1) (rcells (rs.insertIdx i (newR a (up s) p))) :=
      own_beside HO.out ((Beside.refl w3 (fun k => k = g)).set _ _ rfl) fun k hk e => by
        rw [row_own] at hk
        subst e
        exact hne hk
    have hbs : Beside W (w3.setCell ⟨g, 0, none⟩ (.slice A' (rs.length + 1) c')) (fun k => k = g ∨ some k = row A) := (HBE.out.weak fun _ _ e => .inr e).set _ _ (.inl rfl)
    have hfree := (free_pos HS.out.ord (by have := HU.out.1; omega) HP.out).1 HU.out.2.2
    have hlo : ∀ (k : Nat) (hk : k < rs.length), k < i → rs[k].b.at_ + rs[k].b.size ≤ a := fun k hk hki => by
      have hi2 : i - 1 < rs.length := by have := HP.out.le; omega
      have h3 := hfree.1 (i - 1) hi2 (by omega)
      by_cases he : k = i - 1
      · subst he; exact h3
      · have h4 := HS.out.ord.next k (i - 1) hk hi2 (by omega)
        have h5 := (HS.out.ord.fit rs[i - 1] (List.getElem_mem hi2)).2.1
        omega
    have hhi : ∀ (k : Nat) (hk : k < rs.length), i ≤ k → a + up s ≤ rs[k].b.at_ := fun k hk hki => by
      have hi2 : i < rs.length := by omega
      have h3 := hfree.2 hi2
      by_cases he : k = i
      · subst he; exact h3
      · have h4 := HS.out.ord.next i k hi2 hk (by omega)
        have h5 := (HS.out.ord.fit rs[i] (List.getElem_mem hi2)).2.1
        omega
    have hsp := HSW.out.insert HP.out.le ⟨HU.out.2.1.1, HU.out.1.2.1, HU.out.2.1.2, HU.out.1.2.2⟩ hlo hhi hbox hown hbs HR.out
    go_end0
    refine ⟨rfl, i, A', c', HP.out.le, HP.out.lo, fun k hk hki => ?_, hsp, ?_, ?_⟩
    · have := hhi k hk hki
      have := HU.out.1
      omega
    · refine (HBW.out.weak fun _ _ e => e.elim).trans (hbs.weak fun q _ e => ?_)
      rcases e with rfl | e
      · exact .inl rfl
      · exact .inr (.inl e)
    · exact HR.out.imp id fun ⟨q, hq, e⟩ => ⟨q, Nat.le_trans HBW.out.size hq, e⟩
end Go.Proofs.YtfkhfjefddgkoaaDoor

namespace Go.Proofs.YtfkhfjefddgkoaaDoor
open Go.RowKit

/-- Regions begin and end at whole pages. -/
def Al (rs : List Raw) : Prop := ∀ r ∈ rs, r.b.at_ % 64 = 0 ∧ r.b.size % 64 = 0
theorem free_up {rs : List Raw} (ha : Al rs) {a s : Int} (h0 : a % 64 = 0) : Free rs a s ↔ Free rs a (up s) := by
  constructor
  · intro h r hr
    obtain ⟨h1, h2⟩ := ha r hr
    rcases h r hr with h3 | h3
    · left
      unfold up
      omega
    · exact .inr h3
  · intro h r hr
    rcases h r hr with h3 | h3
    · left
      unfold up at h3
      omega
    · exact .inr h3
theorem Inset.from {w w0 w' : World} {B g : Nat} {A : Option Addr} {rs : List Raw} {a s p : Int} {e : Ending} (h : Inset w0 B g A rs a s p e w') (hb : Below w.heap.size w w0) : Inset w B g A rs a s p e w' := by
  obtain ⟨he, i, A', c', h1, h2, h3, h4, h5, h6⟩ := h
  exact ⟨he, i, A', c', h1, h2, h3, h4, (Beside.of_below hb _).trans h5, h6.imp id fun ⟨q, hq, e⟩ => ⟨q, Nat.le_trans hb.size hq, e⟩⟩
/-- Behind a MapAt. -/
def MapAts (w : World) (B g : Nat) (A : Option Addr) (rs : List Raw) (a s p : Int) (e : Ending) (w' : World) : Prop :=
  ((sizeB s && (permB p && startB a s)) = false ∧ e = .returned (.int .i64 1) ∧ Below w.heap.size w w') ∨
  ((sizeB s && (permB p && startB a s)) = true ∧ ¬ Free rs a s ∧ e = .returned (.int .i64 51) ∧ Below w.heap.size w w') ∨
  ((sizeB s && (permB p && startB a s)) = true ∧ Free rs a s ∧ e = .returned (.int .i64 0) ∧ Inset w B g A rs a (up s) p (.returned (.tuple #[])) w')
theorem up_le {a s : Int} (h0 : a % 64 = 0) (h2 : a ≤ 4294967296 - s) : a + up s ≤ 4294967296 := by
  unfold up
  omega
set_option maxRecDepth 100000 in
set_option maxHeartbeats 2000000 in
theorem MapAt_any (B g : Nat) (A : Option Addr) (c : Nat) (rs : List Raw) (a s p : Int) (hal : Al rs) (w : World) (h : Sp w B g A c rs) :
    Calls Tryd.prog 17 #[.pointer (some ⟨g, 0, none⟩), .int .i64 a, .int .i64 s, .int .i64 p] w (MapAts w B g A rs a s p) := by
  have HS := Lib.hid h
  have hc : w.cell? ⟨g, 0, none⟩ = some (.slice A rs.length c) := h.box.c 0
  have HZ := Lib.hid (isSize_any s w)
  have HP := Lib.hid (isPerm_any p w)
  have HAL := Lib.hid hal
  clear h hal
  have HN := Lib.hid (show (sizeB s && (permB p && startB a s)) = false → MapAts w B g A rs a s p (.returned (.int .i64 1)) w from fun h => .inl ⟨h, rfl, Below.refl _ _⟩)
  cases hsb : sizeB s with
  | false =>
    rw [hsb] at HZ HN
    generalize MapAts w B g A rs a s p = L at *
    go_enter Tryd.func17, Tryd.ntmps17
    go_wp2_with fail
    refine HZ.out.mono ?_
    rintro e w1 ⟨rfl, rfl⟩
    clear HZ
    go_wp2_with fail
    exact HN.out rfl
  | true =>
    have h2 : 1 ≤ s ∧ s ≤ 1048576 := by unfold sizeB at hsb; simp at hsb; exact hsb
    have HT := Lib.hid (isStart_any a s h2 w)
    cases hpb : permB p with
    | false =>
      rw [hsb] at HZ HN
      rw [hpb] at HP HN
      generalize MapAts w B g A rs a s p = L at *
      go_enter Tryd.func17, Tryd.ntmps17
      go_wp2_with fail
      refine HZ.out.mono ?_
      rintro e w1 ⟨rfl, rfl⟩
      clear HZ
      go_wp2_with fail
      refine HP.out.mono ?_
      rintro e w1 ⟨rfl, rfl⟩
      clear HP
      go_wp2_with fail
      exact HN.out rfl
    | true =>
      cases hst : startB a s with
      | false =>
        rw [hsb] at HZ HN
        rw [hpb] at HP HN
        rw [hst] at HT HN
        generalize MapAts w B g A rs a s p = L at *
        go_enter Tryd.func17, Tryd.ntmps17
        go_wp2_with fail
        refine HZ.out.mono ?_
        rintro e w1 ⟨rfl, rfl⟩
        clear HZ
        go_wp2_with fail
        refine HP.out.mono ?_
        rintro e w1 ⟨rfl, rfl⟩
        clear HP
        go_wp2_with fail
        refine HT.out.mono ?_
        rintro e w1 ⟨rfl, rfl⟩
        clear HT
        go_wp2_with fail
        exact HN.out rfl
      | true =>
        have h3 : a % 64 = 0 ∧ 4096 ≤ a ∧ a ≤ 4294967296 - s := by unfold startB at hst; simp at hst; exact hst
        have HF := Lib.hid (free_any A rs.length c g rs a s ⟨h3.2.1, by omega⟩ h2 w hc HS.out.bls HS.out.ord (by have := ord_few HS.out.ord; omega))
        have HI := Lib.hid (fun (hf : Free rs a s) w1 (hb : Below w.heap.size w w1) => insert_any B g A c rs a s p h2 ⟨h3.2.1, up_le h3.1 h3.2.2⟩ ((free_up HAL.out h3.1).1 hf) w1 (HS.out.beside (Beside.of_below hb (fun _ => False)) fun _ _ e => e))
        have HY := Lib.hid (show ∀ w', Free rs a s → Inset w B g A rs a (up s) p (.returned (.tuple #[])) w' → MapAts w B g A rs a s p (.returned (.int .i64 0)) w' from fun w' hf hi => .inr (.inr ⟨by rw [hsb, hpb, hst]; rfl, hf, rfl, hi⟩))
        have HU := Lib.hid (show ∀ w', ¬ Free rs a s → Below w.heap.size w w' → MapAts w B g A rs a s p (.returned (.int .i64 51)) w' from fun w' hf hb => .inr (.inl ⟨by rw [hsb, hpb, hst]; rfl, hf, rfl, hb⟩))
        rw [hsb] at HZ
        rw [hpb] at HP
        rw [hst] at HT
        generalize MapAts w B g A rs a s p = L at *
        clear HN hsb hpb hst h2 h3
        go_enter Tryd.func17, Tryd.ntmps17
        go_wp2_with fail
        refine HZ.out.mono ?_
        rintro e w1 ⟨rfl, rfl⟩
        clear HZ
        go_wp2_with fail
        refine HP.out.mono ?_
        rintro e w1 ⟨rfl, rfl⟩
        clear HP
        go_wp2_with fail
        refine HT.out.mono ?_
        rintro e w1 ⟨rfl, rfl⟩
        clear HT
        go_wp2_with fail
        refine HF.out.mono ?_
        rintro e w1 ⟨f, rfl, hf, hb⟩
        have HFF := Lib.hid hf
        have HB := Lib.hid hb
        clear HF hf hb
        cases f with
        | false =>
          go_wp2_with fail
          exact HU.out _ (fun h => by have := HFF.out.2 h; cases this) HB.out
        | true =>
          have HFR := Lib.hid (HFF.out.1 rfl)
          have HI2 := Lib.hid (HI.out HFR.out w1 HB.out)
          clear HFF
          go_wp2_with fail
          refine HI2.out.mono ?_
          intro e w2 hi
          have he := hi.1
          subst he
          have HI3 := Lib.hid (hi.from HB.out)
          clear hi HI HI2
          go_wp2_with fail
          exact HY.out _ HFR.out HI3.out
/-- Behind a Map. -/
def Maps (w : World) (B g : Nat) (A : Option Addr) (rs : List Raw) (s p : Int) (e : Ending) (w' : World) : Prop :=
  ((sizeB s && permB p) = false ∧ e = .returned (.tuple #[.int .i64 0, .int .i64 1]) ∧ Below w.heap.size w w') ∨
  ((sizeB s && permB p) = true ∧ gapB rs s = none ∧ e = .returned (.tuple #[.int .i64 0, .int .i64 3]) ∧ Below w.heap.size w w') ∨
  ((sizeB s && permB p) = true ∧ ∃ a, gapB rs s = some a ∧ e = .returned (.tuple #[.int .i64 a, .int .i64 0]) ∧ Inset w B g A rs a (up s) p (.returned (.tuple #[])) w')
theorem gapFrom_free : ∀ {rs : List Raw} {s a r : Int}, Ord rs → (∀ x ∈ rs, a ≤ x.b.at_) → 1 ≤ s → gapFrom s a rs = some r → a ≤ r ∧ r + s ≤ 4294967296 ∧ Free rs r s ∧ (a % 64 = 0 → Al rs → r % 64 = 0) := by
  intro rs
  induction rs with
  | nil =>
    intro s a r _ _ _ h
    unfold gapFrom at h
    split at h
    · cases h
      exact ⟨Int.le_refl _, by assumption, (fun x hx => by cases hx), fun h _ => h⟩
    · cases h
  | cons x rs ih =>
    intro s a r ho hx hs h
    have hox : Ord rs := ⟨fun r hr => ho.fit r (List.mem_cons_of_mem _ hr), fun j k hj hk hjk => by
      have := ho.next (j + 1) (k + 1) (by simpa using hj) (by simpa using hk) (by omega)
      simpa using this⟩
    have hnx : ∀ y ∈ rs, x.b.at_ + x.b.size ≤ y.b.at_ := by
      intro y hy
      obtain ⟨k, hk, rfl⟩ := List.getElem_of_mem hy
      have := ho.next 0 (k + 1) (by simp) (by simpa using hk) (by omega)
      simpa using this
    have hfx := ho.fit x (List.mem_cons_self ..)
    have hax := hx x (List.mem_cons_self ..)
    unfold gapFrom at h
    split at h
    · cases h
      rename_i hle
      refine ⟨Int.le_refl _, by omega, fun y hy => ?_, fun h _ => h⟩
      rcases List.mem_cons.1 hy with rfl | hy
      · exact .inl hle
      · have := hnx y hy
        exact .inl (by omega)
    · obtain ⟨h1, h2, h3, h4⟩ := ih hox hnx hs h
      refine ⟨by omega, h2, fun y hy => ?_, fun h0 hal => h4 ?_ fun r hr => hal r (List.mem_cons_of_mem _ hr)⟩
      · rcases List.mem_cons.1 hy with rfl | hy
        · exact .inr h1
        · exact h3 y hy
      · have := hal x (List.mem_cons_self ..)
        omega
set_option maxRecDepth 100000 in
set_option maxHeartbeats 2000000 in
theorem Map_any (B g : Nat) (A : Option Addr) (c : Nat) (rs : List Raw) (s p : Int) (hal : Al rs) (w : World) (h : Sp w B g A c rs) :
    Calls Tryd.prog 55 #[.pointer (some ⟨g, 0, none⟩), .int .i64 s, .int .i64 p] w (Maps w B g A rs s p) := by
  have HS := Lib.hid h
  have hc : w.cell? ⟨g, 0, none⟩ = some (.slice A rs.length c) := h.box.c 0
  have HZ := Lib.hid (isSize_any s w)
  have HP := Lib.hid (isPerm_any p w)
  have HAL := Lib.hid hal
  clear h hal
  have HN := Lib.hid (show (sizeB s && permB p) = false → Maps w B g A rs s p (.returned (.tuple #[.int .i64 0, .int .i64 1])) w from fun h => .inl ⟨h, rfl, Below.refl _ _⟩)
  cases hsb : sizeB s with
  | false =>
    rw [hsb] at HZ HN
    generalize Maps w B g A rs s p = L at *
    go_enter Tryd.func55, Tryd.ntmps55
    go_wp2_with fail
    refine HZ.out.mono ?_
    rintro e w1 ⟨rfl, rfl⟩
    clear HZ
    go_wp2_with fail
    exact HN.out rfl
  | true =>
    have h2 : 1 ≤ s ∧ s ≤ 1048576 := by unfold sizeB at hsb; simp at hsb; exact hsb
    cases hpb : permB p with
    | false =>
      rw [hsb] at HZ HN
      rw [hpb] at HP HN
      generalize Maps w B g A rs s p = L at *
      go_enter Tryd.func55, Tryd.ntmps55
      go_wp2_with fail
      refine HZ.out.mono ?_
      rintro e w1 ⟨rfl, rfl⟩
      clear HZ
      go_wp2_with fail
      refine HP.out.mono ?_
      rintro e w1 ⟨rfl, rfl⟩
      clear HP
      go_wp2_with fail
      exact HN.out rfl
    | true =>
      have HG := Lib.hid (gap_any A rs.length c g rs s h2 w hc HS.out.bls HS.out.ord.inn (by have := ord_few HS.out.ord; omega))
      have HI := Lib.hid (fun (a : Int) (hg : gapFrom s 4096 rs = some a) w1 (hb : Below w.heap.size w w1) => by
        obtain ⟨g1, g2, g3, g4⟩ := gapFrom_free HS.out.ord (fun x hx => (HS.out.ord.fit x hx).1) h2.1 hg
        have g5 := g4 (by omega) HAL.out
        exact insert_any B g A c rs a s p h2 ⟨g1, up_le g5 (by omega)⟩ ((free_up HAL.out g5).1 g3) w1 (HS.out.beside (Beside.of_below hb (fun _ => False)) fun _ _ e => e))
      have HY := Lib.hid (show ∀ a w', gapFrom s 4096 rs = some a → Inset w B g A rs a (up s) p (.returned (.tuple #[])) w' → Maps w B g A rs s p (.returned (.tuple #[.int .i64 a, .int .i64 0])) w' from fun a w' hf hi => .inr (.inr ⟨by rw [hsb, hpb]; rfl, a, hf, rfl, hi⟩))
      have HU := Lib.hid (show ∀ w', gapFrom s 4096 rs = none → Below w.heap.size w w' → Maps w B g A rs s p (.returned (.tuple #[.int .i64 0, .int .i64 3])) w' from fun w' hf hb => .inr (.inl ⟨by rw [hsb, hpb]; rfl, hf, rfl, hb⟩))
      rw [hsb] at HZ
      rw [hpb] at HP
      generalize Maps w B g A rs s p = L at *
      clear HN hsb hpb h2
      cases hgp : gapFrom s 4096 rs with
      | none =>
        have HGP := Lib.hid hgp
        rw [hgp] at HG
        clear hgp
        go_enter Tryd.func55, Tryd.ntmps55
        go_wp2_with fail
        refine HZ.out.mono ?_
        rintro e w1 ⟨rfl, rfl⟩
        clear HZ
        go_wp2_with fail
        refine HP.out.mono ?_
        rintro e w1 ⟨rfl, rfl⟩
        clear HP
        go_wp2_with fail
        refine HG.out.mono ?_
        rintro e w1 ⟨hb, rfl⟩
        have HB := Lib.hid hb
        clear HG hb
        go_wp2_with fail
        first | go_ret2 | skip
        exact HU.out _ HGP.out HB.out
      | some a =>
        have HGP := Lib.hid hgp
        rw [hgp] at HG
        clear hgp
        go_enter Tryd.func55, Tryd.ntmps55
        go_wp2_with fail
        refine HZ.out.mono ?_
        rintro e w1 ⟨rfl, rfl⟩
        clear HZ
        go_wp2_with fail
        refine HP.out.mono ?_
        rintro e w1 ⟨rfl, rfl⟩
        clear HP
        go_wp2_with fail
        refine HG.out.mono ?_
        rintro e w1 ⟨hb, rfl⟩
        have HB := Lib.hid hb
        have HI2 := Lib.hid (HI.out a HGP.out w1 hb)
        clear HG hb
        go_wp2_with fail
        refine HI2.out.mono ?_
        intro e w2 hi
        have he := hi.1
        subst he
        have HI3 := Lib.hid (hi.from HB.out)
        clear hi HI HI2
        go_wp2_with fail
        first | go_ret2 | skip
        exact HY.out _ _ HGP.out HI3.out
end Go.Proofs.YtfkhfjefddgkoaaDoor
