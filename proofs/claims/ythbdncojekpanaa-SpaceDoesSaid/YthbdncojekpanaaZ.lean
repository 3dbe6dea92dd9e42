/-
  MapAt and Map.
-/
import Derived.Test.YthbdncojekpanaaY
namespace Go.Proofs.Ythbdncojekpanaa
open Go.RowKit

/-- Regions begin and end at whole pages. -/
def Al (rs : List Raw) : Prop := ∀ r ∈ rs, r.b.at_ % 64 = 0 ∧ r.b.size % 64 = 0
theorem free_up {rs : List Raw} (ha : Al rs) {a s : Int} (h0 : a % 64 = 0) : Free rs a s ↔ Free rs a (up s) := by
  constructor
  · intro h r hr
    obtain ⟨h1, h2⟩ := ha r hr
    rcases h r hr with h3 | h3
    · left
      unfold up
      omega
    · exact .inr h3
  · intro h r hr
    rcases h r hr with h3 | h3
    · left
      unfold up at h3
      omega
    · exact .inr h3
theorem Inset.from {w w0 w' : World} {B g : Nat} {A : Option Addr} {rs : List Raw} {a s p : Int} {e : Ending} (h : Inset w0 B g A rs a s p e w') (hb : Below w.heap.size w w0) : Inset w B g A rs a s p e w' := by
  obtain ⟨he, i, A', c', h1, h2, h3, h4, h5, h6⟩ := h
  exact ⟨he, i, A', c', h1, h2, h3, h4, (Beside.of_below hb _).trans h5, h6.imp id fun ⟨q, hq, e⟩ => ⟨q, Nat.le_trans hb.size hq, e⟩⟩
/-- Behind a MapAt. -/
def MapAts (w : World) (B g : Nat) (A : Option Addr) (rs : List Raw) (a s p : Int) (e : Ending) (w' : World) : Prop :=
  ((sizeB s && (permB p && startB a s)) = false ∧ e = .returned (.int .i64 1) ∧ Below w.heap.size w w') ∨
  ((sizeB s && (permB p && startB a s)) = true ∧ ¬ Free rs a s ∧ e = .returned (.int .i64 51) ∧ Below w.heap.size w w') ∨
  ((sizeB s && (permB p && startB a s)) = true ∧ Free rs a s ∧ e = .returned (.int .i64 0) ∧ Inset w B g A rs a (up s) p (.returned (.tuple #[])) w')
theorem up_le {a s : Int} (h0 : a % 64 = 0) (h2 : a ≤ 4294967296 - s) : a + up s ≤ 4294967296 := by
  unfold up
  omega
set_option maxRecDepth 100000 in
set_option maxHeartbeats 2000000 in
theorem MapAt_any (B g : Nat) (A : Option Addr) (c : Nat) (rs : List Raw) (a s p : Int) (hal : Al rs) (w : World) (h : Sp w B g A c rs) :
    Calls Try.prog 24 #[.pointer (some ⟨g, 0, none⟩), .int .i64 a, .int .i64 s, .int .i64 p] w (MapAts w B g A rs a s p) := by
  have HS := Lib.hid h
  have hc : w.cell? ⟨g, 0, none⟩ = some (.slice A rs.length c) := h.box.c 0
  have HZ := Lib.hid (isSize_any s w)
  have HP := Lib.hid (isPerm_any p w)
  have HAL := Lib.hid hal
  clear h hal
  have HN := Lib.hid (show (sizeB s && (permB p && startB a s)) = false → MapAts w B g A rs a s p (.returned (.int .i64 1)) w from fun h => .inl ⟨h, rfl, Below.refl _ _⟩)
  cases hsb : sizeB s with
  | false =>
    rw [hsb] at HZ HN
    generalize MapAts w B g A rs a s p = L at *
    go_enter Try.func24, Try.ntmps24
    go_wp2_with fail
    refine HZ.out.mono ?_
    rintro e w1 ⟨rfl, rfl⟩
    clear HZ
    go_wp2_with fail
    exact HN.out rfl
  | true =>
    have h2 : 1 ≤ s ∧ s ≤ 1048576 := by unfold sizeB at hsb; simp at hsb; exact hsb
    have HT := Lib.hid (isStart_any a s h2 w)
    cases hpb : permB p with
    | false =>
      rw [hsb] at HZ HN
      rw [hpb] at HP HN
      generalize MapAts w B g A rs a s p = L at *
      go_enter Try.func24, Try.ntmps24
      go_wp2_with fail
      refine HZ.out.mono ?_
      rintro e w1 ⟨rfl, rfl⟩
      clear HZ
      go_wp2_with fail
      refine HP.out.mono ?_
      rintro e w1 ⟨rfl, rfl⟩
      clear HP
      go_wp2_with fail
      exact HN.out rfl
    | true =>
      cases hst : startB a s with
      | false =>
        rw [hsb] at HZ HN
        rw [hpb] at HP HN
        rw [hst] at HT HN
        generalize MapAts w B g A rs a s p = L at *
        go_enter Try.func24, Try.ntmps24
        go_wp2_with fail
        refine HZ.out.mono ?_
        rintro e w1 ⟨rfl, rfl⟩
        clear HZ
        go_wp2_with fail
        refine HP.out.mono ?_
        rintro e w1 ⟨rfl, rfl⟩
        clear HP
        go_wp2_with fail
        refine HT.out.mono ?_
        rintro e w1 ⟨rfl, rfl⟩
        clear HT
        go_wp2_with fail
        exact HN.out rfl
      | true =>
        have h3 : a % 64 = 0 ∧ 4096 ≤ a ∧ a ≤ 4294967296 - s := by unfold startB at hst; simp at hst; exact hst
        have HF := Lib.hid (free_any A rs.length c g rs a s ⟨h3.2.1, by omega⟩ h2 w hc HS.out.bls HS.out.ord (by have := ord_few HS.out.ord; omega))
        have HI := Lib.hid (fun (hf : Free rs a s) w1 (hb : Below w.heap.size w w1) => insert_any B g A c rs a s p h2 ⟨h3.2.1, up_le h3.1 h3.2.2⟩ ((free_up HAL.out h3.1).1 hf) w1 (HS.out.beside (Beside.of_below hb (fun _ => False)) fun _ _ e => e))
        have HY := Lib.hid (show ∀ w', Free rs a s → Inset w B g A rs a (up s) p (.returned (.tuple #[])) w' → MapAts w B g A rs a s p (.returned (.int .i64 0)) w' from fun w' hf hi => .inr (.inr ⟨by rw [hsb, hpb, hst]; rfl, hf, rfl, hi⟩))
        have HU := Lib.hid (show ∀ w', ¬ Free rs a s → Below w.heap.size w w' → MapAts w B g A rs a s p (.returned (.int .i64 51)) w' from fun w' hf hb => .inr (.inl ⟨by rw [hsb, hpb, hst]; rfl, hf, rfl, hb⟩))
        rw [hsb] at HZ
        rw [hpb] at HP
        rw [hst] at HT
        generalize MapAts w B g A rs a s p = L at *
        clear HN hsb hpb hst h2 h3
        go_enter Try.func24, Try.ntmps24
        go_wp2_with fail
        refine HZ.out.mono ?_
        rintro e w1 ⟨rfl, rfl⟩
        clear HZ
        go_wp2_with fail
        refine HP.out.mono ?_
        rintro e w1 ⟨rfl, rfl⟩
        clear HP
        go_wp2_with fail
        refine HT.out.mono ?_
        rintro e w1 ⟨rfl, rfl⟩
        clear HT
        go_wp2_with fail
        refine HF.out.mono ?_
        rintro e w1 ⟨f, rfl, hf, hb⟩
        have HFF := Lib.hid hf
        have HB := Lib.hid hb
        clear HF hf hb
        cases f with
        | false =>
          go_wp2_with fail
          exact HU.out _ (fun h => by have := HFF.out.2 h; cases this) HB.out
        | true =>
          have HFR := Lib.hid (HFF.out.1 rfl)
          have HI2 := Lib.hid (HI.out HFR.out w1 HB.out)
          clear HFF
          go_wp2_with fail
          refine HI2.out.mono ?_
          intro e w2 hi
          have he := hi.1
          subst he
          have HI3 := Lib.hid (hi.from HB.out)
          clear hi HI HI2
          go_wp2_with fail
          exact HY.out _ HFR.out HI3.out
/-- Behind a Map. -/
def Maps (w : World) (B g : Nat) (A : Option Addr) (rs : List Raw) (s p : Int) (e : Ending) (w' : World) : Prop :=
  ((sizeB s && permB p) = false ∧ e = .returned (.tuple #[.int .i64 0, .int .i64 1]) ∧ Below w.heap.size w w') ∨
  ((sizeB s && permB p) = true ∧ gapB rs s = none ∧ e = .returned (.tuple #[.int .i64 0, .int .i64 3]) ∧ Below w.heap.size w w') ∨
  ((sizeB s && permB p) = true ∧ ∃ a, gapB rs s = some a ∧ e = .returned (.tuple #[.int .i64 a, .int .i64 0]) ∧ Inset w B g A rs a (up s) p (.returned (.tuple #[])) w')
theorem gapFrom_free : ∀ {rs : List Raw} {s a r : Int}, Ord rs → (∀ x ∈ rs, a ≤ x.b.at_) → 1 ≤ s → gapFrom s a rs = some r → a ≤ r ∧ r + s ≤ 4294967296 ∧ Free rs r s ∧ (a % 64 = 0 → Al rs → r % 64 = 0) := by
  intro rs
  induction rs with
  | nil =>
    intro s a r _ _ _ h
    unfold gapFrom at h
    split at h
    · cases h
      exact ⟨Int.le_refl _, by assumption, (fun x hx => by cases hx), fun h _ => h⟩
    · cases h
  | cons x rs ih =>
    intro s a r ho hx hs h
    have hox : Ord rs := ⟨fun r hr => ho.fit r (List.mem_cons_of_mem _ hr), fun j k hj hk hjk => by
      have := ho.next (j + 1) (k + 1) (by simpa using hj) (by simpa using hk) (by omega)
      simpa using this⟩
    have hnx : ∀ y ∈ rs, x.b.at_ + x.b.size ≤ y.b.at_ := by
      intro y hy
      obtain ⟨k, hk, rfl⟩ := List.getElem_of_mem hy
      have := ho.next 0 (k + 1) (by simp) (by simpa using hk) (by omega)
      simpa using this
    have hfx := ho.fit x (List.mem_cons_self ..)
    have hax := hx x (List.mem_cons_self ..)
    unfold gapFrom at h
    split at h
    · cases h
      rename_i hle
      refine ⟨Int.le_refl _, by omega, fun y hy => ?_, fun h _ => h⟩
      rcases List.mem_cons.1 hy with rfl | hy
      · exact .inl hle
      · have := hnx y hy
        exact .inl (by omega)
    · obtain ⟨h1, h2, h3, h4⟩ := ih hox hnx hs h
      refine ⟨by omega, h2, fun y hy => ?_, fun h0 hal => h4 ?_ fun r hr => hal r (List.mem_cons_of_mem _ hr)⟩
      · rcases List.mem_cons.1 hy with rfl | hy
        · exact .inr h1
        · exact h3 y hy
      · have := hal x (List.mem_cons_self ..)
        omega
set_option maxRecDepth 100000 in
set_option maxHeartbeats 2000000 in
theorem Map_any (B g : Nat) (A : Option Addr) (c : Nat) (rs : List Raw) (s p : Int) (hal : Al rs) (w : World) (h : Sp w B g A c rs) :
    Calls Try.prog 13 #[.pointer (some ⟨g, 0, none⟩), .int .i64 s, .int .i64 p] w (Maps w B g A rs s p) := by
  have HS := Lib.hid h
  have hc : w.cell? ⟨g, 0, none⟩ = some (.slice A rs.length c) := h.box.c 0
  have HZ := Lib.hid (isSize_any s w)
  have HP := Lib.hid (isPerm_any p w)
  have HAL := Lib.hid hal
  clear h hal
  have HN := Lib.hid (show (sizeB s && permB p) = false → Maps w B g A rs s p (.returned (.tuple #[.int .i64 0, .int .i64 1])) w from fun h => .inl ⟨h, rfl, Below.refl _ _⟩)
  cases hsb : sizeB s with
  | false =>
    rw [hsb] at HZ HN
    generalize Maps w B g A rs s p = L at *
    go_enter Try.func13, Try.ntmps13
    go_wp2_with fail
    refine HZ.out.mono ?_
    rintro e w1 ⟨rfl, rfl⟩
    clear HZ
    go_wp2_with fail
    exact HN.out rfl
  | true =>
    have h2 : 1 ≤ s ∧ s ≤ 1048576 := by unfold sizeB at hsb; simp at hsb; exact hsb
    cases hpb : permB p with
    | false =>
      rw [hsb] at HZ HN
      rw [hpb] at HP HN
      generalize Maps w B g A rs s p = L at *
      go_enter Try.func13, Try.ntmps13
      go_wp2_with fail
      refine HZ.out.mono ?_
      rintro e w1 ⟨rfl, rfl⟩
      clear HZ
      go_wp2_with fail
      refine HP.out.mono ?_
      rintro e w1 ⟨rfl, rfl⟩
      clear HP
      go_wp2_with fail
      exact HN.out rfl
    | true =>
      have HG := Lib.hid (gap_any A rs.length c g rs s h2 w hc HS.out.bls HS.out.ord.inn (by have := ord_few HS.out.ord; omega))
      have HI := Lib.hid (fun (a : Int) (hg : gapFrom s 4096 rs = some a) w1 (hb : Below w.heap.size w w1) => by
        obtain ⟨g1, g2, g3, g4⟩ := gapFrom_free HS.out.ord (fun x hx => (HS.out.ord.fit x hx).1) h2.1 hg
        have g5 := g4 (by omega) HAL.out
        exact insert_any B g A c rs a s p h2 ⟨g1, up_le g5 (by omega)⟩ ((free_up HAL.out g5).1 g3) w1 (HS.out.beside (Beside.of_below hb (fun _ => False)) fun _ _ e => e))
      have HY := Lib.hid (show ∀ a w', gapFrom s 4096 rs = some a → Inset w B g A rs a (up s) p (.returned (.tuple #[])) w' → Maps w B g A rs s p (.returned (.tuple #[.int .i64 a, .int .i64 0])) w' from fun a w' hf hi => .inr (.inr ⟨by rw [hsb, hpb]; rfl, a, hf, rfl, hi⟩))
      have HU := Lib.hid (show ∀ w', gapFrom s 4096 rs = none → Below w.heap.size w w' → Maps w B g A rs s p (.returned (.tuple #[.int .i64 0, .int .i64 3])) w' from fun w' hf hb => .inr (.inl ⟨by rw [hsb, hpb]; rfl, hf, rfl, hb⟩))
      rw [hsb] at HZ
      rw [hpb] at HP
      generalize Maps w B g A rs s p = L at *
      clear HN hsb hpb h2
      cases hgp : gapFrom s 4096 rs with
      | none =>
        have HGP := Lib.hid hgp
        rw [hgp] at HG
        clear hgp
        go_enter Try.func13, Try.ntmps13
        go_wp2_with fail
        refine HZ.out.mono ?_
        rintro e w1 ⟨rfl, rfl⟩
        clear HZ
        go_wp2_with fail
        refine HP.out.mono ?_
        rintro e w1 ⟨rfl, rfl⟩
        clear HP
        go_wp2_with fail
        refine HG.out.mono ?_
        rintro e w1 ⟨hb, rfl⟩
        have HB := Lib.hid hb
        clear HG hb
        go_wp2_with fail
        first | go_ret2 | skip
        exact HU.out _ HGP.out HB.out
      | some a =>
        have HGP := Lib.hid hgp
        rw [hgp] at HG
        clear hgp
        go_enter Try.func13, Try.ntmps13
        go_wp2_with fail
        refine HZ.out.mono ?_
        rintro e w1 ⟨rfl, rfl⟩
        clear HZ
        go_wp2_with fail
        refine HP.out.mono ?_
        rintro e w1 ⟨rfl, rfl⟩
        clear HP
        go_wp2_with fail
        refine HG.out.mono ?_
        rintro e w1 ⟨hb, rfl⟩
        have HB := Lib.hid hb
        have HI2 := Lib.hid (HI.out a HGP.out w1 hb)
        clear HG hb
        go_wp2_with fail
        refine HI2.out.mono ?_
        intro e w2 hi
        have he := hi.1
        subst he
        have HI3 := Lib.hid (hi.from HB.out)
        clear hi HI HI2
        go_wp2_with fail
        first | go_ret2 | skip
        exact HY.out _ _ HGP.out HI3.out
end Go.Proofs.Ythbdncojekpanaa
