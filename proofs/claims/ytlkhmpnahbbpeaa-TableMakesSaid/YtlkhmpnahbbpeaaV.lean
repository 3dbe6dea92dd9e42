/-
  A table of one's own written over.
-/
import Derived.Test.YtlkhmpnahbbpeaaMLoad
namespace Go.Proofs.Ytlkhmpnahbbpeaa
open Go.RowKit

/-- What lies outside [B, M) is as it was. -/
structure Bsd (B M : Nat) (w w' : World) : Prop where
  os : w'.os = w.os
  tape : w'.tape = w.tape
  output : w'.output = w.output
  size : w.heap.size ≤ w'.heap.size
  block : ∀ q, q < w.heap.size → (q < B ∨ M ≤ q) → w'.heap[q]? = w.heap[q]?
section
variable {B M : Nat} {w w1 w2 : World}
theorem Bsd.refl (B M : Nat) (w : World) : Bsd B M w w := ⟨rfl, rfl, rfl, Nat.le_refl _, fun _ _ _ => rfl⟩
theorem Bsd.alloc (h : Bsd B M w w1) (o : Obj) : Bsd B M w (w1.alloc o) :=
  ⟨h.os, h.tape, h.output, Nat.le_trans h.size (by simp), fun q hq hx => (Below.heap_alloc w1 o q (Nat.lt_of_lt_of_le hq h.size)).trans (h.block q hq hx)⟩
theorem Bsd.draw (h : Bsd B M w w1) (k : Nat) : Bsd B M w (w1.drewN k) := ⟨h.os, h.tape, h.output, h.size, h.block⟩
theorem Bsd.set (h : Bsd B M w w1) {g : Nat} (h1 : B ≤ g) (h2 : g < M) (j : Nat) (v : Value) : Bsd B M w (w1.setCell ⟨g, j, none⟩ v) :=
  ⟨h.os, h.tape, h.output, by simpa [World.setCell] using h.size, fun q hq hx => (Below.heap_setCell w1 ⟨g, j, none⟩ v q (by show q ≠ g; omega)).trans (h.block q hq hx)⟩
end
/-- Rows whose blocks lie in [B, M). -/
structure Bkm (w : World) (B M g n : Nat) (f : Nat → List Int) (s : Nat → Option Addr × Nat) : Prop where
  bks : Bks w B g n f s
  og : g < M
  om : ∀ i, i < n → ∀ q, (sl (s i) (f i)).ownBlock = some q → q < M
theorem Bkm.set {w : World} {B M g n : Nat} {f : Nat → List Int} {s : Nat → Option Addr × Nat} (h : Bkm w B M g n f s) {i gi ci : Nat} (hi : i < n) (hs : s i = (some ⟨gi, 0, none⟩, ci)) (j : Nat) (x : Int) :
    Bkm (w.setCell ⟨gi, j, none⟩ (.int .i64 x)) B M g n (fun k => if k = i then (f i).set j x else f k) s := by
  have ho := h.bks.own i hi
  have hob : (sl (s i) (f i)).ownBlock = some gi := by rw [hs]; rfl
  have ho' : w.ownsRow B 3 1 (.slice (some ⟨gi, 0, none⟩) (f i).length ci) (f i).length (il (f i)) := by
    have := ho
    rw [hs] at this
    exact this
  obtain ⟨hst, hg⟩ := ho'.stored j (.int .i64 x)
  have hlen : ∀ k, (if k = i then (f i).set j x else f k).length = (f k).length := by
    intro k
    by_cases e : k = i
    · subst e; simp
    · rw [if_neg e]
  have hsl : ∀ k, sl (s k) (if k = i then (f i).set j x else f k) = sl (s k) (f k) := fun k => by simp only [sl, hlen]
  have hslvs : slvs n (fun k => if k = i then (f i).set j x else f k) s = slvs n f s := by
    unfold slvs
    apply List.map_congr_left
    intro k _
    exact hsl k
  refine ⟨⟨?_, ?_, ?_⟩, h.og, ?_⟩
  · rw [hslvs]
    exact h.bks.out.kept hg (.inr fun e => own_ne h.bks.out ho (by decide) g rfl (hob.trans e.symm))
  · intro k hk
    by_cases e : k = i
    · subst e
      simp only [if_true]
      have e1 : il ((f k).set j x) = (il (f k)).set j (.int .i64 x) := by simp [il]
      rw [e1, List.length_set]
      have e2 : sl (s k) ((f k).set j x) = .slice (some ⟨gi, 0, none⟩) (f k).length ci := by rw [hs]; simp [sl]
      rw [e2]
      exact hst
    · simp only [if_neg e]
      refine (h.bks.own k hk).kept hg ?_
      cases hq : (sl (s k) (f k)).ownBlock with
      | none => exact .inl rfl
      | some q => exact .inr fun e' => h.bks.apart k i hk hi e q hq (hob.trans e'.symm)
  · intro a b ha hb hab q hq
    rw [hsl] at hq ⊢
    exact h.bks.apart a b ha hb hab q hq
  · intro k hk q hq
    rw [hsl] at hq
    exact h.om k hk q hq
theorem Bkm.grown {w w1 : World} {B M g n : Nat} {f : Nat → List Int} {s : Nat → Option Addr × Nat} (h : Bkm w B M g n f s) (hg : w.grownBy w1 none) : Bkm w1 B M g n f s :=
  ⟨h.bks.grown hg (by intro h; cases h) (fun _ _ _ _ h => by cases h), h.og, h.om⟩
set_option maxRecDepth 100000 in
set_option maxHeartbeats 2000000 in
theorem tspoil_any (B M g n : Nat) (f : Nat → List Int) (s : Nat → Option Addr × Nat) (Af : Option Addr) (wl cf : Nat) (sh : Int) (xs : List Value) (w : World) (h : Bkm w B M g n f s) (ho : w.ownsRow B 65 1 (.slice Af wl cf) wl xs) (hom : ∀ q, (Value.slice Af wl cf).ownBlock = some q → q < M) (hM : M ≤ w.heap.size)
    (hn : n ≤ 512) (hw : wl ≤ 64) (hf : ∀ k, (f k).length ≤ 512) :
    Calls Try.prog 13 #[.agg (tabA (some ⟨g, 0, none⟩) n n Af wl cf sh)] w fun e w' => e = .returned (.tuple #[]) ∧ Bsd B M w w' := by
  obtain ⟨hb1, hx1⟩ := tab_box w (tabA (some ⟨g, 0, none⟩) n n Af wl cf sh)
  have HK1 := Lib.hid (h.grown (Siv.grow_below hb1 none))
  have HO1 := Lib.hid (Siv.own_below ho hb1)
  have HS1 := Lib.hid ((Bsd.refl B M w).alloc (.cells (tabA (some ⟨g, 0, none⟩) n n Af wl cf sh) 29))
  have HFL := Lib.hid hf
  have HX1 := Lib.hid hx1
  have hgB := (h.bks.out.lt g rfl).1
  clear hx1 hb1 h ho hf
  go_enter Try.func13, Try.ntmps13
  go_upto_region 2 with (fail)
  change Code.wp _ _ _ _ (w.alloc (.cells (tabA (some ⟨g, 0, none⟩) n n Af wl cf sh) 29))
  generalize w.alloc (.cells (tabA (some ⟨g, 0, none⟩) n n Af wl cf sh) 29) = w1 at *
  go_loopw [2] (fun t wr => ∃ (i : Nat) (f' : Nat → List Int), i ≤ n ∧ t = .int .i64 i ∧ Bkm wr B M g n f' s ∧ (∀ k, (f' k).length = (f k).length) ∧ wr.ownsRow B 65 1 (.slice Af wl cf) wl xs ∧ Bsd B M w wr ∧ Tx wr w.heap.size (tabA (some ⟨g, 0, none⟩) n n Af wl cf sh)) (fun t _ => n - (intOf t).toNat)
  case atStart => exact ⟨0, f, Nat.zero_le _, rfl, HK1.out, fun _ => rfl, HO1.out, HS1.out, HX1.out⟩
  case round =>
    obtain ⟨i, f', hi, rfl, hk, hl, ho, hs, hx⟩ := hrel
    have HK := Lib.hid hk
    have HL := Lib.hid hl
    have HO := Lib.hid ho
    have HS := Lib.hid hs
    have HX := Lib.hid hx
    have t0 := cell_of_row wr w.heap.size 0 _ _ _ hx
    have t1 := cell_of_row wr w.heap.size 1 _ _ _ hx
    simp only [List.getElem?_toArray, List.getElem?_cons_succ, List.getElem?_cons_zero] at t0 t1
    clear hk hl ho hs hx
    by_cases hin : i < n
    · clear t1
      go_upto_region 5 with (fail)
      rename World => wo
      go_loopw [3] (fun t wq => ∃ (k : Nat) (f2 : Nat → List Int), k ≤ (f i).length ∧ t = .int .i64 k ∧ Bkm wq B M g n f2 s ∧ (∀ k, (f2 k).length = (f k).length) ∧ wq.ownsRow B 65 1 (.slice Af wl cf) wl xs ∧ Bsd B M w wq ∧ Tx wq w.heap.size (tabA (some ⟨g, 0, none⟩) n n Af wl cf sh)) (fun t _ => (f i).length - (intOf t).toNat)
      case atStart => exact ⟨0, f', Nat.zero_le _, rfl, HK.out, HL.out, HO.out, HS.out, HX.out⟩
      case round =>
        obtain ⟨k, f2, hk, rfl, hk2, hl, ho, hs, hx⟩ := hrel
        have HK2 := Lib.hid hk2
        have HL2 := Lib.hid hl
        have HO2 := Lib.hid ho
        have HS2 := Lib.hid hs
        have HX2 := Lib.hid hx
        clear t0
        have t0 := cell_of_row wr w.heap.size 0 _ _ _ hx
        simp only [List.getElem?_toArray, List.getElem?_cons_zero] at t0
        have r0 : wr.cell? ⟨g, i, none⟩ = some (sl (s i) (f2 i)) := by rw [hk2.bks.out.cellAt i (by omega), slvs_get hin]
        have hl2 := hl i
        have hfl := HFL.out i
        clear hk2 hl ho hs hx
        by_cases hki : k < (f i).length
        · obtain ⟨gi, hgi, hg1, hg2⟩ := Siv.own_some (HK2.out.bks.own i hin) (by rw [hl2]; omega)
          have hsi : s i = (some ⟨gi, 0, none⟩, (s i).2) := by rw [← hgi]
          have ho' := HK2.out.bks.own i hin
          have hgM := HK2.out.om i hin gi (by rw [hsi]; rfl)
          rw [show sl (s i) (f2 i) = .slice (some ⟨gi, 0, none⟩) (f2 i).length (s i).2 by rw [← hgi]] at r0 ho'
          have r1 : wr.cell? ⟨gi, k, none⟩ = some (.int .i64 ((f2 i)[k]'(by omega))) := (ho'.cellAt k (by omega)).trans (il_get _ k (by omega))
          have r2 := ho'.frozenAt k
          have HKN := Lib.hid (HK2.out.set hin hsi k (-7))
          have HLN := Lib.hid (show ∀ z, (if z = i then (f2 i).set k (-7) else f2 z).length = (f z).length from fun z => by
            by_cases e : z = i
            · subst e; simp [HL2.out]
            · rw [if_neg e, HL2.out])
          have HON := Lib.hid (HO2.out.kept (grow_cell wr gi k (.int .i64 (-7))) (by
            cases hq : (Value.slice Af wl cf).ownBlock with
            | none => exact .inl rfl
            | some q => exact .inr fun e => own_ne HO2.out ho' (by decide) q hq e.symm))
          have HSN := Lib.hid (HS2.out.set (by omega : B ≤ gi) hgM k (.int .i64 (-7)))
          have HXN := Lib.hid (show Tx (wr.setCell ⟨gi, k, none⟩ (.int .i64 (-7))) w.heap.size (tabA (some ⟨g, 0, none⟩) n n Af wl cf sh) from (Below.heap_setCell wr ⟨gi, k, none⟩ _ w.heap.size (by show w.heap.size ≠ gi; omega)).trans HX2.out)
          generalize (f2 i)[k]'(by omega) = old at r1
          clear ho' hgi hsi HK2 HL2 HO2 HS2 HX2
          rw [hl2] at r0
          generalize (f i).length = fl at *
          go_wp2_with fail
          go_roundw
          case rel => exact ⟨k + 1, _, hki, by go_num, HKN.out, HLN.out, HON.out, HSN.out, HXN.out⟩
          case measure => simp [intOf]; omega
        · obtain rfl : k = (f i).length := by omega
          simp only [sl] at r0
          rw [hl2] at r0
          go_wp2_with fail
          go_roundw
          case rel => exact ⟨i + 1, f2, hin, by go_num, HK2.out, HL2.out, HO2.out, HS2.out, HX2.out⟩
          case measure => simp [intOf]; omega
    · obtain rfl : i = n := by omega
      clear t1
      go_upto_region 9 with (fail)
      rename World => wo
      clear t0
      go_loopw [4] (fun t wq => ∃ (k : Nat) (ys : List Value), k ≤ wl ∧ t = .int .i64 k ∧ wq.ownsRow B 65 1 (.slice Af wl cf) wl ys ∧ Bsd B M w wq ∧ Tx wq w.heap.size (tabA (some ⟨g, 0, none⟩) i i Af wl cf sh)) (fun t _ => wl - (intOf t).toNat)
      case atStart => exact ⟨0, xs, Nat.zero_le _, rfl, HO.out, HS.out, HX.out⟩
      case round =>
        obtain ⟨k, ys, hk, rfl, ho, hs, hx⟩ := hrel
        have t1 := cell_of_row wr w.heap.size 1 _ _ _ hx
        simp only [List.getElem?_toArray, List.getElem?_cons_succ, List.getElem?_cons_zero] at t1
        have HO2 := Lib.hid ho
        have HS2 := Lib.hid hs
        have HX2 := Lib.hid hx
        clear ho hs hx
        by_cases hkw : k < wl
        · obtain ⟨gw, rfl, hg1, hg2⟩ := Siv.own_some HO2.out (by omega)
          have hgM := hom gw rfl
          obtain ⟨old, r1⟩ : ∃ v, wr.cell? ⟨gw, k, none⟩ = some v := ⟨_, (HO2.out.cellAt k (by omega)).trans (List.getElem?_eq_getElem (by rw [HO2.out.1]; omega))⟩
          have r2 := HO2.out.frozenAt k
          have HON := Lib.hid (HO2.out.stored k (.int .u64 7)).1
          have HSN := Lib.hid (HS2.out.set hg1 hgM k (.int .u64 7))
          have HXN := Lib.hid (show Tx (wr.setCell ⟨gw, k, none⟩ (.int .u64 7)) w.heap.size (tabA (some ⟨g, 0, none⟩) i i (some ⟨gw, 0, none⟩) wl cf sh) from (Below.heap_setCell wr ⟨gw, k, none⟩ _ w.heap.size (by show w.heap.size ≠ gw; omega)).trans HX2.out)
          clear HO2 HS2 HX2
          go_wp2_with fail
          go_roundw
          case rel => exact ⟨k + 1, _, hkw, by go_num, HON.out, HSN.out, HXN.out⟩
          case measure => simp [intOf]; omega
        · obtain rfl : k = wl := by omega
          go_wp2_with fail
          go_end0
          exact ⟨rfl, HS2.out⟩
end Go.Proofs.Ytlkhmpnahbbpeaa
