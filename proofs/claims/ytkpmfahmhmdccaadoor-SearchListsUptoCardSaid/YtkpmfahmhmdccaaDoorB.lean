/-
  The closures: a path that is put behind others, and directories.
-/
import Derived.Test.YtkpmfahmhmdccaaDoorA
namespace Go.Proofs.YtkpmfahmhmdccaaDoor
open Go.RowKit

/-- A list of texts that grows in the box g; the blocks of P are others. -/
structure PB (P : Nat → Prop) (w : World) (g : Nat) (L : List Str) : Prop where
  box : ∃ A c, Bx w g #[.slice A L.length c] 22 ∧ w.ownsRow 0 9 1 (.slice A L.length c) L.length (strs L) ∧ ∀ k, P k → (Value.slice A L.length c).ownBlock ≠ some k
  pr : ∀ k, P k → k < w.heap.size ∧ k ≠ g
section
variable {P Q : Nat → Prop} {w w' : World} {g : Nat} {L : List Str}
theorem PB.weak (h : PB P w g L) (hq : ∀ k, Q k → P k) : PB Q w g L := by
  obtain ⟨⟨A, c, h1, h2, h3⟩, h4⟩ := h
  exact ⟨⟨A, c, h1, h2, fun k hk => h3 k (hq k hk)⟩, fun k hk => h4 k (hq k hk)⟩
theorem PB.below (h : PB P w g L) (hb : Below w.heap.size w w') : PB P w' g L := by
  obtain ⟨⟨A, c, h1, h2, h3⟩, h4⟩ := h
  exact ⟨⟨A, c, h1.below hb, Fil.own_below h2 hb, h3⟩, fun k hk => ⟨Nat.lt_of_lt_of_le (h4 k hk).1 hb.size, (h4 k hk).2⟩⟩
/-- A new block is another one. -/
theorem PB.more (h : PB P w g L) (k : Nat) (hk : k = w.heap.size) (o : Obj) : PB (fun j => P j ∨ j = k) (w.alloc o) g L := by
  subst hk
  have hb := (Below.refl w.heap.size w).alloc (Nat.le_refl _) o
  obtain ⟨⟨A, c, h1, h2, h3⟩, h4⟩ := h
  have hlt := h1.lt
  refine ⟨⟨A, c, h1.below hb, Fil.own_below h2 hb, ?_⟩, ?_⟩
  · rintro k (hk | rfl)
    · exact h3 k hk
    · intro e
      have := (h2.lt _ e).2
      omega
  · have hs : (w.alloc o).heap.size = w.heap.size + 1 := by simp
    rintro k (hk | rfl)
    · have := (h4 k hk).1; exact ⟨by omega, (h4 k hk).2⟩
    · exact ⟨by omega, by omega⟩
theorem Kept.ml (hk : Kept P w w') (h : Ml w) (h0 : P 0) : Ml w' := by
  obtain ⟨m, hm⟩ := h
  exact ⟨m, (World.cell?_of_block (hk.block 0 h0)).trans hm⟩
end
theorem grown_set (w : World) (g : Nat) (v : Value) : w.grownBy (w.setCell ⟨g, 0, none⟩ v) (some g) :=
  ⟨rfl, rfl, rfl, by simp [World.setCell], fun k _ hne => Below.heap_setCell w ⟨g, 0, none⟩ v k (fun e => hne (by rw [e]))⟩
set_option maxRecDepth 100000 in
set_option maxHeartbeats 1000000 in
theorem add_any (P : Nat → Prop) (p : Str) (g : Nat) (L : List Str) (w : World) (hp : p.length ≤ 140737488351232) (h : PB P w g L) (hm : Ml w) (hL : (L.length + 1) * 16 ≤ 140737488355328) :
    Calls Tryd.prog 26 #[str p, .pointer (some ⟨g, 0, none⟩)] w fun e w' => e = .returned (.tuple #[]) ∧ PB P w' g (L ++ addP p) ∧ Kept P w w' := by
  have HC := Lib.hid (clean_any p w (by omega) hm)
  have HP := Lib.hid h
  clear h hm
  rcases clean_zero p with h0 | h0
  · have HA := Lib.hid (addP_yes h0)
    rw [h0] at HC
    generalize (Fil.clean p).1 = q at *
    clear h0
    obtain ⟨i0, hi0, hz0, hz1, hz2⟩ := info_parts Fil.Tryd.info_string
    go_enter Tryd.func26, Tryd.ntmps26
    go_wp2_with fail
    refine HC.out.mono ?_
    rintro e w1 ⟨rfl, hb⟩
    have HP1 := Lib.hid (HP.out.below hb)
    have HK := Lib.hid (kept_of hb (fun k hk => (HP.out.pr k hk).1))
    obtain ⟨⟨A, c, h1, h2, h3⟩, h4⟩ := HP1.out
    have HBX := Lib.hid h1
    have HO := Lib.hid h2
    have HNB := Lib.hid h3
    have HPR := Lib.hid h4
    clear hb h1 h2 h3 h4 HC
    have k0 : w1.cell? ⟨g, 0, none⟩ = some (.slice A L.length c) := HBX.out.c 0
    have HBA := Lib.hid ((Below.refl w1.heap.size w1).alloc (Nat.le_refl _) (.cells #[str q] 9))
    have HOA := Lib.hid (HO.out.alloc (.cells #[str q] 9))
    have HCN := Lib.hid (cells_new w1 [str q] 9)
    have HSZ := Lib.hid (show (w1.alloc (.cells #[str q] 9)).heap.size = w1.heap.size + 1 by simp)
    have m1 : L.length + 1 ≤ maxLen := by simp only [maxLen]; omega
    have hne : ∀ (X : World), (w1.alloc (.cells #[str q] 9)).grownBy X (Value.slice A L.length c).ownBlock → Bx X g #[.slice A L.length c] 22 := fun X hg => by
      have hlt := HBX.out.lt
      have hs := HSZ.out
      refine (HBX.out.alloc _).keep (hg.block g (by omega) ?_)
      intro e
      rcases HO.out.2 with ⟨hv, _⟩ | ⟨b, cap, cur, hv, _, hh, _⟩
      · rw [hv] at e; cases e
      · rw [hv] at e
        injection e with e
        have e2 : g = b := e
        have h5 : w1.heap[g]? = _ := HBX.out
        rw [e2, hh] at h5
        simp at h5
    have HNE := Lib.hid hne
    clear hne
    go_wp2_with (at_builtin; refine wpList_append_src rfl (.tmp 12) (.tmp 14) 22 rfl 0 9 i0 (.string ⟨#[]⟩) 16 Tryd.underlying22 hi0 hz0 hz1 hz2 rfl (.slice A L.length c) L.length (strs L) rfl HOA.out (fun _ => True) _ 1 1 [str q] rfl ⟨rfl, (by intro h; cases h), Nat.le_refl _, (by intro _ _ _; trivial), (by intro ad h; cases h; exact HCN.out)⟩ (by intro u hu; simp at hu; subst hu; rfl) m1 hL (Nat.zero_le _) ?_; intro v' w2 hown hg hat; obtain ⟨A', c', rfl⟩ := own_slice hown; have HO2 := Lib.hid hown; have HG2 := Lib.hid hg; have HAT := Lib.hid hat; have k2 : w2.cell? ⟨g, 0, none⟩ = some (.slice A L.length c) := (HNE.out w2 hg).c 0; have k3 := (HNE.out w2 hg).f 0; clear hown hg hat)
    go_end0
    have hB2 : Bx w2 g #[.slice A L.length c] 22 := HNE.out w2 HG2.out
    have hsz2 := HG2.out.size
    have hs := HSZ.out
    have hpl : (L ++ addP p).length = L.length + 1 := by rw [HA.out]; simp
    refine ⟨rfl, ⟨⟨A', c', ?_, ?_, ?_⟩, ?_⟩, ?_⟩
    · rw [hpl]
      exact heap_setCell_same w2 g 0 _ _ _ hB2
    · rw [hpl, HA.out, strs_app]
      refine HO2.out.kept (row := some g) (grown_set w2 g _) (.inr ?_)
      intro e
      rcases HO2.out.2 with ⟨hv, _⟩ | ⟨b, cap, cur, hv, _, hh, _⟩
      · rw [hv] at e; cases e
      · rw [hv] at e
        injection e with e
        have e2 : b = g := e
        have h5 : w2.heap[g]? = _ := hB2
        rw [← e2, hh] at h5
        simp at h5
    · rw [hpl]
      intro k hk e
      rcases HAT.out with h | h
      · rw [h] at e; exact HNB.out k hk e
      · rw [h] at e
        injection e with e
        have := (HPR.out k hk).1
        omega
    · intro k hk
      have := HPR.out k hk
      exact ⟨by simp [World.setCell]; omega, this.2⟩
    · refine HK.out.trans ⟨?_, ?_, ?_, ?_, ?_⟩
      · exact HG2.out.os
      · exact HG2.out.tape
      · exact HG2.out.output
      · simp [World.setCell]; omega
      · intro k hk
        have hkk := HPR.out k hk
        rw [Below.heap_setCell w2 ⟨g, 0, none⟩ _ k hkk.2, HG2.out.block k (by omega) (fun e => HNB.out k hk e.symm)]
        exact HBA.out.block k hkk.1
  · have HA := Lib.hid (addP_no (p := p) (by rw [h0]; decide))
    rw [h0] at HC
    generalize (Fil.clean p).1 = q at *
    clear h0
    go_enter Tryd.func26, Tryd.ntmps26
    go_wp2_with fail
    refine HC.out.mono ?_
    rintro e w1 ⟨rfl, hb⟩
    have HP1 := Lib.hid (HP.out.below hb)
    have HK := Lib.hid (kept_of hb (fun k hk => (HP.out.pr k hk).1))
    clear hb HC
    go_wp2
    go_end0
    refine ⟨rfl, ?_, HK.out⟩
    rw [HA.out, List.append_nil]
    exact HP1.out
end Go.Proofs.YtkpmfahmhmdccaaDoor
