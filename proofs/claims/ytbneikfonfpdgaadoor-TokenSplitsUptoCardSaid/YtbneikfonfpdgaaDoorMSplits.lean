/-
  The law TokenSplits, walked.
-/
import Derived.Test.YtbneikfonfpdgaaDoorN
namespace Go.Proofs.YtbneikfonfpdgaaDoor
open Go.RowKit

theorem own_set {w : World} {B n c g k : Nat} {xs : List Value} (h : w.ownsRow B 9 1 (.slice (some ⟨g, 0, none⟩) n c) n xs) (hk : k < n) (v : Value) :
    (∃ u, w.cell? ⟨g, k, none⟩ = some u) ∧ w.frozen? ⟨g, k, none⟩ = false ∧ ∃ ys, (w.setCell ⟨g, k, none⟩ v).ownsRow B 9 1 (.slice (some ⟨g, 0, none⟩) n c) n ys := by
  obtain ⟨hl, h⟩ := h
  rcases h with ⟨hv, _⟩ | ⟨g', cap, cur, hv, h1, h2, h3, h4, h5, h6⟩
  · cases hv
  · injection hv with e1 _ e2
    injection e1 with e1
    injection e1 with e1
    subst e1 e2
    have hkc : k < cur.size := by omega
    refine ⟨⟨cur[k], by rw [Lib.cell_of_heap h2]; simp [hkc]⟩, Lib.frozen_of_heap h2 k, ((cur.setIfInBounds k v).toList.take (n * 1)), ⟨?_, .inr ⟨g, c, cur.setIfInBounds k v, rfl, h1, heap_setCell_same w g k _ _ v h2, h3, h4, by simpa using h5, rfl⟩⟩⟩
    rw [List.length_take]
    simp
    omega
theorem row_lt {w : World} {B n c : Nat} {A : Option Addr} {xs : List Value} (h : w.ownsRow B 9 1 (.slice A n c) n xs) : ∀ k, row A = some k → B ≤ k ∧ k < w.heap.size := by
  intro k hk
  exact h.lt k (by rw [row_own]; exact hk)
set_option maxRecDepth 100000 in
set_option maxHeartbeats 2000000 in
theorem splits_any (t : Str) (A : Option Addr) (n c : Nat) (ps : List Str) (w : World) (ht : t.length ≤ 1048576) (h : Src w (fun k => k < w.heap.size) A n c (strs ps)) (hl : sumL ps ≤ 1048576) (hm : Ml w) :
    Calls Tryd.prog 4 #[str t, .slice A n c] w fun e w' => e = .returned (.bool true) ∧ Below w.heap.size w w' := by
  have HA := Lib.hid (awake_any w hm)
  have hnl : n ≤ 1048576 := by
    have h1 : ps.length ≤ sumL ps := by
      clear h hl HA
      induction ps with
      | nil => simp
      | cons p ps ih => simp only [List.length_cons, sumL]; omega
    have h2 := h.len
    simp at h2
    omega
  have HS := Lib.hid h
  have HL := Lib.hid hl
  have HCT := Lib.hid (cuts_len t)
  clear h hl hm
  go_enter Tryd.func4, Tryd.ntmps4
  go_wp2_with fail
  refine HA.out.mono ?_
  rintro e w1 ⟨rfl, hb1⟩
  have HB1 := Lib.hid hb1
  clear hb1
  go_wp2_with fail
  refine (psplit_any t w1 (by omega)).mono ?_
  rintro e w2 ⟨A2, c2, rfl, ho2, hb2⟩
  have HB2 := Lib.hid (HB1.out.trans (hb2.mono HB1.out.size))
  have HO2 := Lib.hid ho2
  have h12 := HB1.out.size
  have h22 := hb2.size
  clear ho2 hb2
  go_wp2_with fail
  refine (psplit_any t w2 (by omega)).mono ?_
  rintro e w3 ⟨A3, c3, rfl, ho3, hb3⟩
  have HB3 := Lib.hid (HB2.out.trans (hb3.mono HB2.out.size))
  have HO3 := Lib.hid ho3
  have HP := Lib.hid (own_below HO2.out hb3)
  have h33 := hb3.size
  clear ho3 hb3
  go_wp2_with fail
  -- the first list is spoilt, cell by cell
  go_loopw [8] (fun i wr => ∃ k : Nat, k ≤ (cuts t).length ∧ i = .int .i64 (k : Int) ∧ (∃ xs, wr.ownsRow w1.heap.size 9 1 (.slice A2 (cuts t).length c2) (cuts t).length xs) ∧ w3.grownBy wr (row A2)) (fun i _ => (cuts t).length - (intOf i).toNat)
  case atStart => exact ⟨0, Nat.zero_le _, rfl, ⟨_, HP.out⟩, World.grownBy.refl _ _⟩
  case round =>
    obtain ⟨k, hk, rfl, ⟨xs, hown⟩, hg⟩ := hrel
    have HO := Lib.hid hown
    have HG := Lib.hid hg
    clear hg
    have hct : (cuts t).length ≤ 1048577 := by have := HCT.out; omega
    by_cases hlt : k < (cuts t).length
    · obtain ⟨g, rfl⟩ : ∃ g, A2 = some ⟨g, 0, none⟩ := by
        rcases hown.2 with ⟨_, h0⟩ | ⟨g, cap, cur, hv, _⟩
        · omega
        · injection hv with h1; exact ⟨g, h1⟩
      obtain ⟨⟨u, hc⟩, hf, ys, hy⟩ := own_set hown hlt (.string ⟨#[115, 112, 111, 105, 108, 116]⟩)
      have HY := Lib.hid hy
      have HG2 := Lib.hid (HG.out.trans (show wr.grownBy (wr.setCell ⟨g, k, none⟩ (.string ⟨#[115, 112, 111, 105, 108, 116]⟩)) (row (some ⟨g, 0, none⟩)) from
        ⟨rfl, rfl, rfl, by simp [World.setCell], fun j _ hj => Below.heap_setCell _ _ _ _ (fun e => hj (by simp [row]; exact e))⟩))
      clear hown hy
      go_wp2
      exact ⟨⟨k + 1, by omega, by go_num, ⟨ys, HY.out⟩, HG2.out⟩, by simp [intOf]; omega⟩
    · obtain rfl : k = (cuts t).length := by omega
      clear hown
      have HLT := Lib.hid (row_lt HP.out)
      have HL2 := Lib.hid (row_lt HO2.out)
      have HL3 := Lib.hid (row_lt HO3.out)
      have HBR := Lib.hid (HB3.out.grown HG.out HB3.out.size (fun j hj => by have := HLT.out j hj; omega))
      have HS3 := Lib.hid (((Src.of_own HO3.out).keep (w' := wr) (fun j hj hj2 => HG.out.block j hj2 (by intro e; have := HL2.out j e.symm; omega))).lt)
      have HPS := Lib.hid ((HS.out.below HBR.out (fun j hj => hj)).lt)
      have hrs := HG.out.size
      have HRS := Lib.hid (rsplit_any t wr (by omega))
      have HCC := Lib.hid hct
      clear hct
      generalize cuts t = ct at *
      go_wp2_with fail
      refine HRS.out.mono ?_
      rintro e w4 ⟨A4, c4, rfl, ho4, hb4⟩
      have HB4 := Lib.hid (HBR.out.trans (hb4.mono HBR.out.size))
      have HS4 := Lib.hid ((Src.of_own ho4).lt)
      have HS34 := Lib.hid ((HS3.out.below hb4 (fun j hj => hj)).lt)
      have HPS4 := Lib.hid ((HPS.out.below hb4 (fun j hj => hj)).lt)
      have hctl := HO3.out.1
      clear ho4 hb4
      have HSY := Lib.hid (same_yes _ _ A3 A4 ct.length c3 c4 ct w4 HS34.out HS4.out (by have := HCT.out; omega))
      go_wp2_with fail
      refine HSY.out.mono ?_
      rintro e w5 ⟨rfl, hb5⟩
      have HB5 := Lib.hid (HB4.out.trans (hb5.mono HB4.out.size))
      have HPS5 := Lib.hid ((HPS4.out.below hb5 (fun j hj => hj)).lt)
      clear hb5
      have HJ := Lib.hid (join_any _ A n c ps w5 HPS5.out (by omega) (by have := HL.out; omega))
      go_wp2_with fail
      refine HJ.out.mono ?_
      rintro e w6 ⟨rfl, hb6⟩
      have HB6 := Lib.hid (HB5.out.trans (hb6.mono HB5.out.size))
      have HPS6 := Lib.hid ((HPS5.out.below hb6 (fun j hj => hj)).lt)
      clear hb6
      have HRJ := Lib.hid (rjoin_any _ A n c ps w6 HPS6.out (by omega) (by have := HL.out; omega))
      go_wp2_with fail
      refine HRJ.out.mono ?_
      rintro e w7 ⟨rfl, hb7⟩
      have HB7 := Lib.hid (HB6.out.trans (hb7.mono HB6.out.size))
      clear hb7
      generalize jn ps = j at *
      go_wp2
      go_ret
      exact ⟨rfl, HB7.out⟩
end Go.Proofs.YtbneikfonfpdgaaDoor
