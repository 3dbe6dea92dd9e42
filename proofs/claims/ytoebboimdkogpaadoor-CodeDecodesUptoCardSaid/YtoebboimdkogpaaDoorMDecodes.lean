/-
  What any bytes are as instructions: the law's walk.
-/
import Derived.Test.YtoebboimdkogpaaDoorY
import Derived.Test.YtoebboimdkogpaaDoorTb
namespace Go.Proofs.YtoebboimdkogpaaDoor
open Go.RowKit

theorem src_lent {w : World} {g : Nat} {l : Str} (h : w.heap[g]? = some (.cells (lentCells l).toArray 5 (0, 0))) : Src w (fun k => k = g) (some ⟨g, 0, none⟩) l.length (l.length + 3) (cells l) := by
  refine ⟨cells_len l, (by intro h; cases h), by omega, (by intro ad h _; cases h; rfl), ?_⟩
  intro ad ha j u hu
  cases ha
  have hj : j < (cells l).length := (List.getElem?_eq_some_iff.1 hu).1
  rw [plainAdd, Nat.zero_add, cell_of_row _ _ j _ _ _ h]
  simp only [lentCells, List.getElem?_toArray]
  rw [List.getElem?_append_left hj]
  exact hu
theorem isl_nil (w : World) (P : Nat → Prop) : Isl w P none 0 0 [] := ⟨rfl, fun _ => ⟨rfl, rfl⟩, Nat.le_refl _, (by intro ad h; cases h), (by intro ad h; cases h)⟩
theorem own_grown {w w' : World} {B g sz n : Nat} {e : TypeId} {v : Value} {xs : List Value} (h : w.ownsRow B e sz v n xs) (hg : w.grownBy w' (some g)) (hlt : g < B) : w'.ownsRow B e sz v n xs := by
  refine ⟨h.1, ?_⟩
  rcases h.2 with h1 | ⟨g', cap, cur, hv, hb, hh, hx⟩
  · exact .inl h1
  · exact .inr ⟨g', cap, cur, hv, hb, (hg.block g' (by
      rcases Nat.lt_or_ge g' w.heap.size with hlt | hge
      · exact hlt
      · rw [Array.getElem?_eq_none hge] at hh; cases hh) (by intro e; injection e; omega)).trans hh, hx⟩

set_option maxRecDepth 100000 in
set_option maxHeartbeats 4000000 in
theorem decodes_any (A : Option Addr) (n c : Nat) (b : Str) (w : World) (h : Src w (fun k => k < w.heap.size) A n c (cells b)) (hn : n ≤ 1048576) (he : Env w) :
    Calls Tryd.prog 4 #[.slice A n c] w fun e w' => e = .returned (.bool true) ∧ Below w.heap.size w w' := by
  have hl : b.length = n := by simpa [cells_len] using h.len
  subst hl
  have H := Lib.hid h
  have HE := Lib.hid he
  have HA := Lib.hid (awake_any w he)
  have hcap := h.cap
  clear h he
  go_enter Tryd.func4, Tryd.ntmps4
  go_wp2_with fail
  refine HA.out.mono ?_
  rintro e w1 ⟨rfl, hb1⟩
  have HB1 := Lib.hid hb1
  clear hb1 HA
  go_wp2_with fail
  refine (lent_any _ A b.length c b w1 (H.out.below HB1.out (fun _ h => h)) (by omega)).mono ?_
  rintro e w2 ⟨g, rfl, hh2, hb2, hg2⟩
  have HB2 := Lib.hid (HB1.out.trans (hb2.mono HB1.out.size))
  have HH2 := Lib.hid hh2
  have HG2 := Lib.hid (show w.heap.size ≤ g from Nat.le_trans HB1.out.size hg2)
  clear hb2 hh2 hg2 HB1
  go_wp2_with fail
  refine (decode_any _ _ _ _ b w2 (src_lent HH2.out) (by omega) (HE.out.below HB2.out).sh).mono ?_
  have hgl : g < w2.heap.size := by
    rcases Nat.lt_or_ge g w2.heap.size with hlt | hge
    · exact hlt
    · have := HH2.out
      rw [Array.getElem?_eq_none hge] at this; cases this
  have HGL := Lib.hid hgl
  clear hgl
  rintro e w3 ⟨hb3, hd3⟩
  have HB3 := Lib.hid (HB2.out.trans (hb3.mono HB2.out.size))
  have HH3 := Lib.hid ((hb3.block g HGL.out).trans HH2.out)
  have HS3 := Lib.hid (H.out.below HB3.out (fun _ h => h))
  have HBK := Lib.hid (back_any' (fun k => k < w.heap.size) g A b.length c b w3 HS3.out HH3.out (by have := HG2.out; omega) (by omega))
  have HRD := Lib.hid (fun (w4 : World) (h4 : Below w.heap.size w w4) => rdecode_any _ A b.length c b w4 (H.out.below h4 (fun _ h => h)) (by omega))
  clear hb3 HB2 HH2 HH3 HS3
  rcases hd3 with ⟨hq, rfl⟩ | ⟨hq, A3, c3, rfl, ho3⟩
  · have HQ := Lib.hid hq
    clear hq
    go_wp2_with fail
    refine HBK.out.mono ?_
    rintro e w4 ⟨rfl, hg4⟩
    have HB4 := Lib.hid (HB3.out.grown hg4 HB3.out.size (fun k hk => by cases hk; exact HG2.out))
    clear hg4 HBK HB3
    go_wp2_with fail
    refine (HRD.out w4 HB4.out).mono ?_
    rintro e w5 ⟨hb5, ⟨hq5, rfl⟩ | ⟨hq5, _⟩⟩
    · have HB5 := Lib.hid (HB4.out.trans (hb5.mono HB4.out.size))
      clear hb5 hq5 HRD HB4
      go_wp2_with fail
      refine (rsame_any (fun _ => True) (fun _ => True) none 0 0 [] none 0 0 [] _ (isl_nil _ _) (isl_nil _ _) (by omega)).mono ?_
      rintro e w6 ⟨rfl, hb6⟩
      have HB6 := Lib.hid (HB5.out.trans (hb6.mono HB5.out.size))
      clear hb6
      go_wp2_with fail
      go_ret
      exact ⟨rfl, HB6.out⟩
    · rw [HQ.out] at hq5
      cases hq5
  · have HQ := Lib.hid hq
    have HO3 := Lib.hid ho3
    clear hq ho3
    go_wp2_with fail
    refine HBK.out.mono ?_
    rintro e w4 ⟨rfl, hg4⟩
    have HB4 := Lib.hid (HB3.out.grown hg4 HB3.out.size (fun k hk => by cases hk; exact HG2.out))
    have HO4 := Lib.hid (own_grown HO3.out hg4 HGL.out)
    clear hg4 HBK HB3 HO3
    go_wp2_with fail
    refine (HRD.out w4 HB4.out).mono ?_
    rintro e w5 ⟨hb5, ⟨hq5, _⟩ | ⟨_, A5, c5, rfl, ho5⟩⟩
    · rw [HQ.out] at hq5
      cases hq5
    · have HB5 := Lib.hid (HB4.out.trans (hb5.mono HB4.out.size))
      have HI4 := Lib.hid ((Isl.of_own HO4.out).lt.below hb5 (fun _ h => h))
      have HI5 := Lib.hid (Isl.of_own ho5)
      have hlen : (decI b).length ≤ 4611686018427387904 := by
        rw [decI_len _ b (Nat.le_refl _)]
        omega
      have HLEN := Lib.hid hlen
      clear hb5 ho5 HRD HB4 HO4 hlen
      go_wp2_with fail
      refine (rsame_any _ _ A3 _ c3 (decI b) A5 _ c5 (decI b) _ HI4.out HI5.out HLEN.out).mono ?_
      rintro e w6 ⟨rfl, hb6⟩
      have HB6 := Lib.hid (HB5.out.trans (hb6.mono HB5.out.size))
      have hdd : decide (decI b = decI b) = true := by simp
      clear hb6
      go_wp2_with fail
      go_ret
      exact ⟨by simp, HB6.out⟩
end Go.Proofs.YtoebboimdkogpaaDoor
