/-
  The law GraphTwice, walked.
-/
import Derived.Test.YtkaejcpnlphdpaaMLeaves
namespace Go.Proofs.Ytkaejcpnlphdpaa
open Go.RowKit

set_option maxRecDepth 100000 in
set_option maxHeartbeats 8000000 in
theorem twice_any (Q : Nat → Prop) (E : Option Addr) (ce : Nat) (ws : Nat → Option Addr × Nat) (g : Gr) (root other : Int) (w : World) (h : Ed w Q E ce ws g) :
    Calls Try.prog 8 #[.slice E g.length ce, .int .i64 root, .int .i64 other] w fun e w' => e = .returned (.bool true) ∧ Below w.heap.size w w' := by
  have HE := Lib.hid h.lt
  clear h
  go_enter Try.func8, Try.ntmps8
  go_wp2_with fail
  refine (awake_any w).mono ?_
  rintro e w1 ⟨rfl, hb1⟩
  have HB1 := Lib.hid hb1
  have HE1 := Lib.hid (HE.out.below hb1 (fun _ h => h)).lt
  clear hb1
  go_wp2_with fail
  refine (few_any _ _ _ _ _ w1 HE1.out).mono ?_
  rintro e w2 ⟨⟨fb, rfl⟩, hb2⟩
  have HB2 := Lib.hid (HB1.out.trans (hb2.mono HB1.out.size))
  have HE2 := Lib.hid (HE1.out.below hb2 (fun _ h => h)).lt
  clear hb2 HB1 HE1
  cases fb with
  | false =>
    go_wp2_with fail
    go_ret
    exact ⟨rfl, HB2.out⟩
  | true =>
    have HEW := Lib.hid (fun W (hb : Below w2.heap.size w2 W) => HE2.out.below hb (fun _ h => h))
    have HN0 := Lib.hid (fun W => src_nil W (fun _ => True))
    cases hok : okP g root [] with
    | false =>
      have HP := Lib.hid (fun W (hb : Below w2.heap.size w2 W) => post_no _ _ E none ce 0 ws g root [] W (HEW.out W hb) (HN0.out W) (by simp) hok)
      go_wp2_with fail
      refine (HP.out w2 (Below.refl _ _)).mono ?_
      rintro e w3 ⟨rfl, hb3⟩
      have HB3 := Lib.hid hb3
      clear hb3
      cases hoo : okP g other [] with
      | false =>
        have HR := Lib.hid (post_no _ _ E none ce 0 ws g other [] w3 (HEW.out w3 HB3.out) (HN0.out w3) (by simp) hoo)
        go_wp2_with fail
        refine HR.out.mono ?_
        rintro e w4 ⟨rfl, hb4⟩
        have HB4 := Lib.hid (HB3.out.trans (hb4.mono HB3.out.size))
        clear hb4
        go_wp2_with fail
        refine (HP.out w4 HB4.out).mono ?_
        rintro e w5 ⟨rfl, hb5⟩
        have HB5 := Lib.hid (HB4.out.trans (hb5.mono HB4.out.size))
        clear hb5
        go_wp2_with fail
        go_ret
        exact ⟨rfl, HB2.out.trans (HB5.out.mono HB2.out.size)⟩
      | true =>
        obtain ⟨C', o', hD⟩ := post_D g other []
        have HR := Lib.hid (post_ok _ _ E none ce 0 ws g other [] C' o' w3 (HEW.out w3 HB3.out) (HN0.out w3) (by simp) hoo (hD hoo))
        clear hD
        go_wp2_with fail
        refine HR.out.mono ?_
        rintro e w4 ⟨O4, co4, rfl, ho4, hb4⟩
        have HB4 := Lib.hid (HB3.out.trans (hb4.mono HB3.out.size))
        clear hb4 ho4
        go_wp2_with fail
        refine (HP.out w4 HB4.out).mono ?_
        rintro e w5 ⟨rfl, hb5⟩
        have HB5 := Lib.hid (HB4.out.trans (hb5.mono HB4.out.size))
        clear hb5
        go_wp2_with fail
        go_ret
        exact ⟨rfl, HB2.out.trans (HB5.out.mono HB2.out.size)⟩
    | true =>
      obtain ⟨C1, o1, hD1⟩ := post_D g root []
      have hd1 := hD1 hok
      obtain ⟨hrt, -, hxx⟩ := okP_parts hok
      have hl1 := hd1.left (n := g.length) (fun y => right_adj hrt y) (by intro x hx; cases hx) (by unfold nodesB; simp [hxx]) rfl (Full.nil _)
      have hroot : root ∈ o1 := by
        rcases hd1.last with ⟨h1, _⟩ | ⟨_, C2, o2, _, _, rfl⟩
        · exact absurd h1 (by simp [once])
        · simp
      have hg3 := right_len hrt
      have ho1 : o1.length ≤ 256 := Nat.le_trans hl1.2.1.le hg3
      have hokc : okP g root o1 = true := by unfold okP okB; rw [hrt, hl1.1, hxx]; rfl
      have HPA := Lib.hid (post_ok _ _ E none ce 0 ws g root [] C1 o1 w2 HE2.out (HN0.out w2) (by simp) hok hd1)
      have HPC := Lib.hid (fun W (hb : Below w2.heap.size w2 W) A c (hs : Src W (fun k => k < W.heap.size) A o1.length c (ints o1)) => post_ok _ _ E A ce c ws g root o1 (once [] o1) [] W (HEW.out W hb) hs (by omega) hokc (D.skip ((once_mem o1 [] root).2 (.inr hroot)) (D.nil _ _)))
      clear hD1 hd1 hrt hxx hl1 hroot hok hokc
      go_wp2_with fail
      refine HPA.out.mono ?_
      rintro e w3 ⟨O3, co3, rfl, ho3, hb3⟩
      have HB3 := Lib.hid hb3
      have HO3 := Lib.hid (Src.of_own ho3).lt
      clear hb3 ho3 HPA
      cases hoo : okP g other o1 with
      | false =>
        have HR := Lib.hid (post_no _ _ E O3 ce co3 ws g other o1 w3 (HEW.out w3 HB3.out) HO3.out (by omega) hoo)
        go_wp2_with fail
        refine HR.out.mono ?_
        rintro e w4 ⟨rfl, hb4⟩
        have HB4 := Lib.hid (HB3.out.trans (hb4.mono HB3.out.size))
        have HPC4 := Lib.hid (HPC.out w4 HB4.out O3 co3 (HO3.out.below hb4 (fun _ h => h)).lt)
        clear hb4
        go_wp2_with fail
        refine HPC4.out.mono ?_
        rintro e w5 ⟨O5, co5, rfl, ho5, hb5⟩
        have HB5 := Lib.hid (HB4.out.trans (hb5.mono HB4.out.size))
        clear hb5 ho5
        go_wp2_with fail
        go_ret
        exact ⟨rfl, HB2.out.trans (HB5.out.mono HB2.out.size)⟩
      | true =>
        obtain ⟨C2, o2, hD2⟩ := post_D g other o1
        have hd2 := hD2 hoo
        obtain ⟨hrt, hnn, hxx⟩ := okP_parts hoo
        have hl2 := hd2.left (n := g.length) (fun y => right_adj hrt y) (by intro x hx; cases hx) (by unfold nodesB; simp [hxx]) rfl (Full.nil _)
        have ho2 : o2.length ≤ 256 := Nat.le_trans hl2.2.1.le hg3
        have HNOT := Lib.hid (show ∀ x ∈ o2, x ∉ o1 from fun x hx h1 => by
          rcases hl2.2.2.1 x hx with h | h
          · cases h
          · exact h ((once_mem o1 [] x).2 (.inr h1)))
        have HR := Lib.hid (post_ok _ _ E O3 ce co3 ws g other o1 C2 o2 w3 (HEW.out w3 HB3.out) HO3.out (by omega) hoo hd2)
        clear hD2 hd2 hrt hnn hxx hl2 hoo
        go_wp2_with fail
        refine HR.out.mono ?_
        rintro e w4 ⟨O4, co4, rfl, ho4, hb4⟩
        have HB4 := Lib.hid (HB3.out.trans (hb4.mono HB3.out.size))
        have HO4 := Lib.hid (Src.of_own ho4).lt
        have HO34 := Lib.hid (HO3.out.below hb4 (fun _ h => h)).lt
        have HPC4 := Lib.hid (HPC.out w4 HB4.out O3 co3 HO34.out)
        clear hb4 ho4 HR HPC
        go_wp2_with fail
        refine HPC4.out.mono ?_
        rintro e w5 ⟨O5, co5, rfl, ho5, hb5⟩
        have HB5 := Lib.hid (HB2.out.trans ((HB4.out.trans (hb5.mono HB4.out.size)).mono HB2.out.size))
        have HA5 := Lib.hid (HO34.out.below hb5 (fun _ h => h)).lt
        have HC5 := Lib.hid (HO4.out.below hb5 (fun _ h => h)).lt
        clear hb5 ho5 HPC4 HO3 HO34 HO4
        go_wp2_with fail
        go_loopw [14] (fun i wr => ∃ k : Nat, k ≤ o2.length ∧ i = .int .i64 (k : Int) ∧ wr = w5) (fun i _ => o2.length - (intOf i).toNat)
        case atStart => exact ⟨0, Nat.zero_le _, rfl, rfl⟩
        case round =>
          obtain ⟨k, hk, rfl, rfl⟩ := hrel
          by_cases hlt : k < o2.length
          · obtain ⟨ad, rfl⟩ : ∃ ad, O4 = some ad := by
              cases O4 with
              | none => have := (HC5.out.nil rfl).1; omega
              | some ad => exact ⟨ad, rfl⟩
            have c1 := HC5.out.at_ ad rfl k _ (ints_get o2 k hlt)
            have HH := Lib.hid (has_pure _ O3 co3 o1 o2[k] wr HA5.out (by omega))
            rw [decide_eq_false (HNOT.out _ (List.getElem_mem hlt))] at HH
            generalize o2[k] = x at *
            go_wp2_with fail
            refine HH.out.mono ?_
            rintro e w6 ⟨rfl, rfl⟩
            go_wp2_with fail
            go_roundw
            case rel => exact ⟨k + 1, by omega, by go_num, by first | trivial | rfl⟩
            case measure => simp [intOf]; omega
          · obtain rfl : k = o2.length := by omega
            go_wp2_with fail
            go_ret
            exact ⟨rfl, HB5.out⟩
end Go.Proofs.Ytkaejcpnlphdpaa
