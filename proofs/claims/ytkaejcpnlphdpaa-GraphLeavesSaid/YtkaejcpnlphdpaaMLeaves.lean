/-
  The law GraphLeaves, walked (written by mk.py).
-/
import Derived.Test.YtkaejcpnlphdpaaM
namespace Go.Proofs.Ytkaejcpnlphdpaa
open Go.RowKit

theorem post_no (Q Q2 : Nat → Prop) (E A : Option Addr) (ce c : Nat) (ws : Nat → Option Addr × Nat) (g : Gr) (root : Int) (done : List Int) (w : World) (h : Ed w Q E ce ws g) (h2 : Src w Q2 A done.length c (ints done)) (hn2 : done.length ≤ 4611686018427387904)
    (hok : okP g root done = false) :
    Calls Try.prog 19 #[.slice E g.length ce, .int .i64 root, .slice A done.length c] w fun e w' => e = .returned (.tuple #[.slice none 0 0, .int .i64 130]) ∧ Below w.heap.size w w' :=
  (post_any Q Q2 E A ce c ws g root done [] [] w h h2 hn2 fun h => by rw [hok] at h; cases h).mono fun e w' hh => by
    rcases hh with ⟨_, h1⟩ | ⟨h1, _⟩
    · exact h1
    · rw [hok] at h1; cases h1
theorem rNodes_one (EA : Option Addr) (n ec : Nat) (x : Int) (W : World) :
    Calls Try.prog 15 #[.slice EA n ec, .slice (some ⟨W.heap.size, 0, none⟩) 1 1] (W.alloc (.cells #[.int .i64 x] 3)) fun e w' => e = .returned (.bool (isNode n x)) ∧ Below W.heap.size W w' :=
  (rNodes_any (fun _ => True) EA (some ⟨W.heap.size, 0, none⟩) n ec 1 [x] (W.alloc (.cells #[.int .i64 x] 3)) (src_lit W [.int .i64 x] 3 _ trivial) (by simp)).mono
    fun _ _ hh => ⟨by rw [hh.1]; simp [nodesB], ((Below.refl _ W).alloc (Nat.le_refl _) _).trans (hh.2.mono (by rw [alloc_size]; omega))⟩
set_option maxRecDepth 100000 in
set_option maxHeartbeats 4000000 in
theorem leaves_any (Q Q2 : Nat → Prop) (E A : Option Addr) (ce c : Nat) (ws : Nat → Option Addr × Nat) (g : Gr) (root : Int) (r : List Int) (w : World) (h : Ed w Q E ce ws g) (h2 : Src w Q2 A r.length c (ints r)) (hn2 : r.length ≤ 4611686018427387904) :
    Calls Try.prog 4 #[.slice E g.length ce, .int .i64 root, .slice A r.length c] w fun e w' => e = .returned (.bool true) ∧ Below w.heap.size w w' := by
  have HE := Lib.hid h.lt
  have HS := Lib.hid h2.lt
  clear h h2
  go_enter Try.func4, Try.ntmps4
  go_wp2_with fail
  refine (awake_any w).mono ?_
  rintro e w1 ⟨rfl, hb1⟩
  have HB1 := Lib.hid hb1
  have HE1 := Lib.hid (HE.out.below hb1 (fun _ h => h)).lt
  clear hb1
  go_wp2_with fail
  refine (few_any _ _ _ _ _ w1 HE1.out).mono ?_
  rintro e w2 ⟨⟨b, rfl⟩, hb2⟩
  have HB2 := Lib.hid (HB1.out.trans (hb2.mono HB1.out.size))
  have HE2 := Lib.hid (HE1.out.below hb2 (fun _ h => h)).lt
  have HS2 := Lib.hid (HS.out.below HB2.out (fun _ h => h)).lt
  clear hb2 HB1 HE1
  cases b with
  | false =>
    go_wp2_with fail
    go_ret
    exact ⟨rfl, HB2.out⟩
  | true =>
    by_cases hbr : (3000 : Int) < (r.length : Int)
    · have hdr := decide_eq_true hbr
      go_wp2_with fail
      go_ret
      exact ⟨rfl, HB2.out⟩
    · have hdr := decide_eq_false hbr
      have HRR := Lib.hid (fun W (hb : Below w2.heap.size w2 W) => rRight_any _ E ce ws g W (HE2.out.below hb (fun _ h => h)))
      have HRN := Lib.hid (fun W (hb : Below w2.heap.size w2 W) => rNodes_any _ E A g.length ce c r W (HS2.out.below hb (fun _ h => h)) hn2)
      have HRO := Lib.hid (fun W (_ : Below w2.heap.size w2 W) => rNodes_one E g.length ce root W)
      cases hok : okP g root r with
      | false =>
        have HPO := Lib.hid (post_no _ _ E A ce c ws g root r w2 HE2.out HS2.out hn2 hok)
        unfold okP okB at hok
        go_wp2_with fail
        refine HPO.out.mono ?_
        rintro e w3 ⟨rfl, hb3⟩
        have HB3 := Lib.hid hb3
        clear hb3
        cases hrt : rightB g with
        | false =>
          rw [hrt] at HRR
          go_wp2_with fail
          refine (HRR.out w3 HB3.out).mono ?_
          rintro e w4 ⟨rfl, hb4⟩
          have HB4 := Lib.hid (HB3.out.trans (hb4.mono HB3.out.size))
          clear hb4
          go_wp2_with fail
          go_ret
          exact ⟨rfl, HB2.out.trans (HB4.out.mono HB2.out.size)⟩
        | true =>
          rw [hrt] at HRR hok
          cases hnn : nodesB g.length r with
          | false =>
            rw [hnn] at HRN
            go_wp2_with fail
            refine (HRR.out w3 HB3.out).mono ?_
            rintro e w4 ⟨rfl, hb4⟩
            have HB4 := Lib.hid (HB3.out.trans (hb4.mono HB3.out.size))
            clear hb4
            go_wp2_with fail
            refine (HRN.out w4 HB4.out).mono ?_
            rintro e w5 ⟨rfl, hb5⟩
            have HB5 := Lib.hid (HB4.out.trans (hb5.mono HB4.out.size))
            clear hb5
            go_wp2_with fail
            go_ret
            exact ⟨rfl, HB2.out.trans (HB5.out.mono HB2.out.size)⟩
          | true =>
            rw [hnn] at HRN hok
            have hxx : isNode g.length root = false := hok
            rw [hxx] at HRO
            go_wp2_with fail
            refine (HRR.out w3 HB3.out).mono ?_
            rintro e w4 ⟨rfl, hb4⟩
            have HB4 := Lib.hid (HB3.out.trans (hb4.mono HB3.out.size))
            clear hb4
            go_wp2_with fail
            refine (HRN.out w4 HB4.out).mono ?_
            rintro e w5 ⟨rfl, hb5⟩
            have HB5 := Lib.hid (HB4.out.trans (hb5.mono HB4.out.size))
            clear hb5
            go_wp2_with fail
            refine (HRO.out w5 HB5.out).mono ?_
            rintro e w6 ⟨rfl, hb6⟩
            have HB6 := Lib.hid (HB5.out.trans (hb6.mono HB5.out.size))
            clear hb6
            go_wp2_with fail
            go_ret
            exact ⟨rfl, HB2.out.trans (HB6.out.mono HB2.out.size)⟩
      | true =>
        obtain ⟨C', o', hD⟩ := post_D g root r
        have hd := hD hok
        have HPO := Lib.hid (post_ok _ _ E A ce c ws g root r C' o' w2 HE2.out HS2.out hn2 hok hd)
        have HRP := Lib.hid (fun W (hb : Below w2.heap.size w2 W) => rPost_any _ _ E A ce c ws g root r C' o' W (HE2.out.below hb (fun _ h => h)) (HS2.out.below hb (fun _ h => h)) hn2 hok hd)
        obtain ⟨hrt, hnn, hxx⟩ := okP_parts hok
        have hlv := (hd.left (n := g.length) (fun y => right_adj hrt y) (by intro x hx; cases hx) (by unfold nodesB; simp [hxx]) rfl (Full.nil _)).2.1.le
        have HLE := Lib.hid (Nat.le_trans hlv (right_len hrt))
        rw [hrt] at HRR
        rw [hnn] at HRN
        rw [hxx] at HRO
        clear hD hd hrt hnn hxx hok hlv
        go_wp2_with fail
        refine HPO.out.mono ?_
        rintro e w3 ⟨O3, co3, rfl, ho3, hb3⟩
        have HB3 := Lib.hid hb3
        have HO3 := Lib.hid (Src.of_own ho3).lt
        have HQ3 := Lib.hid (Below.refl w3.heap.size w3)
        clear hb3 ho3
        go_wp2_with fail
        refine (HRR.out w3 HB3.out).mono ?_
        rintro e w4 ⟨rfl, hb4⟩
        have HB4 := Lib.hid (HB3.out.trans (hb4.mono HB3.out.size))
        have HQ4 := Lib.hid (HQ3.out.trans (hb4.mono HQ3.out.size))
        clear hb4
        go_wp2_with fail
        refine (HRN.out w4 HB4.out).mono ?_
        rintro e w5 ⟨rfl, hb5⟩
        have HB5 := Lib.hid (HB4.out.trans (hb5.mono HB4.out.size))
        have HQ5 := Lib.hid (HQ4.out.trans (hb5.mono HQ4.out.size))
        clear hb5
        go_wp2_with fail
        refine (HRO.out w5 HB5.out).mono ?_
        rintro e w6 ⟨rfl, hb6⟩
        have HB6 := Lib.hid (HB5.out.trans (hb6.mono HB5.out.size))
        have HQ6 := Lib.hid (HQ5.out.trans (hb6.mono HQ5.out.size))
        clear hb6
        go_wp2_with fail
        refine (HRP.out w6 HB6.out).mono ?_
        rintro e w7 ⟨O7, co7, rfl, ho7, hb7⟩
        have HB7 := Lib.hid (HB6.out.trans (hb7.mono HB6.out.size))
        have HO7 := Lib.hid (Src.of_own ho7).lt
        have HX3 := Lib.hid ((HO3.out.below (HQ6.out.trans (hb7.mono HQ6.out.size)) (fun _ h => h))).lt
        clear hb7 ho7
        have HSM := Lib.hid (same_yes _ _ O3 O7 co3 co7 o' w7 HX3.out HO7.out (by have := HLE.out; omega))
        go_wp2_with fail
        refine HSM.out.mono ?_
        rintro e w8 ⟨rfl, hb8⟩
        have HB8 := Lib.hid (HB7.out.trans (hb8.mono HB7.out.size))
        clear hb8
        go_wp2_with fail
        go_ret
        exact ⟨rfl, HB2.out.trans (HB8.out.mono HB2.out.size)⟩
end Go.Proofs.Ytkaejcpnlphdpaa
