/-
  The law GraphGoes, walked.
-/
import Derived.Test.YtkaejcpnlphdpaaM
import Derived.Deep.RegionHeld
namespace Go.Proofs.Ytkaejcpnlphdpaa
open Go.RowKit

theorem breadth_no (Q Q2 : Nat → Prop) (E A : Option Addr) (ce c : Nat) (ws : Nat → Option Addr × Nat) (g : Gr) (r : List Int) (w : World) (h : Ed w Q E ce ws g) (h2 : Src w Q2 A r.length c (ints r)) (hn2 : r.length ≤ 4611686018427387904) (hok : okB g r = false) :
    Calls Try.prog 11 #[.slice E g.length ce, .slice A r.length c] w fun e w' => e = .returned (.tuple #[.slice none 0 0, .int .i64 130]) ∧ Below w.heap.size w w' :=
  (breadth_any Q Q2 E A ce c ws g r w h h2 hn2).mono fun e w' hh => by
    rcases hh with ⟨_, h1⟩ | ⟨h1, _⟩
    · exact h1
    · rw [hok] at h1; cases h1
theorem reach_no (Q Q2 : Nat → Prop) (E A : Option Addr) (ce c : Nat) (ws : Nat → Option Addr × Nat) (g : Gr) (r : List Int) (w : World) (h : Ed w Q E ce ws g) (h2 : Src w Q2 A r.length c (ints r)) (hn2 : r.length ≤ 4611686018427387904) (hok : okB g r = false) :
    Calls Try.prog 12 #[.slice E g.length ce, .slice A r.length c] w fun e w' => e = .returned (.tuple #[.slice none 0 0, .int .i64 130]) ∧ Below w.heap.size w w' :=
  (reach_any Q Q2 E A ce c ws g r w h h2 hn2).mono fun e w' hh => by
    rcases hh with ⟨_, h1⟩ | ⟨h1, _⟩
    · exact h1
    · rw [hok] at h1; cases h1
theorem reach_ok (Q Q2 : Nat → Prop) (E A : Option Addr) (ce c : Nat) (ws : Nat → Option Addr × Nat) (g : Gr) (r : List Int) (w : World) (h : Ed w Q E ce ws g) (h2 : Src w Q2 A r.length c (ints r)) (hn2 : r.length ≤ 4611686018427387904) (hok : okB g r = true) :
    Calls Try.prog 12 #[.slice E g.length ce, .slice A r.length c] w fun e w' => ∃ gc, e = .returned (.tuple #[.slice (some ⟨gc, 0, none⟩) g.length g.length, .int .i64 0]) ∧ w'.ownsRow w.heap.size 4 1 (.slice (some ⟨gc, 0, none⟩) g.length g.length) g.length (bools g.length (bfs g r)) ∧ Below w.heap.size w w' :=
  (reach_any Q Q2 E A ce c ws g r w h h2 hn2).mono fun e w' hh => by
    rcases hh with ⟨h1, _⟩ | ⟨_, h1⟩
    · rw [hok] at h1; cases h1
    · exact h1
set_option maxRecDepth 100000 in
set_option maxHeartbeats 4000000 in
theorem goes_any (Q Q2 : Nat → Prop) (E A : Option Addr) (ce c : Nat) (ws : Nat → Option Addr × Nat) (g : Gr) (r : List Int) (w : World) (h : Ed w Q E ce ws g) (h2 : Src w Q2 A r.length c (ints r)) (hn2 : r.length ≤ 4611686018427387904) :
    Calls Try.prog 3 #[.slice E g.length ce, .slice A r.length c] w fun e w' => e = .returned (.bool true) ∧ Below w.heap.size w w' := by
  have HE := Lib.hid h.lt
  have HS := Lib.hid h2.lt
  clear h h2
  go_enter Try.func3, Try.ntmps3
  go_wp2_with fail
  refine (awake_any w).mono ?_
  rintro e w1 ⟨rfl, hb1⟩
  have HB1 := Lib.hid hb1
  have HE1 := Lib.hid (HE.out.below hb1 (fun _ h => h)).lt
  clear hb1
  go_wp2_with fail
  refine (few_any _ _ _ _ _ w1 HE1.out).mono ?_
  rintro e w2 ⟨⟨b, rfl⟩, hb2⟩
  have HB2 := Lib.hid (HB1.out.trans (hb2.mono HB1.out.size))
  have HE2 := Lib.hid (HE1.out.below hb2 (fun _ h => h)).lt
  have HS2 := Lib.hid (HS.out.below HB2.out (fun _ h => h)).lt
  clear hb2 HB1 HE1
  cases b with
  | false =>
    go_wp2_with fail
    go_ret
    exact ⟨rfl, HB2.out⟩
  | true =>
    by_cases hr3 : (3000 : Int) < (r.length : Int)
    · have hd3 := decide_eq_true hr3
      go_wp2_with fail
      go_ret
      exact ⟨rfl, HB2.out⟩
    · have hd3 := decide_eq_false hr3
      cases hok : okB g r with
      | false =>
        have HBR := Lib.hid (breadth_no _ _ E A ce c ws g r w2 HE2.out HS2.out hn2 hok)
        have HRE := Lib.hid (fun W (hb : Below w2.heap.size w2 W) => reach_no _ _ E A ce c ws g r W (HE2.out.below hb (fun _ h => h)) (HS2.out.below hb (fun _ h => h)) hn2 hok)
        have HRI := Lib.hid (fun W (hb : Below w2.heap.size w2 W) => right_any _ E ce ws g W (HE2.out.below hb (fun _ h => h)))
        have HRR := Lib.hid (fun W (hb : Below w2.heap.size w2 W) => rRight_any _ E ce ws g W (HE2.out.below hb (fun _ h => h)))
        have HRN := Lib.hid (fun W (hb : Below w2.heap.size w2 W) => rNodes_any _ E A g.length ce c r W (HS2.out.below hb (fun _ h => h)) hn2)
        unfold okB at hok
        go_wp2_with fail
        refine HBR.out.mono ?_
        rintro e w3 ⟨rfl, hb3⟩
        have HB3 := Lib.hid hb3
        clear hb3
        go_wp2_with fail
        refine (HRE.out w3 HB3.out).mono ?_
        rintro e w4 ⟨rfl, hb4⟩
        have HB4 := Lib.hid (HB3.out.trans (hb4.mono HB3.out.size))
        clear hb4
        cases hrt : rightB g with
        | false =>
          rw [hrt] at HRI HRR
          go_wp2_with fail
          refine (HRI.out w4 HB4.out).mono ?_
          rintro e w5 ⟨rfl, hb5⟩
          have HB5 := Lib.hid (HB4.out.trans (hb5.mono HB4.out.size))
          clear hb5
          go_wp2_with fail
          refine (HRR.out w5 HB5.out).mono ?_
          rintro e w6 ⟨rfl, hb6⟩
          have HB6 := Lib.hid (HB5.out.trans (hb6.mono HB5.out.size))
          clear hb6
          go_wp2_with fail
          refine (HRR.out w6 HB6.out).mono ?_
          rintro e w7 ⟨rfl, hb7⟩
          have HB7 := Lib.hid (HB6.out.trans (hb7.mono HB6.out.size))
          clear hb7
          go_wp2_with fail
          go_ret
          exact ⟨rfl, HB2.out.trans (HB7.out.mono HB2.out.size)⟩
        | true =>
          rw [hrt] at HRI HRR hok
          have hnn : nodesB g.length r = false := hok
          rw [hnn] at HRN
          clear hok hnn
          go_wp2_with fail
          refine (HRI.out w4 HB4.out).mono ?_
          rintro e w5 ⟨rfl, hb5⟩
          have HB5 := Lib.hid (HB4.out.trans (hb5.mono HB4.out.size))
          clear hb5
          go_wp2_with fail
          refine (HRR.out w5 HB5.out).mono ?_
          rintro e w6 ⟨rfl, hb6⟩
          have HB6 := Lib.hid (HB5.out.trans (hb6.mono HB5.out.size))
          clear hb6
          go_wp2_with fail
          refine (HRR.out w6 HB6.out).mono ?_
          rintro e w7 ⟨rfl, hb7⟩
          have HB7 := Lib.hid (HB6.out.trans (hb7.mono HB6.out.size))
          clear hb7
          go_wp2_with fail
          refine (HRN.out w7 HB7.out).mono ?_
          rintro e w8 ⟨rfl, hb8⟩
          have HB8 := Lib.hid (HB7.out.trans (hb8.mono HB7.out.size))
          clear hb8
          go_wp2_with fail
          go_ret
          exact ⟨rfl, HB2.out.trans (HB8.out.mono HB2.out.size)⟩
      | true =>
        have hok2 := hok
        unfold okB at hok2
        simp only [Bool.and_eq_true] at hok2
        obtain ⟨hrt, hnn⟩ := hok2
        have HLE := Lib.hid (show (bfs g r).length ≤ g.length from bfs_len hrt hnn g.length)
        have HG := Lib.hid (right_len hrt)
        have HBR := Lib.hid (breadth_ok _ _ E A ce c ws g r w2 HE2.out HS2.out hn2 hok)
        have HRE := Lib.hid (fun W (hb : Below w2.heap.size w2 W) => reach_ok _ _ E A ce c ws g r W (HE2.out.below hb (fun _ h => h)) (HS2.out.below hb (fun _ h => h)) hn2 hok)
        have HRI := Lib.hid (fun W (hb : Below w2.heap.size w2 W) => right_any _ E ce ws g W (HE2.out.below hb (fun _ h => h)))
        have HRR := Lib.hid (fun W (hb : Below w2.heap.size w2 W) => rRight_any _ E ce ws g W (HE2.out.below hb (fun _ h => h)))
        have HRN := Lib.hid (fun W (hb : Below w2.heap.size w2 W) => rNodes_any _ E A g.length ce c r W (HS2.out.below hb (fun _ h => h)) hn2)
        have HRB := Lib.hid (fun W (hb : Below w2.heap.size w2 W) => rBreadth_any _ _ E A ce c ws g r W (HE2.out.below hb (fun _ h => h)) (HS2.out.below hb (fun _ h => h)) hrt hnn hn2)
        rw [hrt] at HRI HRR
        rw [hnn] at HRN
        clear hok hrt hnn
        generalize bfs g r = p at *
        go_wp2_with fail
        refine HBR.out.mono ?_
        rintro e w3 ⟨O3, co3, rfl, ho3, hb3⟩
        have HB3 := Lib.hid hb3
        have HO3 := Lib.hid (Src.of_own ho3).lt
        clear hb3 ho3
        go_wp2_with fail
        refine (HRE.out w3 HB3.out).mono ?_
        rintro e w4 ⟨gc, rfl, ho4, hb4⟩
        have HB4 := Lib.hid (HB3.out.trans (hb4.mono HB3.out.size))
        have HO3b := Lib.hid (HO3.out.below hb4 (fun _ h => h)).lt
        have HO4 := Lib.hid (Src.of_own ho4).lt
        clear hb4 ho4 HO3
        go_wp2_with fail
        refine (HRI.out w4 HB4.out).mono ?_
        rintro e w5 ⟨rfl, hb5⟩
        have HB5 := Lib.hid (HB4.out.trans (hb5.mono HB4.out.size))
        have HQ5 := Lib.hid hb5
        clear hb5
        go_wp2_with fail
        refine (HRR.out w5 HB5.out).mono ?_
        rintro e w6 ⟨rfl, hb6⟩
        have HB6 := Lib.hid (HB5.out.trans (hb6.mono HB5.out.size))
        have HQ6 := Lib.hid (HQ5.out.trans (hb6.mono HQ5.out.size))
        clear hb6
        go_wp2_with fail
        refine (HRR.out w6 HB6.out).mono ?_
        rintro e w7 ⟨rfl, hb7⟩
        have HB7 := Lib.hid (HB6.out.trans (hb7.mono HB6.out.size))
        have HQ7 := Lib.hid (HQ6.out.trans (hb7.mono HQ6.out.size))
        clear hb7
        go_wp2_with fail
        refine (HRN.out w7 HB7.out).mono ?_
        rintro e w8 ⟨rfl, hb8⟩
        have HB8 := Lib.hid (HB7.out.trans (hb8.mono HB7.out.size))
        have HQ8 := Lib.hid (HQ7.out.trans (hb8.mono HQ7.out.size))
        clear hb8
        go_wp2_with fail
        refine (HRB.out w8 HB8.out).mono ?_
        rintro e w9 ⟨O9, co9, rfl, ho9, hb9⟩
        have HB9 := Lib.hid (HB8.out.trans (hb9.mono HB8.out.size))
        have HQ9 := Lib.hid (HQ8.out.trans (hb9.mono HQ8.out.size))
        have HO9 := Lib.hid (Src.of_own ho9).lt
        clear hb9 ho9
        have HSM := Lib.hid (same_yes _ _ O3 O9 co3 co9 p w9 (HO3b.out.below HQ9.out (fun _ h => h)) HO9.out (by have := HLE.out; have := HG.out; omega))
        go_wp2_with fail
        refine HSM.out.mono ?_
        rintro e w10 ⟨rfl, hb10⟩
        have HB10 := Lib.hid (HB2.out.trans ((HB9.out.trans (hb10.mono HB9.out.size)).mono HB2.out.size))
        have HX3 := Lib.hid ((HO4.out.below HQ9.out (fun _ h => h)).lt.below hb10 (fun _ h => h)).lt
        have HX9 := Lib.hid (HO9.out.below hb10 (fun _ h => h)).lt
        clear hb10 HSM HO4 HO3b HO9 HQ5 HQ6 HQ7 HQ8 HQ9 HB3 HB4 HB5 HB6 HB7 HB8 HB9 HRB HRN HRR HRI HRE HBR HE2 HS2 HB2
        have hg3 := HG.out
        have hp3 := HLE.out
        go_wp2_with fail
        go_loopw [11] (fun i wr => ∃ k : Nat, k ≤ g.length ∧ i = .int .i64 (k : Int) ∧ Below w10.heap.size w10 wr) (fun i _ => g.length - (intOf i).toNat)
        case atStart => exact ⟨0, Nat.zero_le _, rfl, Below.refl _ _⟩
        case round =>
          obtain ⟨k, hk, rfl, hB⟩ := hrel
          have HB := Lib.hid hB
          clear hB
          by_cases hlt : k < g.length
          · have d1 : wr.drew.cell? ⟨gc, k, none⟩ = some (.bool (decide ((k : Int) ∈ p))) := by
              have := (HX3.out.below HB.out (fun _ h => h)).at_ _ rfl k _ (bools_get g.length p k hlt)
              rwa [show ((⟨gc, 0, none⟩ : Addr).add k) = ⟨gc, k, none⟩ by unfold Addr.add; split <;> simp_all] at this
            have HH := Lib.hid (has_pure _ O9 co9 p (k : Int) wr.drew (HX9.out.below (HB.out.trans ((drew_below wr).mono HB.out.size)) (fun _ h => h)) (by omega))
            generalize decide ((k : Int) ∈ p) = dk at *
            go_wp2_with fail
            go_region_with ((with_reducible refine HH.out.mono ?_); rintro e w11 ⟨rfl, rfl⟩)
            all_goals
              cases dk <;> go_wp2_with fail
              all_goals exact ⟨⟨k + 1, by omega, by go_num, HB.out.trans ((drew_below wr).mono HB.out.size)⟩, by simp [intOf]; omega⟩
          · obtain rfl : k = g.length := by omega
            go_wp2_with fail
            go_ret
            exact ⟨rfl, HB10.out.trans (HB.out.mono HB10.out.size)⟩
end Go.Proofs.Ytkaejcpnlphdpaa
