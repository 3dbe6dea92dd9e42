/-
  Candidates: the document's, whole; lists of the same texts; the examples.
-/
import Derived.Test.YtkpmfahmhmdccaaDoorI
import Derived.Test.YtkpmfahmhmdccaaDoorH
namespace Go.Proofs.YtkpmfahmhmdccaaDoor
open Go.RowKit

set_option maxRecDepth 100000 in
set_option maxHeartbeats 1000000 in
theorem rcands_any (Q : Nat → Prop) (o nm : Str) (A1 A2 A3 : Option Addr) (c1 c2 c3 : Nat) (rp ps : List Str) (kn : List (Str × Str)) (w : World)
    (h1 : Src w Q A1 rp.length c1 (strs rp)) (h2 : EnvIn w Q A2 A3 c2 c3 ps kn) (hQ : ∀ k, Q k → k < w.heap.size) (hf : Fits o nm rp ps kn) (lo : o.length ≤ 5000) :
    Calls Tryd.prog 9 #[str nm, str o, .slice A1 rp.length c1, .agg (envA A2 A3 c2 c3 ps kn)] w (Cand w (candE o nm rp ps kn)) := by
  by_cases h0 : nm = []
  · subst h0
    rw [candE_empty]
    have HB := Lib.hid ((Below.refl w.heap.size w).alloc (Nat.le_refl _) (.cells (envA A2 A3 c2 c3 ps kn) 36))
    clear h1 h2 hf
    go_enter Tryd.func9, Tryd.ntmps9
    go_wp2
    go_ret2
    exact Cand.none _ _ _ HB.out
  · by_cases h200 : 200 < nm.length
    · have h0' : (nm == []) = false := by simpa using h0
      have hsz : (ByteArray.mk nm.toArray).size = nm.length := str_size nm
      rw [candE_long rp ps kn h200]
      have HB := Lib.hid ((Below.refl w.heap.size w).alloc (Nat.le_refl _) (.cells (envA A2 A3 c2 c3 ps kn) 36))
      clear h1 h2 hf
      go_enter Tryd.func9, Tryd.ntmps9
      go_wp2
      go_ret2
      exact Cand.none _ _ _ HB.out
    · by_cases h47 : 47 ∈ nm
      · have h0' : (nm == []) = false := by simpa using h0
        have hsz : (ByteArray.mk nm.toArray).size = nm.length := str_size nm
        have HK := Lib.hid (fun W => slashed_any nm W (by omega))
        rw [decide_eq_true h47] at HK
        rw [candE_slash rp ps kn h0 h200 h47]
        have HB := Lib.hid ((Below.refl w.heap.size w).alloc (Nat.le_refl _) (.cells (envA A2 A3 c2 c3 ps kn) 36))
        have HX := Lib.hid (fun W => rexpand_any nm o W (by omega) lo)
        unfold Exps at HX
        by_cases he : (expE o nm).2 = 0
        · have hel := expE_len o nm
          have HC := Lib.hid (fun W => rclean_any (expE o nm).1 W (by omega))
          clear h1 h2 hf h47 h0
          rcases clean_zero (expE o nm).1 with hc | hc
          · rw [onlyL_one he hc]
            rw [he] at HX
            rw [hc] at HC
            generalize (Fil.clean (expE o nm).1).1 = q at *
            generalize (expE o nm).1 = x at *
            clear he hc
            go_enter Tryd.func9, Tryd.ntmps9
            go_wp2_with (go_at_call 16; refine (HK.out _).mono ?_; rintro e w3 ⟨rfl, rfl⟩)
            refine (HX.out _).mono ?_
            rintro e w1 ⟨rfl, hb⟩
            have HB1 := Lib.hid (HB.out.trans (hb.mono HB.out.size))
            clear hb
            go_wp2_with fail
            refine (HC.out _).mono ?_
            rintro e w2 ⟨rfl, hb⟩
            have HB2 := Lib.hid (HB1.out.trans (hb.mono HB1.out.size))
            clear hb
            go_wp2
            go_ret2
            exact ⟨_, _, rfl, own_one w2 w q HB2.out, HB2.out.alloc HB2.out.size _⟩
          · rw [onlyL_bad he (by rw [hc]; decide), hc]
            rw [he] at HX
            rw [hc] at HC
            generalize (Fil.clean (expE o nm).1).1 = q at *
            generalize (expE o nm).1 = x at *
            clear he hc
            go_enter Tryd.func9, Tryd.ntmps9
            go_wp2_with (go_at_call 16; refine (HK.out _).mono ?_; rintro e w3 ⟨rfl, rfl⟩)
            refine (HX.out _).mono ?_
            rintro e w1 ⟨rfl, hb⟩
            have HB1 := Lib.hid (HB.out.trans (hb.mono HB.out.size))
            clear hb
            go_wp2_with fail
            refine (HC.out _).mono ?_
            rintro e w2 ⟨rfl, hb⟩
            have HB2 := Lib.hid (HB1.out.trans (hb.mono HB1.out.size))
            clear hb
            go_wp2
            go_ret2
            exact Cand.none _ _ _ HB2.out
        · rw [onlyL_no he]
          have heb : ((expE o nm).2 != 0) = true := by simpa using he
          generalize (expE o nm).1 = x at *
          generalize (expE o nm).2 = y at *
          clear he h1 h2 hf h47 h0
          go_enter Tryd.func9, Tryd.ntmps9
          go_wp2_with (go_at_call 16; refine (HK.out _).mono ?_; rintro e w3 ⟨rfl, rfl⟩)
          refine (HX.out _).mono ?_
          rintro e w1 ⟨rfl, hb⟩
          have HB1 := Lib.hid (HB.out.trans (hb.mono HB.out.size))
          clear hb
          go_wp2
          go_ret2
          exact Cand.none _ _ _ HB1.out
      · rw [candE_list rp ps kn h0 h200 h47]
        exact rcands_list Q o nm A1 A2 A3 c1 c2 c3 rp ps kn w h1 h2 hQ hf lo h0 h200 h47

set_option maxRecDepth 100000 in
set_option maxHeartbeats 1000000 in
theorem same_yes (P Q : Nat → Prop) (A B : Option Addr) (n c d : Nat) (ps : List Str) (w : World) (h : Src w P A n c (strs ps)) (k : Src w Q B n d (strs ps)) (hn : n ≤ 9223372036854775806) :
    Calls Tryd.prog 11 #[.slice A n c, .slice B n d] w fun e w' => e = .returned (.bool true) ∧ Below w.heap.size w w' := by
  have hlen : ps.length = n := by simpa using h.len
  have HS := Lib.hid h.lt
  have HK := Lib.hid k.lt
  clear h k
  go_enter Tryd.func11, Tryd.ntmps11
  go_wp2_with fail
  go_loopw [5] (fun i wr => ∃ j : Nat, j ≤ n ∧ i = .int .i64 (j : Int) ∧ Below w.heap.size w wr) (fun i _ => n - (intOf i).toNat)
  case atStart => exact ⟨0, Nat.zero_le _, rfl, Below.refl _ _⟩
  case round =>
    obtain ⟨j, hj, rfl, hB⟩ := hrel
    have HW := Lib.hid hB
    clear hB
    by_cases hjn : j < n
    · have hj' : j < ps.length := by omega
      cases A with
      | none => have := (HS.out.nil rfl).1; omega
      | some ad =>
        cases B with
        | none => have := (HK.out.nil rfl).1; omega
        | some bd =>
          have hc := HS.out.below HW.out (fun j hj => hj) |>.at_ ad rfl j _ (strs_get ps j hj')
          have hc2 := HK.out.below HW.out (fun j hj => hj) |>.at_ bd rfl j _ (strs_get ps j hj')
          have hmix : Tryd.prog.follows .mixedOrders = true := by kernel_rfl
          have hd1 : wr.drew.cell? (ad.add j) = some (str ps[j]) := hc
          have hd2 : wr.drew.cell? (bd.add j) = some (str ps[j]) := hc2
          generalize ps[j] = p at *
          go_wp2_with fail
          go_region
          all_goals go_wp2
          all_goals
            exact ⟨⟨j + 1, by omega, by go_num, HW.out.trans ((drew_below wr).mono HW.out.size)⟩, by simp [intOf]; omega⟩
    · obtain rfl : j = n := by omega
      go_wp2
      go_ret
      exact ⟨rfl, HW.out⟩
end Go.Proofs.YtkpmfahmhmdccaaDoor
