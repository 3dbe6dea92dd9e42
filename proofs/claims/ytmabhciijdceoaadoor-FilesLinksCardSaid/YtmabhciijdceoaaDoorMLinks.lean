/-
  The law FilesLinks: what a link leads to; walked.
-/
import Derived.Test.YtmabhciijdceoaaDoorMKeeps
namespace Go.Proofs.YtmabhciijdceoaaDoor
open Go.RowKit Go.Maps

def oneL : Str := [47, 111, 110, 101, 46, 108, 105, 110, 107]
def oneName : Str := [111, 110, 101, 46, 108, 105, 110, 107]
theorem one_parts : absParts oneL = some [oneName] := by decide +kernel
theorem one_below : below rootS oneName = oneL := by decide +kernel
theorem one_dots : oneName ≠ dots := by decide +kernel
theorem one_clean : ¬ (clean oneL).1 = rootS := by decide +kernel
theorem one_root : rootS ≠ oneL := by decide +kernel
structure Linked (D : Dt) (to : Str) : Prop where
  ways : (endOf D oneL = endOf D to ∧ fileOf D oneL = fileOf D to) ∨ endOf D oneL = ([], Th.no, 35)
  kind : kindOf D oneL = 3
theorem linked {s : St} (hm : IsMap s.d) (to : Str) (ha : isAbs to = true) (h : (symM s oneL to).2 = 0) : Linked (symM s oneL to).1.d to := by
  unfold symM at *
  split at h
  · exact absurd h (by assumption)
  · split at h
    · simp at h
    · rename_i h0 h1
      rw [if_neg h0, if_neg h1]
      obtain ⟨hp, hk⟩ := eqFree h0
      obtain ⟨ps, z, dir, e1, e2, e3, e4, e5, _⟩ := placed hp
      rw [one_parts] at e1
      have e1' : ps = [] ∧ z = oneName := by
        cases ps with
        | nil => simp at e1; exact ⟨rfl, e1.symm⟩
        | cons q qs => simp at e1
      obtain ⟨rfl, rfl⟩ := e1'
      have hdir : dir = rootS := by
        unfold way at e3
        rw [wayF_end] at e3
        injection e3 with e3
        exact e3.symm
      subst hdir
      rw [e5, one_below] at h hk ⊢
      have hD1 : (setAt s oneL ⟨3, 0, to⟩).1.d = s.d.put (.string oneL) (thD ⟨3, 0, to⟩) := by
        unfold setAt at *
        split at h
        · simp at h
        · rename_i hc
          rw [if_neg hc]
      rw [hD1]
      have g : getD (s.d.put (.string oneL) (thD ⟨3, 0, to⟩)) oneL = ⟨3, 0, to⟩ := getD_put _ _ _ hm
      have gr : (getD (s.d.put (.string oneL) (thD ⟨3, 0, to⟩)) rootS).kind ≠ 1 := by
        rw [getD_put_ne _ _ _ _ one_root]
        exact e4
      generalize s.d.put (.string oneL) (thD ⟨3, 0, to⟩) = D at *
      obtain ⟨tps, ht⟩ : ∃ tps, partsOf to = some tps := by
        cases hpo : partsOf to with
        | none => exact absurd (.inl hpo) h1
        | some l => exact ⟨l, rfl⟩
      have hat : absParts to = some tps := by
        unfold absParts
        rw [if_pos ha, ht]
      have hl := (partsOf_ok ht).2.1
      have hw : way D [oneName] = wayF D 1999 rootS 1 tps := by
        unfold way
        rw [wayF_link D 1999 rootS 0 oneName [] one_dots (by rw [one_below, g]) (by decide), one_below, g]
        simp only [ht, ha, if_true, Option.getD_some, List.append_nil]
      refine ⟨?_, ?_⟩
      · rcases wayF_spent D 1999 rootS 0 tps _ _ (by omega) (by omega) rfl rfl with hs | hs
        · left
          have : endOf D oneL = endOf D to := by
            unfold endOf
            rw [one_parts, hat]
            simp only
            rw [hw]
            unfold way
            simp only [Nat.zero_add] at hs
            rw [hs]
          exact ⟨this, by unfold fileOf; rw [this]⟩
        · right
          unfold endOf
          rw [one_parts]
          simp only
          rw [hw]
          simp only [Nat.zero_add] at hs
          rw [hs]
          simp
      · unfold kindOf
        rw [if_neg one_clean, place_of (ps := []) (by rw [one_parts]; rfl) one_dots (show way D [] = (rootS, 0) by unfold way; rw [wayF_end]) gr, one_below]
        simp only
        rw [if_neg (by simp), g]

set_option maxHeartbeats 4000000 in
set_option maxRecDepth 100000 in
theorem links_any (Ap : Option Addr) (n cp : Nat) (xs : List Ac) (to : Str) (w : World) (h : Acs w (fun k => k < w.heap.size) Ap n cp xs)
    (hp : to.length ≤ 9223372036854775807) (hn : n ≤ 140737488351232) (hm : Ml w) :
    Calls Tryd.prog 7 #[.slice Ap n cp, str to] w fun e w' => e = .returned (.bool true) ∧ Below w.heap.size w w' := by
  have HAW := Lib.hid (awake_any w hm)
  have HX := Lib.hid h
  have HM := Lib.hid hm
  have HP := Lib.hid hp
  have HNN := Lib.hid hn
  have HLX := Lib.hid h.len
  clear h hm hp hn
  go_enter Tryd.func7, Tryd.ntmps7
  go_wp2_with fail
  refine HAW.out.mono ?_
  rintro e w1 ⟨rfl, hb1⟩
  have HB1 := Lib.hid hb1
  have HC := Lib.hid (played_any Ap n cp xs w1 ((HX.out.keep fun k hk _ => hb1.block k hk).weak fun k hk => Nat.lt_of_lt_of_le hk hb1.size) (HM.out.below hb1 (by have := HM.out.pos; omega)) HNN.out)
  clear hb1 HAW
  go_wp2_with fail
  refine HC.out.mono ?_
  rintro e w2 ⟨sb, mb, rfl, hat⟩
  have HA2 := Lib.hid (Played.at HB1.out hat)
  obtain ⟨hi, _⟩ := play_left xs ⟨newD, 0⟩ inv_new
  generalize playM ⟨newD, 0⟩ xs = s at *
  have HI := Lib.hid hi
  clear hat hi HC HB1
  cases to with
  | nil =>
    go_wp2
    go_ret
    exact ⟨rfl, HA2.out.below⟩
  | cons c r =>
    have HS := Lib.hid (sym_any sb mb s oneL (c :: r) w2 HA2.out.sto (by decide) HP.out)
    unfold oneL at HS
    by_cases hc : c = 47
    · subst hc
      have HAB := Lib.hid ((isAbs_iff (47 :: r)).2 rfl)
      go_wp2_with fail
      refine HS.out.mono ?_
      rintro e w3 hd
      obtain ⟨rfl, ha⟩ := HA2.out.does hd
      have HA3 := Lib.hid ha
      clear ha hd HS HA2
      change Hid (At w w3 sb mb (symM s oneL (47 :: r)).1) at HA3
      by_cases hz : (symM s oneL (47 :: r)).2 = 0
      · have K := linked HI.out.map (47 :: r) HAB.out hz
        have HKI := Lib.hid K.kind
        have HKW := Lib.hid K.ways
        rw [show (symM s [47, 111, 110, 101, 46, 108, 105, 110, 107] (47 :: r)).2 = 0 from hz]
        generalize (symM s oneL (47 :: r)).1 = s1 at *
        have HR1 := Lib.hid (real_any sb mb s1 (47 :: r) w3 HA3.out.sto HP.out)
        have HR2 := Lib.hid (fun (w4 : World) (ha : At w w4 sb mb s1) => real_any sb mb s1 oneL w4 ha.sto (by decide))
        have HF1 := Lib.hid (fun (w4 : World) (ha : At w w4 sb mb s1) => find_any sb mb s1 (47 :: r) w4 ha.sto HP.out)
        have HF2 := Lib.hid (fun (w4 : World) (ha : At w w4 sb mb s1) => find_any sb mb s1 oneL w4 ha.sto (by decide))
        have HKD := Lib.hid (fun (w4 : World) (ha : At w w4 sb mb s1) => kind_any sb mb s1 oneL w4 ha.sto (by decide))
        have HEF := Lib.hid (end_facts s1.d (47 :: r)).2
        simp only [K.kind] at HKD
        clear hz K
        generalize endOf s1.d (47 :: r) = e1 at *
        generalize fileOf s1.d (47 :: r) = f1 at *
        generalize endOf s1.d oneL = e2 at *
        generalize fileOf s1.d oneL = f2 at *
        unfold oneL at HR2 HF2 HKD
        obtain ⟨a1, t1, x1⟩ := e1
        obtain ⟨a2, t2, x2⟩ := e2
        obtain ⟨⟨fk1, fi1, ft1⟩, fe1⟩ := f1
        obtain ⟨⟨fk2, fi2, ft2⟩, fe2⟩ := f2
        simp only at HR1 HR2 HF1 HF2 HEF HKW
        go_wp2_with fail
        refine HR1.out.mono ?_
        rintro e w4 ⟨rfl, hb⟩
        have HA4 := Lib.hid (HA3.out.on hb)
        have HC := Lib.hid (HR2.out w4 HA4.out)
        clear hb HR1 HR2 HA3
        go_wp2_with fail
        refine HC.out.mono ?_
        rintro e w5 ⟨rfl, hb⟩
        have HA5 := Lib.hid (HA4.out.on hb)
        clear hb HC HA4
        by_cases hx : x1 = 0
        · subst hx
          have HC := Lib.hid (HF1.out w5 HA5.out)
          clear HF1
          go_wp2_with fail
          refine HC.out.mono ?_
          rintro e w6 ⟨rfl, hb⟩
          have HA6 := Lib.hid (HA5.out.on hb)
          have HC := Lib.hid (HF2.out w6 HA6.out)
          clear hb HF2 HA5
          go_wp2_with fail
          refine HC.out.mono ?_
          rintro e w7 ⟨rfl, hb⟩
          have HA7 := Lib.hid (HA6.out.on hb)
          have HCK := Lib.hid (HKD.out w7 HA7.out)
          clear hb HKD HA6
          rcases HKW.out with ⟨k1, k2⟩ | k1
          · injection k1 with k1 k3
            injection k3 with k3 k4
            injection k2 with k2 k5
            injection k2 with k2 k6 k7
            subst k1 k4 k5 k6
            go_wp2_with fail
            refine HCK.out.mono ?_
            rintro e w8 ⟨rfl, hb⟩
            have HA8 := Lib.hid (HA7.out.on hb)
            clear hb HCK HA7
            go_wp2
            go_ret
            exact ⟨rfl, HA8.out.below⟩
          · injection k1 with k1 k3
            injection k3 with k3 k4
            subst k1 k4
            go_wp2_with fail
            refine HCK.out.mono ?_
            rintro e w8 ⟨rfl, hb⟩
            have HA8 := Lib.hid (HA7.out.on hb)
            clear hb HCK HA7
            go_wp2
            go_ret
            exact ⟨rfl, HA8.out.below⟩
        · have hx' : (x1 != 0) = true := by simpa using hx
          have hef := HEF.out hx
          rcases HKW.out with ⟨k1, k2⟩ | k1
          · injection k1 with k1 k3
            injection k3 with k3 k4
            obtain ⟨ha1, _⟩ := hef
            subst ha1
            subst k1
            subst k4
            clear hx
            go_wp2
            go_ret
            exact ⟨rfl, HA5.out.below⟩
          · injection k1 with k1 k3
            injection k3 with k3 k4
            subst k1 k4
            clear hx
            go_wp2
            go_ret
            exact ⟨rfl, HA5.out.below⟩
      · have hz' : ((symM s oneL (47 :: r)).2 != 0) = true := by simpa using hz
        change ((symM s [47, 111, 110, 101, 46, 108, 105, 110, 107] (47 :: r)).2 != 0) = true at hz'
        generalize (symM s [47, 111, 110, 101, 46, 108, 105, 110, 107] (47 :: r)).2 = e0 at *
        clear hz
        go_wp2
        go_ret
        exact ⟨rfl, HA3.out.below⟩
    · go_wp2_with fail
      · rename_i h47 _ _
        exact absurd (UInt8.toNat_inj.1 (by have h47' : (c.toNat : Int) = 47 := h47; have : c.toNat = 47 := by omega
                                            exact this)) hc
      all_goals go_wp2
      all_goals go_ret
      all_goals exact ⟨rfl, HA2.out.below⟩
end Go.Proofs.YtmabhciijdceoaaDoor
