/-
  Candidates: the program's.
-/
import Derived.Test.YtkpmfahmhmdccaaDoorE
namespace Go.Proofs.YtkpmfahmhmdccaaDoor
open Go.RowKit

/-- What is handed back. -/
def Cand (w : World) (r : List Str × Int) (e : Ending) (w' : World) : Prop :=
  ∃ A c, e = .returned (.tuple #[.slice A r.1.length c, .int .i64 r.2]) ∧ w'.ownsRow w.heap.size 9 1 (.slice A r.1.length c) r.1.length (strs r.1) ∧ Below w.heap.size w w'
theorem Cand.none (w w' : World) (n : Int) (hb : Below w.heap.size w w') : Cand w ([], n) (.returned (.tuple #[.slice none 0 0, .int .i64 n])) w' := ⟨_, _, rfl, World.ownsRow_nil _ _ _ _, hb⟩
theorem onlyL_no {o nm : Str} (h : ¬ (expE o nm).2 = 0) : onlyL o nm = ([], (expE o nm).2) := if_neg h
theorem onlyL_bad {o nm : Str} (h : (expE o nm).2 = 0) (k : ¬ (Fil.clean (expE o nm).1).2 = 0) : onlyL o nm = ([], (Fil.clean (expE o nm).1).2) := by unfold onlyL; rw [if_pos h, if_neg k]
theorem onlyL_one {o nm : Str} (h : (expE o nm).2 = 0) (k : (Fil.clean (expE o nm).1).2 = 0) : onlyL o nm = ([(Fil.clean (expE o nm).1).1], 0) := by unfold onlyL; rw [if_pos h, if_pos k]
theorem own_one (w w0 : World) (q : Str) (hb : Below w0.heap.size w0 w) : (w.alloc (.cells #[str q] 9)).ownsRow w0.heap.size 9 1 (.slice (some ⟨w.heap.size, 0, none⟩) 1 1) 1 (strs [q]) :=
  own_more (own_fresh w [q] (by simp [maxLen])) hb.size
set_option maxRecDepth 100000 in
set_option maxHeartbeats 1000000 in
theorem onlyCand_any (o nm : Str) (w : World) (lo : o.length ≤ 140737488351232) (ln : nm.length ≤ 140737488351232) (hm : Ml w) :
    Calls Tryd.prog 14 #[str nm, str o] w (Cand w (onlyL o nm)) := by
  have HX := Lib.hid (expand_any nm o w ln lo hm)
  unfold Exps at HX
  by_cases he : (expE o nm).2 = 0
  · have hel := expE_len o nm
    have HC := Lib.hid (fun W (h : Ml W) => clean_any (expE o nm).1 W (by omega) h)
    have HM := Lib.hid hm
    clear hm
    rcases clean_zero (expE o nm).1 with hc | hc
    · rw [onlyL_one he hc]
      rw [he] at HX
      rw [hc] at HC
      generalize (Fil.clean (expE o nm).1).1 = q at *
      generalize (expE o nm).1 = x at *
      clear he hc
      go_enter Tryd.func14, Tryd.ntmps14
      go_wp2_with (go_at_call 25; refine HX.out.mono ?_; rintro e w1 ⟨rfl, hb⟩; have HB := Lib.hid hb; clear hb)
      refine (HC.out w1 (HM.out.below HB.out)).mono ?_
      rintro e w2 ⟨rfl, hb⟩
      have HB2 := Lib.hid (HB.out.trans (hb.mono HB.out.size))
      clear hb
      go_wp2
      go_ret2
      exact ⟨_, _, rfl, own_one w2 w q HB2.out, HB2.out.alloc HB2.out.size _⟩
    · rw [onlyL_bad he (by rw [hc]; decide), hc]
      rw [he] at HX
      rw [hc] at HC
      generalize (Fil.clean (expE o nm).1).1 = q at *
      generalize (expE o nm).1 = x at *
      clear he hc
      go_enter Tryd.func14, Tryd.ntmps14
      go_wp2_with (go_at_call 25; refine HX.out.mono ?_; rintro e w1 ⟨rfl, hb⟩; have HB := Lib.hid hb; clear hb)
      refine (HC.out w1 (HM.out.below HB.out)).mono ?_
      rintro e w2 ⟨rfl, hb⟩
      have HB2 := Lib.hid (HB.out.trans (hb.mono HB.out.size))
      clear hb
      go_wp2
      go_ret2
      exact Cand.none _ _ _ HB2.out
  · rw [onlyL_no he]
    have heb : ((expE o nm).2 != 0) = true := by simpa using he
    generalize (expE o nm).1 = x at *
    generalize (expE o nm).2 = y at *
    clear he hm
    go_enter Tryd.func14, Tryd.ntmps14
    go_wp2_with (go_at_call 25; refine HX.out.mono ?_; rintro e w1 ⟨rfl, hb⟩; have HB := Lib.hid hb; clear hb)
    go_ret2
    exact Cand.none _ _ _ HB.out

theorem candE_empty (o : Str) (rp ps : List Str) (kn : List (Str × Str)) : candE o [] rp ps kn = ([], 120) := if_pos (.inl rfl)
theorem candE_long {o nm : Str} (rp ps : List Str) (kn : List (Str × Str)) (h : 200 < nm.length) : candE o nm rp ps kn = ([], 120) := if_pos (.inr h)
theorem candE_slash {o nm : Str} (rp ps : List Str) (kn : List (Str × Str)) (h0 : nm ≠ []) (h : ¬ 200 < nm.length) (k : 47 ∈ nm) : candE o nm rp ps kn = onlyL o nm := by
  unfold candE; rw [if_neg (by simp [h0, h]), if_pos k]
theorem candE_list {o nm : Str} (rp ps : List Str) (kn : List (Str × Str)) (h0 : nm ≠ []) (h : ¬ 200 < nm.length) (k : ¬ 47 ∈ nm) : candE o nm rp ps kn = (candL o nm rp ps kn, 0) := by
  unfold candE; rw [if_neg (by simp [h0, h]), if_neg k]
/-- Lists of an environment in memory. -/
structure EnvIn (w : World) (Q : Nat → Prop) (A2 A3 : Option Addr) (c2 c3 : Nat) (ps : List Str) (kn : List (Str × Str)) : Prop where
  ps : Src w Q A2 ps.length c2 (strs ps)
  kn : Kns w Q A3 kn.length c3 kn
theorem EnvIn.keep {w w' : World} {Q : Nat → Prop} {A2 A3 : Option Addr} {c2 c3 : Nat} {ps : List Str} {kn : List (Str × Str)} (h : EnvIn w Q A2 A3 c2 c3 ps kn) (hk : ∀ k, Q k → w'.heap[k]? = w.heap[k]?) : EnvIn w' Q A2 A3 c2 c3 ps kn :=
  ⟨h.ps.keep (fun k hq _ => hk k hq), h.kn.1, h.kn.2.keep (fun k hq _ => hk k hq)⟩
abbrev envA (A2 A3 : Option Addr) (c2 c3 : Nat) (ps : List Str) (kn : List (Str × Str)) : Array Value := #[.slice A2 ps.length c2, .slice A3 kn.length c3]
/-- What fits. -/
structure Fits (o nm : Str) (rp ps : List Str) (kn : List (Str × Str)) : Prop where
  lo : o.length ≤ 140737488351232
  ln : nm.length ≤ 140737488351232
  lr : ∀ d ∈ rp, d.length ≤ 140737488351232
  lp : ∀ d ∈ ps, d.length ≤ 140737488351232
  lk : ∀ x ∈ kn, x.1.length ≤ 140737488351232 ∧ x.2.length ≤ 140737488351232
  len : (rp.length + ps.length + 10) * 16 ≤ 140737488355328
  kl : kn.length ≤ 4398046511000
set_option maxRecDepth 100000 in
set_option maxHeartbeats 1000000 in
theorem cands_any (Q : Nat → Prop) (o nm : Str) (A1 A2 A3 : Option Addr) (c1 c2 c3 : Nat) (rp ps : List Str) (kn : List (Str × Str)) (w : World)
    (h1 : Src w Q A1 rp.length c1 (strs rp)) (h2 : EnvIn w Q A2 A3 c2 c3 ps kn) (hQ : ∀ k, Q k → k < w.heap.size) (hm : Ml w) (hf : Fits o nm rp ps kn) :
    Calls Tryd.prog 8 #[str nm, str o, .slice A1 rp.length c1, .agg (envA A2 A3 c2 c3 ps kn)] w (Cand w (candE o nm rp ps kn)) := by
  have hb1 := (Below.refl w.heap.size w).alloc (Nat.le_refl _) (.cells (envA A2 A3 c2 c3 ps kn) 25)
  have hx := Bx.new w (envA A2 A3 c2 c3 ps kn) 25
  by_cases h0 : nm = []
  · subst h0
    rw [candE_empty]
    have HB := Lib.hid hb1
    clear h1 h2 hm hf hb1 hx
    go_enter Tryd.func8, Tryd.ntmps8
    go_wp2
    go_ret2
    exact Cand.none _ _ _ HB.out
  · have h0' : (nm == []) = false := by simpa using h0
    have hsz : (ByteArray.mk nm.toArray).size = nm.length := str_size nm
    by_cases h200 : 200 < nm.length
    · rw [candE_long rp ps kn h200]
      have HB := Lib.hid hb1
      clear h1 h2 hm hf hb1 hx
      go_enter Tryd.func8, Tryd.ntmps8
      go_wp2
      go_ret2
      exact Cand.none _ _ _ HB.out
    · have HM := Lib.hid (hm.below hb1)
      have HK := Lib.hid (contains_any nm)
      by_cases h47 : 47 ∈ nm
      · rw [candE_slash rp ps kn h0 h200 h47]
        rw [decide_eq_true h47] at HK
        have HO := Lib.hid (fun W (h : Ml W) => onlyCand_any o nm W hf.lo hf.ln h)
        generalize onlyL o nm = r at *
        have HB := Lib.hid hb1
        clear h1 h2 hm hf hb1 hx h47 h0
        go_enter Tryd.func8, Tryd.ntmps8
        go_wp2_with (go_at_call 13; refine (HK.out _).mono ?_; rintro e w1 ⟨rfl, rfl⟩)
        refine (HO.out _ HM.out).mono ?_
        rintro e w2 ⟨A, c, rfl, ho, hb⟩
        have HW := Lib.hid (HB.out.trans (hb.mono HB.out.size))
        have HO2 := Lib.hid (own_more ho HB.out.size)
        clear ho hb
        go_wp2
        go_ret2
        exact ⟨A, c, rfl, HO2.out, HW.out⟩
      · rw [candE_list rp ps kn h0 h200 h47]
        rw [decide_eq_false h47] at HK
        have HC := Lib.hid (candsIn_any Q o nm A1 A2 A3 c1 c2 c3 rp ps kn (w.alloc (.cells (envA A2 A3 c2 c3 ps kn) 25)) (h1.keep (fun k hk _ => hb1.block k (hQ k hk))) (h2.keep (fun k hk => hb1.block k (hQ k hk))).ps (h2.keep (fun k hk => hb1.block k (hQ k hk))).kn (fun k hk => Nat.lt_of_lt_of_le (hQ k hk) hb1.size) HM.out hf.lo (Nat.le_of_not_lt h200) hf.lr hf.lp (fun x hx => (hf.lk x hx).2) (Nat.le_trans hf.kl (Nat.le_of_ble_eq_true rfl)) hf.len)
        have x0 := hx.c 0
        have x1 := hx.c 1
        simp only [List.getElem?_toArray, List.getElem?_cons_succ, List.getElem?_cons_zero] at x0 x1
        generalize candL o nm rp ps kn = r at *
        have HB := Lib.hid hb1
        clear h1 h2 hm hf hb1 hx h47 h0 HM
        go_enter Tryd.func8, Tryd.ntmps8
        go_wp2_with (go_at_call 13; refine (HK.out _).mono ?_; rintro e w3 ⟨rfl, rfl⟩)
        refine HC.out.mono ?_
        rintro e w2 ⟨A, c, rfl, ho, hb⟩
        have HW := Lib.hid (HB.out.trans (hb.mono HB.out.size))
        have HO2 := Lib.hid (own_more ho HB.out.size)
        clear ho hb
        go_wp2
        go_ret2
        exact ⟨A, c, rfl, HO2.out, HW.out⟩
end Go.Proofs.YtkpmfahmhmdccaaDoor
