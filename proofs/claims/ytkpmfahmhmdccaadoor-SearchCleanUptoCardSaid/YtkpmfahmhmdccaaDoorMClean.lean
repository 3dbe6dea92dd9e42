/-
  The law SearchClean, walked.
-/
import Derived.Test.YtkpmfahmhmdccaaDoorK
namespace Go.Proofs.YtkpmfahmhmdccaaDoor
open Go.RowKit

theorem addP_clean {z p : Str} (h : p ∈ addP z) : Fil.clean p = (p, 0) := by
  unfold addP at h
  split at h
  · rename_i h0
    rw [List.mem_singleton.1 h, (Fil.clean_idem z h0).1]
    exact Prod.ext rfl h0
  · cases h
theorem inD_clean {o nm p : Str} {ds : List Str} (h : p ∈ inD o nm ds) : Fil.clean p = (p, 0) := by
  unfold inD at h
  obtain ⟨d, _, hd⟩ := List.mem_flatMap.1 h
  unfold inOne at hd
  split at hd
  · exact addP_clean hd
  · cases hd
theorem cacheP_clean {nm p : Str} : ∀ {kn}, p ∈ cacheP nm kn → Fil.clean p = (p, 0)
  | [], h => by cases h
  | (a, z) :: r, h => by
    rw [cacheP] at h
    split at h
    · exact addP_clean h
    · exact cacheP_clean h
theorem candE_clean (o nm : Str) (rp ps : List Str) (kn : List (Str × Str)) : (∀ p ∈ (candE o nm rp ps kn).1, Fil.clean p = (p, 0)) ∧ ((candE o nm rp ps kn).2 ≠ 0 → (candE o nm rp ps kn).1 = []) := by
  unfold candE
  split
  · exact ⟨by simp, fun _ => rfl⟩
  · split
    · unfold onlyL
      split
      · split
        · rename_i h0
          refine ⟨fun p hp => ?_, fun h => absurd rfl h⟩
          rw [List.mem_singleton.1 hp, (Fil.clean_idem _ h0).1]
          exact Prod.ext rfl h0
        · exact ⟨by simp, fun _ => rfl⟩
      · exact ⟨by simp, fun _ => rfl⟩
    · refine ⟨fun p hp => ?_, fun h => absurd rfl h⟩
      unfold candL at hp
      simp only [List.mem_append] at hp
      rcases hp with ((hp | hp) | hp) | hp
      · exact inD_clean hp
      · exact inD_clean hp
      · exact cacheP_clean hp
      · exact inD_clean hp
theorem fits_no_kn {o nm : Str} {rp ps : List Str} {kn : List (Str × Str)} (h : Fits o nm rp ps kn) : Fits o nm rp ps [] := ⟨h.lo, h.ln, h.lr, h.lp, (by intro x hx; cases hx), h.len, Nat.zero_le _⟩
theorem cand_short (x : Wt) (h : x.rp.length + x.ps.length ≤ 3000000) : (candE x.o x.nm x.rp x.ps []).1.length ≤ 8796093022208 := by
  unfold candE
  split
  · simp
  · split
    · unfold onlyL
      split
      · split <;> simp
      · simp
    · have := candL_len x.o x.nm x.rp x.ps []
      simp only
      omega
set_option maxRecDepth 100000 in
set_option maxHeartbeats 4000000 in
theorem sclean_any (q : Wp) (x : Wt) (w : World) (h : WtIn w (fun k => k < w.heap.size) q x) (hf : Fits x.o x.nm x.rp x.ps []) (hcl : (candE x.o x.nm x.rp x.ps []).1.length ≤ 8796093022208) (hm : Ml w) :
    Calls Tryd.prog 5 #[.agg (wtA q x)] w fun e w' => e = .returned (.bool true) ∧ Below w.heap.size w w' := by
  have hb0 := (Below.refl w.heap.size w).alloc (Nat.le_refl _) (.cells (wtA q x) 27)
  have hx0 := Bx.new w (wtA q x) 27
  have hs0 : (w.alloc (.cells (wtA q x) 27)).heap.size = w.heap.size + 1 := by simp
  have hi0 := h.keep (fun k hk => hb0.block k hk)
  have HM0 := Lib.hid (hm.below hb0)
  have HFW := Lib.hid (few_any q x)
  have HF := Lib.hid hf
  have HAW := Lib.hid (fun W (h : Ml W) => awake_any W h)
  have HB0 := Lib.hid hb0
  have HX0 := Lib.hid hx0
  have HI0 := Lib.hid hi0
  clear h hm hb0 hx0 hi0 hf
  go_enter Tryd.func5, Tryd.ntmps5
  go_upto_region 1 with (fail)
  change Code.wp _ _ _ _ (w.alloc (.cells (wtA q x) 27))
  generalize w.alloc (.cells (wtA q x) 27) = w0 at *
  go_upto_region 2 with (go_at_call 6; refine (HAW.out _ HM0.out).mono ?_; rintro e w1 ⟨rfl, hb1⟩)
  have HB1 := Lib.hid (HB0.out.trans (hb1.mono HB0.out.size))
  have hx1 := HX0.out.below hb1
  have HX1 := Lib.hid hx1
  have HI1 := Lib.hid (HI0.out.keep (fun k hk => hb1.block k (by omega)))
  have HM1 := Lib.hid (HM0.out.below hb1)
  have hs1 := hb1.size
  have x0 := hx1.c 0
  have x1 := hx1.c 1
  have x2 := hx1.c 2
  have x3 := hx1.c 3
  have x4 := hx1.c 4
  simp only [List.getElem?_toArray, List.getElem?_cons_succ, List.getElem?_cons_zero] at x0 x1 x2 x3 x4
  clear hb1 hx1 HAW HX0 HI0 HM0 HB0
  by_cases lo : x.o.length ≤ 5000
  · rw [decide_eq_true lo] at HFW
    go_upto_region 4 with (go_at_call 7; refine (HFW.out _).mono ?_; rintro e w2 ⟨rfl, hb2⟩)
    have HB2 := Lib.hid (HB1.out.trans (hb2.mono HB1.out.size))
    have hx2 := HX1.out.below hb2
    have HI2 := Lib.hid (HI1.out.keep (fun k hk => hb2.block k (by omega)))
    have HM2 := Lib.hid (HM1.out.below hb2)
    have hs2 := hb2.size
    have HC2 := Lib.hid (cands_any (fun k => k < w.heap.size) x.o x.nm q.r.1 q.p.1 none q.r.2 q.p.2 0 x.rp x.ps [] w2 HI2.out.rp ⟨HI2.out.ps, kns_none _ _⟩ (fun k hk => by omega) HM2.out HF.out)
    clear x0 x1 x2 x3 x4 hb2 HX1 HI1 HM1 HB1 HFW
    have x0 := hx2.c 0
    have x1 := hx2.c 1
    have x2 := hx2.c 2
    have x3 := hx2.c 3
    have x4 := hx2.c 4
    simp only [List.getElem?_toArray, List.getElem?_cons_succ, List.getElem?_cons_zero] at x0 x1 x2 x3 x4
    clear hx2
    obtain ⟨hcc, hce⟩ := candE_clean x.o x.nm x.rp x.ps []
    generalize hR : candE x.o x.nm x.rp x.ps [] = R at *
    obtain ⟨L, E⟩ := R
    simp only at hcl hcc hce
    have HCC := Lib.hid hcc
    have HCE := Lib.hid hce
    clear hR hcc hce
    go_upto_region 5 with (go_at_call 8; refine HC2.out.mono ?_; rintro e w3 ⟨A, c, rfl, ho3, hb3⟩)
    have HB3 := Lib.hid (HB2.out.trans (hb3.mono HB2.out.size))
    have HM3 := Lib.hid (HM2.out.below hb3)
    have HO3 := Lib.hid (Src.of_own ho3).lt
    clear x0 x1 x2 x3 x4 hb3 ho3 HI2 HM2 HB2 HC2
    have hcap : L.length ≤ c := HO3.out.cap
    by_cases hE : E = 0
    · subst hE
      go_upto_region 8 with (fail)
      go_loopw [6] (fun t wr => ∃ k : Nat, k ≤ L.length ∧ t = .int .i64 (k : Int) ∧ Below w3.heap.size w3 wr) (fun t _ => L.length - (intOf t).toNat)
      case atStart => exact ⟨0, Nat.zero_le _, rfl, Below.refl _ _⟩
      case round =>
        obtain ⟨k, hk, rfl, hb⟩ := hrel
        have HB := Lib.hid hb
        by_cases hlt : k < L.length
        · obtain ⟨ad, rfl⟩ : ∃ ad, A = some ad := by
            cases A with
            | none => have := (HO3.out.nil rfl).1; omega
            | some ad => exact ⟨ad, rfl⟩
          have hc := (HO3.out.below hb (fun _ h => h)).at_ ad rfl k _ (strs_get L k hlt)
          have hcl2 := HCC.out L[k] (List.getElem_mem _)
          have hl2 := (Fil.clean_len L[k]).1
          rw [hcl2] at hl2
          simp only at hl2
          have HC := Lib.hid (clean_any L[k] wr (by omega) (HM3.out.below hb))
          rw [hcl2] at HC
          generalize L[k] = p at *
          clear hb hcl2
          go_upto_region 11 with (go_at_call 12; refine HC.out.mono ?_; rintro e w4 ⟨rfl, hb4⟩)
          have HB4 := Lib.hid (HB.out.trans (hb4.mono HB.out.size))
          have hc4 := Fil.cell_below hb4 hc
          clear hb4 hc
          go_upto_region 99 with (fail)
          go_roundw
          case rel => exact ⟨k + 1, by omega, by go_num, HB4.out⟩
          case measure => simp [intOf]; omega
        · obtain rfl : k = L.length := by omega
          go_upto_region 99 with (fail)
          first | go_ret | skip
          exact ⟨rfl, HB3.out.trans (HB.out.mono HB3.out.size)⟩
    · have hl := HCE.out hE
      subst hl
      have hEb : (E != 0) = true := by simpa using hE
      go_upto_region 99 with (fail)
      first | go_ret | skip
      exact ⟨rfl, HB3.out⟩
  · rw [decide_eq_false lo] at HFW
    go_upto_region 3 with (go_at_call 7; refine (HFW.out _).mono ?_; rintro e w2 ⟨rfl, hb2⟩)
    go_wp2
    go_ret
    exact ⟨rfl, HB1.out.trans (hb2.mono HB1.out.size)⟩
end Go.Proofs.YtkpmfahmhmdccaaDoor
