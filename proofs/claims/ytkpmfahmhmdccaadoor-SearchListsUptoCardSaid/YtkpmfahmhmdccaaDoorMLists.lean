/-
  The law SearchLists, walked.
-/
import Derived.Test.YtkpmfahmhmdccaaDoorK
import Derived.Deep.RegionHeld
namespace Go.Proofs.YtkpmfahmhmdccaaDoor
open Go.RowKit

theorem take_at {P : Program} {md : Region.Mode} {ops : Array Oper} {Q : Exit → Act → World → Prop} {S : World → Prop} {i : Nat} {oi : Oper} {d : Tmp} {v : Value} {fuel : Nat} {listed : Array Bool} {a : Act} {w : World} (hi : ops[i]? = some oi) (hd : oi.dst = some d)
    (hs : Region.noSelect ops = true) (hf : Region.free md ops listed i = true) (hr : (Region.ready md ops listed).contains i = true)
    (hQ : ∀ c a w, Q (.panic c) (a.put (some d) v) w → Q (.panic c) a w) (hy : YieldsIf P ops S oi v a) (hS : S w)
    (h : wpAnyH P md ops Q S fuel (listed.setIfInBounds i true) (a.put (some d) v) w) : wpAnyH P md ops Q S (fuel + 1) listed a w :=
  wpAnyH_take hi hs hf hr (by rw [hd]; exact hQ) hy hS (by rw [hd]; exact h)
theorem grown_trans {a w w' : World} {row : Option Nat} (h : a.grownBy w row) (k : w.grownBy w' row) : a.grownBy w' row :=
  ⟨k.os.trans h.os, k.tape.trans h.tape, k.output.trans h.output, Nat.le_trans h.size k.size, fun j hj hn => (k.block j (Nat.lt_of_lt_of_le hj h.size) hn).trans (h.block j hj hn)⟩
/-- What fits a want. -/
abbrev Wt.Fits (x : Wt) : Prop := Proofs.YtkpmfahmhmdccaaDoor.Fits x.o x.nm x.rp x.ps x.kn
theorem Wt.candLen (x : Wt) : (candE x.o x.nm x.rp x.ps x.kn).1.length ≤ x.rp.length + x.ps.length + 3 := by
  unfold candE
  split
  · simp
  · split
    · unfold onlyL
      split
      · split <;> simp
      · simp
    · exact candL_len _ _ _ _ _
set_option maxRecDepth 100000 in
set_option maxHeartbeats 4000000 in
theorem lists_any (q : Wp) (x : Wt) (w : World) (h : WtIn w (fun k => k < w.heap.size) q x) (hf : x.Fits) (hm : Ml w) :
    Calls Tryd.prog 3 #[.agg (wtA q x)] w fun e w' => e = .returned (.bool true) ∧ Below w.heap.size w w' := by
  have hb0 := (Below.refl w.heap.size w).alloc (Nat.le_refl _) (.cells (wtA q x) 27)
  have hx0 := Bx.new w (wtA q x) 27
  have hs0 : (w.alloc (.cells (wtA q x) 27)).heap.size = w.heap.size + 1 := by simp
  have hi0 := h.keep (fun k hk => hb0.block k hk)
  have HM0 := Lib.hid (hm.below hb0)
  have HFW := Lib.hid (few_any q x)
  have HF := Lib.hid hf
  have hcl := x.candLen
  have hfl := hf.len
  have HAW := Lib.hid (fun W (h : Ml W) => awake_any W h)
  have HB0 := Lib.hid hb0
  have HX0 := Lib.hid hx0
  have HI0 := Lib.hid hi0
  clear h hm hb0 hx0 hi0 hf
  go_enter Tryd.func3, Tryd.ntmps3
  go_upto_region 1 with (fail)
  change Code.wp _ _ _ _ (w.alloc (.cells (wtA q x) 27))
  generalize w.alloc (.cells (wtA q x) 27) = w0 at *
  go_upto_region 2 with (go_at_call 6; refine (HAW.out _ HM0.out).mono ?_; rintro e w1 ⟨rfl, hb1⟩)
  have HB1 := Lib.hid (HB0.out.trans (hb1.mono HB0.out.size))
  have hx1 := HX0.out.below hb1
  have HX1 := Lib.hid hx1
  have HI1 := Lib.hid (HI0.out.keep (fun k hk => hb1.block k (by omega)))
  have HM1 := Lib.hid (HM0.out.below hb1)
  have hs1 := hb1.size
  have x0 := hx1.c 0
  have x1 := hx1.c 1
  have x2 := hx1.c 2
  have x3 := hx1.c 3
  have x4 := hx1.c 4
  simp only [List.getElem?_toArray, List.getElem?_cons_succ, List.getElem?_cons_zero] at x0 x1 x2 x3 x4
  clear hb1 hx1 HAW HX0 HI0 HM0 HB0
  by_cases lo : x.o.length ≤ 5000
  · rw [decide_eq_true lo] at HFW
    go_upto_region 4 with (go_at_call 7; refine (HFW.out _).mono ?_; rintro e w2 ⟨rfl, hb2⟩)
    have HB2 := Lib.hid (HB1.out.trans (hb2.mono HB1.out.size))
    have hx2 := HX1.out.below hb2
    have HX2 := Lib.hid hx2
    have HI2 := Lib.hid (HI1.out.keep (fun k hk => hb2.block k (by omega)))
    have HM2 := Lib.hid (HM1.out.below hb2)
    have hs2 := hb2.size
    have HC2 := Lib.hid (cands_any (fun k => k < w.heap.size) x.o x.nm q.r.1 q.p.1 q.k.1 q.r.2 q.p.2 q.k.2 x.rp x.ps x.kn w2 HI2.out.rp ⟨HI2.out.ps, HI2.out.kn⟩ (fun k hk => by omega) HM2.out HF.out)
    clear x0 x1 x2 x3 x4 hb2 HX1 HI1 HM1 HB1 HFW
    have x0 := hx2.c 0
    have x1 := hx2.c 1
    have x2 := hx2.c 2
    have x3 := hx2.c 3
    have x4 := hx2.c 4
    simp only [List.getElem?_toArray, List.getElem?_cons_succ, List.getElem?_cons_zero] at x0 x1 x2 x3 x4
    clear hx2
    have HXC := Lib.hid (fun W => fun (hI : WtIn W (fun k => k < w.heap.size) q x) (hW : w.heap.size ≤ W.heap.size) (hM : Ml W) => cands_any (fun k => k < w.heap.size) x.o x.nm q.r.1 q.p.1 q.k.1 q.r.2 q.p.2 q.k.2 x.rp x.ps x.kn W hI.rp ⟨hI.ps, hI.kn⟩ (fun k hk => by omega) hM HF.out)
    generalize hR : candE x.o x.nm x.rp x.ps x.kn = R at *
    obtain ⟨L, E⟩ := R
    have HR := Lib.hid hR
    clear hR
    simp only at hcl
    go_upto_region 5 with (go_at_call 8; refine HC2.out.mono ?_; rintro e w3 ⟨A, c, rfl, ho3, hb3⟩)
    have HB3 := Lib.hid (HB2.out.trans (hb3.mono HB2.out.size))
    have hx3 := HX2.out.below hb3
    have HX3 := Lib.hid hx3
    have HI3 := Lib.hid (HI2.out.keep (fun k hk => hb3.block k (by omega)))
    have HM3 := Lib.hid (HM2.out.below hb3)
    have hs3 := hb3.size
    have HO3 := Lib.hid ho3
    have HC3 := Lib.hid (HXC.out w3 HI3.out (by omega) HM3.out)
    clear x0 x1 x2 x3 x4 hb3 ho3 HX2 HI2 HM2 HB2 HC2 HXC
    have x0 := hx3.c 0
    have x1 := hx3.c 1
    have x2 := hx3.c 2
    have x3 := hx3.c 3
    have x4 := hx3.c 4
    simp only [List.getElem?_toArray, List.getElem?_cons_succ, List.getElem?_cons_zero] at x0 x1 x2 x3 x4
    clear hx3
    go_upto_region 6 with (go_at_call 8; refine HC3.out.mono ?_; rintro e w4 ⟨A4, c4, rfl, ho4, hb4⟩)
    have HB4 := Lib.hid (HB3.out.trans (hb4.mono HB3.out.size))
    have HX4 := Lib.hid (HX3.out.below hb4)
    have HI4 := Lib.hid (HI3.out.keep (fun k hk => hb4.block k (by omega)))
    have hs4 := hb4.size
    have HO4 := Lib.hid (Fil.own_below HO3.out hb4)
    have HP4 := Lib.hid ho4
    have hlt3 := fun k (hk : (Value.slice A L.length c).ownBlock = some k) => (HO3.out.lt k hk).2
    have HLT := Lib.hid (fun k (hk : (Value.slice A L.length c).ownBlock = some k) => And.intro (HO3.out.lt k hk).1 (HO3.out.lt k hk).2)
    clear x0 x1 x2 x3 x4 hb4 ho4 hlt3 HX3 HI3 HM3 HB3 HC3 HO3
    have hcap : L.length ≤ c := (Src.of_own HO4.out).cap
    go_upto_region 7 with (fail)
    go_loopw [8] (fun t wr => ∃ (k : Nat) (xs : List Value), k ≤ L.length ∧ t = .int .i64 (k : Int) ∧ wr.ownsRow w2.heap.size 9 1 (.slice A L.length c) L.length xs ∧ w4.grownBy wr (Value.slice A L.length c).ownBlock) (fun t _ => L.length - (intOf t).toNat)
    case atStart => exact ⟨0, _, Nat.zero_le _, rfl, HO4.out, World.grownBy.refl _ _⟩
    case round =>
      obtain ⟨k, xs, hk, rfl, ho, hg⟩ := hrel
      by_cases hlt : k < L.length
      · obtain ⟨ad, rfl⟩ : ∃ ad, A = some ad := by
          cases A with
          | none => have := ((Src.of_own ho).nil rfl).1; omega
          | some ad => exact ⟨ad, rfl⟩
        obtain ⟨b, rfl⟩ : ∃ b, ad = ⟨b, 0, none⟩ := by
          rcases ho.2 with ⟨hv, _⟩ | ⟨b, cap, cur, hv, _⟩
          · cases hv
          · injection hv with h1; injection h1 with h1; exact ⟨b, h1⟩
        have hxl : xs.length = L.length := by have := ho.1; simpa using this
        have c0 : wr.cell? ⟨b, k, none⟩ = some xs[k] := by rw [ho.cellAt k (by omega)]; exact List.getElem?_eq_getElem _
        have c1 := ho.frozenAt k
        have HS := Lib.hid (ho.stored k (str [115, 112, 111, 105, 108, 116]))
        have HG := Lib.hid hg
        clear ho hg
        generalize xs[k] = xk at *
        go_upto_region 99 with (fail)
        go_roundw
        case rel => exact ⟨k + 1, _, by omega, by go_num, HS.out.1, grown_trans HG.out HS.out.2⟩
        case measure => simp [intOf]; omega
      · obtain rfl : k = L.length := by omega
        clear ho hcap
        have hgs := hg.size
        have hne : ∀ j, j < w2.heap.size → some j ≠ (Value.slice A L.length c).ownBlock := fun j hj e => by
          have := (HLT.out j e.symm).1
          omega
        have hkb : ∀ j, j < w2.heap.size → wr.heap[j]? = w4.heap[j]? := fun j hj => hg.block j (by omega) (hne j hj)
        have HIN := Lib.hid (show WtIn wr (fun k => k < wr.heap.size) q x from ⟨(HI4.out.keep (fun j hj => hkb j (by omega))).rp.lt, (HI4.out.keep (fun j hj => hkb j (by omega))).ps.lt, (HI4.out.keep (fun j hj => hkb j (by omega))).kn.1, (HI4.out.keep (fun j hj => hkb j (by omega))).kn.2.weak (fun j hj => by omega)⟩)
        have hxz : Bx wr w.heap.size (wtA q x) 27 := HX4.out.keep (hkb _ (by omega))
        have HOZ := Lib.hid (HP4.out.kept hg (by
          cases hq : (Value.slice A4 L.length c4).ownBlock with
          | none => exact .inl rfl
          | some j =>
            refine .inr fun e => ?_
            have h1 := (HP4.out.lt j hq).1
            have h2 := (HLT.out j e.symm).2
            omega))
        have HBZ := Lib.hid (show Below w.heap.size w wr from HB4.out.grown hg (by omega) (fun j hj => by have := (HLT.out j hj).1; omega))
        have hsz : w.heap.size ≤ wr.heap.size := by omega
        have x0 := hxz.c 0
        have x1 := hxz.c 1
        have x2 := hxz.c 2
        have x3 := hxz.c 3
        have x4 := hxz.c 4
        simp only [List.getElem?_toArray, List.getElem?_cons_succ, List.getElem?_cons_zero] at x0 x1 x2 x3 x4
        clear hg hkb hne hxz HO4 HP4 HI4 HX4 HB4 HLT
        generalize wr = wz at *
        go_upto_region 10 with (fail)
        refine wp_region_held_drew (S := (fun X => Below wz.heap.size wz X)) (by kernel_rfl) (drew_below wz) (fun hHeld0 => ?_)
        refine take_at (i := 0) (d := 50) (v := .pointer (some ⟨w.heap.size, 0, none⟩)) rfl rfl (by kernel_rfl) (by kernel_rfl) (by kernel_rfl) (fun _ _ _ h => h) (Or.inl ⟨by rfl, ?_⟩) (by assumption) ?_
        · intro X hX; have y0 := Fil.cell_below hX x0; have y1 := Fil.cell_below hX x1; have y2 := Fil.cell_below hX x2; have y3 := Fil.cell_below hX x3; have y4 := Fil.cell_below hX x4; go_simp
        (try simp only [Act.put, List.setIfInBounds_toArray, List.set_cons_zero, List.set_cons_succ])
        refine take_at (i := 1) (d := 51) (v := str x.nm) rfl rfl (by kernel_rfl) (by kernel_rfl) (by kernel_rfl) (fun _ _ _ h => h) (Or.inl ⟨by rfl, ?_⟩) (by assumption) ?_
        · intro X hX; have y0 := Fil.cell_below hX x0; have y1 := Fil.cell_below hX x1; have y2 := Fil.cell_below hX x2; have y3 := Fil.cell_below hX x3; have y4 := Fil.cell_below hX x4; go_simp
        (try simp only [Act.put, List.setIfInBounds_toArray, List.set_cons_zero, List.set_cons_succ])
        refine take_at (i := 2) (d := 52) (v := .pointer (some ⟨w.heap.size, 1, none⟩)) rfl rfl (by kernel_rfl) (by kernel_rfl) (by kernel_rfl) (fun _ _ _ h => h) (Or.inl ⟨by rfl, ?_⟩) (by assumption) ?_
        · intro X hX; have y0 := Fil.cell_below hX x0; have y1 := Fil.cell_below hX x1; have y2 := Fil.cell_below hX x2; have y3 := Fil.cell_below hX x3; have y4 := Fil.cell_below hX x4; go_simp
        (try simp only [Act.put, List.setIfInBounds_toArray, List.set_cons_zero, List.set_cons_succ])
        refine take_at (i := 3) (d := 53) (v := str x.o) rfl rfl (by kernel_rfl) (by kernel_rfl) (by kernel_rfl) (fun _ _ _ h => h) (Or.inl ⟨by rfl, ?_⟩) (by assumption) ?_
        · intro X hX; have y0 := Fil.cell_below hX x0; have y1 := Fil.cell_below hX x1; have y2 := Fil.cell_below hX x2; have y3 := Fil.cell_below hX x3; have y4 := Fil.cell_below hX x4; go_simp
        (try simp only [Act.put, List.setIfInBounds_toArray, List.set_cons_zero, List.set_cons_succ])
        refine take_at (i := 4) (d := 54) (v := .pointer (some ⟨w.heap.size, 2, none⟩)) rfl rfl (by kernel_rfl) (by kernel_rfl) (by kernel_rfl) (fun _ _ _ h => h) (Or.inl ⟨by rfl, ?_⟩) (by assumption) ?_
        · intro X hX; have y0 := Fil.cell_below hX x0; have y1 := Fil.cell_below hX x1; have y2 := Fil.cell_below hX x2; have y3 := Fil.cell_below hX x3; have y4 := Fil.cell_below hX x4; go_simp
        (try simp only [Act.put, List.setIfInBounds_toArray, List.set_cons_zero, List.set_cons_succ])
        refine take_at (i := 5) (d := 55) (v := .slice q.r.1 x.rp.length q.r.2) rfl rfl (by kernel_rfl) (by kernel_rfl) (by kernel_rfl) (fun _ _ _ h => h) (Or.inl ⟨by rfl, ?_⟩) (by assumption) ?_
        · intro X hX; have y0 := Fil.cell_below hX x0; have y1 := Fil.cell_below hX x1; have y2 := Fil.cell_below hX x2; have y3 := Fil.cell_below hX x3; have y4 := Fil.cell_below hX x4; go_simp
        (try simp only [Act.put, List.setIfInBounds_toArray, List.set_cons_zero, List.set_cons_succ])
        refine take_at (i := 6) (d := 56) (v := .pointer (some ⟨w.heap.size, 3, none⟩)) rfl rfl (by kernel_rfl) (by kernel_rfl) (by kernel_rfl) (fun _ _ _ h => h) (Or.inl ⟨by rfl, ?_⟩) (by assumption) ?_
        · intro X hX; have y0 := Fil.cell_below hX x0; have y1 := Fil.cell_below hX x1; have y2 := Fil.cell_below hX x2; have y3 := Fil.cell_below hX x3; have y4 := Fil.cell_below hX x4; go_simp
        (try simp only [Act.put, List.setIfInBounds_toArray, List.set_cons_zero, List.set_cons_succ])
        refine take_at (i := 7) (d := 57) (v := .agg (envA q.p.1 q.k.1 q.p.2 q.k.2 x.ps x.kn)) rfl rfl (by kernel_rfl) (by kernel_rfl) (by kernel_rfl) (fun _ _ _ h => h) (Or.inl ⟨by rfl, ?_⟩) (by assumption) ?_
        · intro X hX; have y0 := Fil.cell_below hX x0; have y1 := Fil.cell_below hX x1; have y2 := Fil.cell_below hX x2; have y3 := Fil.cell_below hX x3; have y4 := Fil.cell_below hX x4; go_simp
        (try simp only [Act.put, List.setIfInBounds_toArray, List.set_cons_zero, List.set_cons_succ])
        refine wpAnyH_ready (rs := [8]) (by kernel_rfl) (by simp) ?_
        refine AllReadyH.cons rfl (fun K hK => ?_) AllReadyH.nil
        go_simp
        refine (env_any (fun k => k < wz.heap.size) q.p.1 q.k.1 q.p.2 q.k.2 x.ps.length x.kn _ ((HIN.out.keep (fun k hk => hHeld0.block k hk)).kn) (fun k hk => Nat.lt_of_lt_of_le hk hHeld0.size) HF.out.kl).mono ?_
        rintro e we ⟨Ae, ce, rfl, hke, hbe⟩
        have HKE := Lib.hid hke; have HBE := Lib.hid (hHeld0.trans (hbe.mono hHeld0.size)); have HIE := Lib.hid (HIN.out.keep (fun k hk => HBE.out.block k hk))
        go_simp
        refine hK.out _ _ (hHeld0.trans (hbe.mono hHeld0.size)) (fun hHeld1 => ?_)
        clear hK K
        (try simp only [Act.put, List.setIfInBounds_toArray, List.set_cons_zero, List.set_cons_succ])
        refine wpAnyH_ready (rs := [9]) (by kernel_rfl) (by simp) ?_
        refine AllReadyH.cons rfl (fun K hK => ?_) AllReadyH.nil
        go_simp
        refine (rcands_any (fun k => k < we.heap.size) x.o x.nm q.r.1 q.p.1 Ae q.r.2 q.p.2 ce x.rp x.ps x.kn we (HIE.out.rp.lt) ⟨HIE.out.ps.lt, HKE.out.1, HKE.out.2.weak (fun k hk => hk.2)⟩ (fun _ h => h) HF.out lo).mono ?_
        rintro e wf ⟨Af, cf, rfl, hof, hbf⟩
        rw [HR.out] at hof; simp only at hof; rw [HR.out]; have HOF := Lib.hid hof; have HBF := Lib.hid (HBE.out.trans (hbf.mono HBE.out.size))
        go_simp
        refine hK.out _ _ (hHeld1.trans (hbf.mono hHeld1.size)) (fun hHeld2 => ?_)
        clear hK K
        (try simp only [Act.put, List.setIfInBounds_toArray, List.set_cons_zero, List.set_cons_succ])
        refine take_at (i := 10) (d := 49) (v := .tuple #[.slice Af L.length cf, .int .i64 E]) rfl rfl (by kernel_rfl) (by kernel_rfl) (by kernel_rfl) (fun _ _ _ h => h) (Or.inl ⟨by rfl, ?_⟩) (by assumption) ?_
        · intro X hX; have y0 := Fil.cell_below hX x0; have y1 := Fil.cell_below hX x1; have y2 := Fil.cell_below hX x2; have y3 := Fil.cell_below hX x3; have y4 := Fil.cell_below hX x4; go_simp
        (try simp only [Act.put, List.setIfInBounds_toArray, List.set_cons_zero, List.set_cons_succ])
        refine take_at (i := 11) (d := 60) (v := .slice Af L.length cf) rfl rfl (by kernel_rfl) (by kernel_rfl) (by kernel_rfl) (fun _ _ _ h => h) (Or.inl ⟨by rfl, ?_⟩) (by assumption) ?_
        · intro X hX; have y0 := Fil.cell_below hX x0; have y1 := Fil.cell_below hX x1; have y2 := Fil.cell_below hX x2; have y3 := Fil.cell_below hX x3; have y4 := Fil.cell_below hX x4; go_simp
        (try simp only [Act.put, List.setIfInBounds_toArray, List.set_cons_zero, List.set_cons_succ])
        refine take_at (i := 12) (d := 61) (v := .int .i64 E) rfl rfl (by kernel_rfl) (by kernel_rfl) (by kernel_rfl) (fun _ _ _ h => h) (Or.inl ⟨by rfl, ?_⟩) (by assumption) ?_
        · intro X hX; have y0 := Fil.cell_below hX x0; have y1 := Fil.cell_below hX x1; have y2 := Fil.cell_below hX x2; have y3 := Fil.cell_below hX x3; have y4 := Fil.cell_below hX x4; go_simp
        (try simp only [Act.put, List.setIfInBounds_toArray, List.set_cons_zero, List.set_cons_succ])
        refine take_at (i := 13) (d := 9) (v := .slice Af L.length cf) rfl rfl (by kernel_rfl) (by kernel_rfl) (by kernel_rfl) (fun _ _ _ h => h) (Or.inl ⟨by rfl, ?_⟩) (by assumption) ?_
        · intro X hX; have y0 := Fil.cell_below hX x0; have y1 := Fil.cell_below hX x1; have y2 := Fil.cell_below hX x2; have y3 := Fil.cell_below hX x3; have y4 := Fil.cell_below hX x4; go_simp
        (try simp only [Act.put, List.setIfInBounds_toArray, List.set_cons_zero, List.set_cons_succ])
        refine take_at (i := 14) (d := 10) (v := .int .i64 E) rfl rfl (by kernel_rfl) (by kernel_rfl) (by kernel_rfl) (fun _ _ _ h => h) (Or.inl ⟨by rfl, ?_⟩) (by assumption) ?_
        · intro X hX; have y0 := Fil.cell_below hX x0; have y1 := Fil.cell_below hX x1; have y2 := Fil.cell_below hX x2; have y3 := Fil.cell_below hX x3; have y4 := Fil.cell_below hX x4; go_simp
        (try simp only [Act.put, List.setIfInBounds_toArray, List.set_cons_zero, List.set_cons_succ])
        refine wpAnyH_done (by kernel_rfl) ?_ _
        have HSM := Lib.hid (same_yes _ _ A4 Af L.length c4 cf L wf (Src.of_own (Fil.own_below HOZ.out HBF.out)) (Src.of_own HOF.out) (by omega))
        have HBW := Lib.hid (HBZ.out.trans (HBF.out.mono hsz))
        clear x0 x1 x2 x3 x4
        go_upto_region 99 with (go_at_call 11; refine HSM.out.mono ?_; rintro e wg ⟨rfl, hbg⟩)
        first | go_ret | skip
        exact ⟨rfl, HBW.out.trans (hbg.mono HBW.out.size)⟩
  · rw [decide_eq_false lo] at HFW
    go_upto_region 3 with (go_at_call 7; refine (HFW.out _).mono ?_; rintro e w2 ⟨rfl, hb2⟩)
    go_wp2
    go_ret
    exact ⟨rfl, HB1.out.trans (hb2.mono HB1.out.size)⟩
end Go.Proofs.YtkpmfahmhmdccaaDoor
