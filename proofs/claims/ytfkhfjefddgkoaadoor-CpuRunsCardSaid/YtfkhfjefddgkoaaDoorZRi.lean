/-
  The document's run, walked.
-/
import Derived.Test.YtfkhfjefddgkoaaDoorZRh
namespace Go.Proofs.YtfkhfjefddgkoaaDoor
open Go.RowKit

theorem Wd.rstep {w1 wz : World} {B g : Nat} {F P : Nat → Prop} {ss : List Seg} {c : Cx} (h : Wd w1 wz B g F ss P) (hok : Okc c) :
    Calls Tryd.prog 13 #[cxV c, .pointer (some ⟨g, 0, none⟩)] wz fun en w' => en = .returned (.tuple #[cxV (stepM ss c).2.1, .agg (evA (stepM ss c).1)]) ∧ Wd w1 w' B g F (stepM ss c).2.2 P ∧ Kept P wz w' :=
  h.went2 fun _ m => rStep_any m hok
/-- Where the loop stands. -/
structure RunD (w w1 wr : World) (B g : Nat) (F : Nat → Prop) (m : Nat) (ss : List Seg) (c : Cx) (j : Nat) (ci : Cx) (si : List Seg) : Prop where
  wd : Wd w wr B g F si (fun k => w.heap.size ≤ k ∧ k < w1.heap.size)
  x : Cb wr w.heap.size ci
  z : ctxIn wr (w.heap.size + 1)
  e : evIn wr (w.heap.size + 1 + 1)
  ok : Okc ci
  eq : runM m 0 ss c = runM (m - j) (j : Int) si ci
set_option maxRecDepth 100000 in
set_option maxHeartbeats 8000000 in
theorem rRun_any {w : World} {B g : Nat} {F : Nat → Prop} {c : Cx} {ss : List Seg} (most : Int) (h : Mies w B g F ss) (hok : Okc c) (hm : I64 most) :
    Calls Tryd.prog 16 #[cxV c, .pointer (some ⟨g, 0, none⟩), .int .i64 most] w fun en w' => en = .returned (.tuple #[cxV (runM most.toNat 0 ss c).2.2.1, .agg (evA (runM most.toNat 0 ss c).1), .int .i64 (runM most.toNat 0 ss c).2.1]) ∧ WentM w w' B g F (runM most.toNat 0 ss c).2.2.2 := by
  go_enter Tryd.func16, Tryd.ntmps16
  go_upto_region 1 with (fail)
  obtain ⟨h0, h1, h2, hb⟩ := al_three w (cxA c) z18 (evA ⟨0, 0, 0, 0, 0⟩) 26 26 37
  change Code.wp _ _ _ _ (al (al (al w (cxA c) 26) z18 26) (evA ⟨0, 0, 0, 0, 0⟩) 37)
  have hwd := (Wd.start h).moreR hb
  generalize al (al (al w (cxA c) 26) z18 26) (evA ⟨0, 0, 0, 0, 0⟩) 37 = w1 at *
  have hz1 := h2.lt
  have HR1 := Lib.hid (show RunD w w1 w1 B g F most.toNat ss c 0 c ss from ⟨hwd.weak fun k hk => .inr hk, ⟨h0, hok.len⟩, ⟨_, h1, rfl⟩, ⟨_, h2⟩, hok, rfl⟩)
  have HMM := Lib.hid hm
  clear h0 h1 h2 hb hwd h hok hm
  go_upto_region 2 with (fail)
  go_loopw [9] (fun i wr => ∃ (j : Nat) (ci : Cx) (si : List Seg), j ≤ most.toNat ∧ i = .int .i64 (j : Int) ∧ RunD w w1 wr B g F most.toNat ss c j ci si) (fun i _ => most.toNat - (intOf i).toNat)
  case atStart => exact ⟨0, c, ss, Nat.zero_le _, rfl, HR1.out⟩
  case round =>
    obtain ⟨j, ci, si, hj, rfl, hat⟩ := hrel
    have hmost := HMM.out
    unfold I64 at hmost
    have HAT := Lib.hid hat
    clear hat HR1
    by_cases hlt : (j : Int) < most
    · have hjm : j < most.toNat := by omega
      have HLX := Lib.hid HAT.out.x.lc
      have HST := Lib.hid (HAT.out.wd.rstep HAT.out.ok)
      have HO3 := Lib.hid (step_ok HAT.out.ok (ss := si))
      have HQ0 := Lib.hid (fun hk => HAT.out.eq.trans (runM_step (n := (j : Int)) hjm hk))
      have HQ1 := Lib.hid (fun hk => HAT.out.eq.trans (runM_done (n := (j : Int)) hjm hk))
      have HQ2 := Lib.hid (fun h0 hk => HAT.out.eq.trans (runM_told (n := (j : Int)) hjm h0 hk))
      generalize stepM si ci = R at *
      obtain ⟨ev, d, s3⟩ := R
      simp only at HST HO3 HQ0 HQ1 HQ2
      have HLD := Lib.hid HO3.out.len
      go_upto_region 4 with (first
        | ((with_reducible refine load_c (by rfl) ?_ HLX.out ?_); (· rfl))
        | (go_at_call 13; refine (HST.out).mono ?_; rintro en w3 ⟨rfl, hw3, hk3⟩; have HW3 := Lib.hid hw3; have HX3 := Lib.hid (HAT.out.x.kept hk3 (by omega)); have HZ3 := Lib.hid (HAT.out.z.kept hk3 (by omega)); have HE3 := Lib.hid (HAT.out.e.kept hk3 (by omega)); have HCI := Lib.hid (laid_two w3 d ev HLD.out).1; have HEI := Lib.hid (laid_two w3 d ev HLD.out).2.1; clear hw3 hk3 HST)
        | ((with_reducible refine store_c (c := d) (by rfl) ?_ ?_ HCI.out HLD.out ?_); (· rfl); (· rfl))
        | ((with_reducible refine store_e (e := ev) (by rfl) ?_ ?_ HEI.out ?_); (· rfl); (· rfl)))
      obtain ⟨_, _, hc4, he4, hb4⟩ := laid_two w3 d ev HLD.out
      change Code.wp _ _ _ _ ((((w3.alloc (.cells z18 26)).alloc (.cells (evA ⟨0, 0, 0, 0, 0⟩) 37)).setRow w3.heap.size (cxA d)).setRow (w3.heap.size + 1) (evA ev))
      have hz3 : w.heap.size + 1 + 1 < w3.heap.size := by obtain ⟨_, h⟩ := HE3.out; exact h.lt
      generalize (((w3.alloc (.cells z18 26)).alloc (.cells (evA ⟨0, 0, 0, 0, 0⟩) 37)).setRow w3.heap.size (cxA d)).setRow (w3.heap.size + 1) (evA ev) = w4 at *
      have HX4 := Lib.hid (HX3.out.below hb4)
      have HZ4 := Lib.hid (HZ3.out.below hb4)
      have HE4 := Lib.hid (HE3.out.below hb4)
      have HW4 := Lib.hid (HW3.out.quiet hb4)
      have q0 : w4.cell? ⟨w3.heap.size + 1, 0, none⟩ = some (.int .i64 ev.kind) := he4.c 0
      have HC4 := Lib.hid hc4
      have HV4 := Lib.hid he4
      clear hb4 hc4 he4 HCI HEI HX3 HZ3 HE3 HW3 HLX HAT
      have bd : Beside w4 w4.drew (fun _ => False) := Beside.of_below (drew_below w4) _
      generalize w3.heap.size = b3 at *
      by_cases h0 : ev.kind = 0
      · rw [h0] at q0
        have HN := Lib.hid (HQ0.out h0)
        clear HQ0 HQ1 HQ2 h0 bd
        have HLC := Lib.hid HC4.out.lc
        have HXI := Lib.hid HX4.out.isIn
        go_upto_region 11 with (first
          | ((with_reducible refine load_c (by rfl) ?_ HLC.out ?_); (· rfl))
          | ((with_reducible refine store_c (c := d) (by rfl) ?_ ?_ HXI.out HLD.out ?_); (· rfl); (· rfl)))
        have b5 := row_beside w4 w.heap.size (cxA d)
        have HR5 := Lib.hid (show RunD w w1 (w4.setRow w.heap.size (cxA d)) B g F most.toNat ss c (j + 1) d s3 from ⟨HW4.out.row (e := w.heap.size) (by omega) b5, HXI.out.row d HLD.out, HZ4.out.beside b5 (by omega), HE4.out.beside b5 (by omega), HO3.out, HN.out⟩)
        generalize w4.setRow w.heap.size (cxA d) = w5 at *
        clear b5 HW4 HX4 HZ4 HE4 HC4 HV4 HLC HXI q0
        go_wp2_with fail
        go_roundw
        case rel => exact ⟨j + 1, d, s3, hjm, by go_num, HR5.out⟩
        case measure => simp [intOf]; omega
      by_cases h15 : ev.kind = 1 ∨ ev.kind = 5
      · have HN := Lib.hid (HQ1.out h15)
        have HFIN := Lib.hid (show ∀ w6, Beside w4.drew w6 (fun k => k = w.heap.size + 1 ∨ k = w.heap.size + 1 + 1) → WentM w w6 B g F s3 from fun w6 k3 => ((HW4.out.quiet (drew_below w4)).rows (by omega) (by omega) k3).went)
        clear HQ0 HQ1 HQ2 h0
        have z4 := HZ4.out.beside bd (fun h => h)
        have e4 := HE4.out.beside bd (fun h => h)
        have d4 : Bx w4.drew (b3 + 1) (evA ev) 37 := HV4.out.below (drew_below w4)
        have c4 := HC4.out.lc.below (drew_below w4)
        rcases h15 with h1 | h5
        · rw [h1] at q0
          clear h1
          go_upto_region 8 with (fail)
          refine wp_region_any (by kernel_rfl) ?_
          change wpAny _ _ _ _ (1 + 4 + 1) _ _ w4.drew
          refine wpAny_take (i := 2) (v := .int .i64 (j : Int)) rfl (by kernel_rfl) (by kernel_rfl) (by kernel_rfl) (fun _ _ _ h => h) (Or.inl ⟨by rfl, fun w => by go_simp⟩) ?_
          refine ret_gen (L0 := #[false, false, true, false, false, false]) (L1 := #[true, false, true, false, false, false]) (L2 := #[false, true, true, false, false, false]) (L3 := #[true, true, true, false, false, false]) (L4 := #[true, false, true, true, false, false]) (L5 := #[true, true, true, true, false, false]) (L6 := #[true, true, true, true, true, false])
            (i0 := 0) (i1 := 1) (i2 := 3) (i3 := 4) (b := b3) (e := w.heap.size + 1) (f := w.heap.size + 1 + 1) (c := d) (ev := ev) rfl rfl rfl rfl
            ⟨by decide, by decide, by decide, by decide, by decide, by decide, (by decide : 30 < 47), (by decide : 31 < 47), rfl, rfl, rfl⟩ c4 z4 e4 (by omega)
            (fun w' => Bx w' (b3 + 1) (evA ev) 37) d4 (fun w' hw => hw.beside (row_beside w' _ _) (by omega))
            (fun a' w' K ha hw hK => load_e rfl ((ha 11 (by decide)).trans rfl) hw (hK _ (Below.refl _ _)))
            (.inl (by kernel_rfl)) (.inl (by kernel_rfl)) (by kernel_rfl) (by kernel_rfl) (fun _ => by kernel_rfl) (by kernel_rfl) rfl rfl rfl rfl rfl rfl rfl rfl ?_
          intro w5 k1 k2 k3
          refine wpAny_ready (rs := [5]) (by kernel_rfl) (by simp) (AllReady.cons rfl (fun K hK => ?_) AllReady.nil)
          rw [if_pos (by rfl)]
          have HW := Lib.hid (HFIN.out _ k3)
          have K1 := Lib.hid k1
          have K2 := Lib.hid k2
          clear k1 k2 k3 z4 e4 d4 c4 bd HW4 HX4 HZ4 HE4 HC4 HV4
          go_simp
          refine hK _ _ (wpAny_done (by kernel_rfl) ?_ _)
          clear hK K
          go_wp2_with fail
          refine bodyPost_ret (v := .tuple #[cxV d, .agg (evA ev), .int .i64 (j : Int)]) (back_cex rfl (by rfl) (by rfl) (by rfl) K1.out K2.out) rfl ?_
          rw [HN.out]
          exact ⟨rfl, HW.out⟩
        · rw [h5] at q0
          clear h5
          go_upto_region 8 with (fail)
          refine wp_region_any (by kernel_rfl) ?_
          change wpAny _ _ _ _ (1 + 4 + 1) _ _ w4.drew
          refine wpAny_take (i := 2) (v := .int .i64 (j : Int)) rfl (by kernel_rfl) (by kernel_rfl) (by kernel_rfl) (fun _ _ _ h => h) (Or.inl ⟨by rfl, fun w => by go_simp⟩) ?_
          refine ret_gen (L0 := #[false, false, true, false, false, false]) (L1 := #[true, false, true, false, false, false]) (L2 := #[false, true, true, false, false, false]) (L3 := #[true, true, true, false, false, false]) (L4 := #[true, false, true, true, false, false]) (L5 := #[true, true, true, true, false, false]) (L6 := #[true, true, true, true, true, false])
            (i0 := 0) (i1 := 1) (i2 := 3) (i3 := 4) (b := b3) (e := w.heap.size + 1) (f := w.heap.size + 1 + 1) (c := d) (ev := ev) rfl rfl rfl rfl
            ⟨by decide, by decide, by decide, by decide, by decide, by decide, (by decide : 30 < 47), (by decide : 31 < 47), rfl, rfl, rfl⟩ c4 z4 e4 (by omega)
            (fun w' => Bx w' (b3 + 1) (evA ev) 37) d4 (fun w' hw => hw.beside (row_beside w' _ _) (by omega))
            (fun a' w' K ha hw hK => load_e rfl ((ha 11 (by decide)).trans rfl) hw (hK _ (Below.refl _ _)))
            (.inl (by kernel_rfl)) (.inl (by kernel_rfl)) (by kernel_rfl) (by kernel_rfl) (fun _ => by kernel_rfl) (by kernel_rfl) rfl rfl rfl rfl rfl rfl rfl rfl ?_
          intro w5 k1 k2 k3
          refine wpAny_ready (rs := [5]) (by kernel_rfl) (by simp) (AllReady.cons rfl (fun K hK => ?_) AllReady.nil)
          rw [if_pos (by rfl)]
          have HW := Lib.hid (HFIN.out _ k3)
          have K1 := Lib.hid k1
          have K2 := Lib.hid k2
          clear k1 k2 k3 z4 e4 d4 c4 bd HW4 HX4 HZ4 HE4 HC4 HV4
          go_simp
          refine hK _ _ (wpAny_done (by kernel_rfl) ?_ _)
          clear hK K
          go_wp2_with fail
          refine bodyPost_ret (v := .tuple #[cxV d, .agg (evA ev), .int .i64 (j : Int)]) (back_cex rfl (by rfl) (by rfl) (by rfl) K1.out K2.out) rfl ?_
          rw [HN.out]
          exact ⟨rfl, HW.out⟩
      · have HN := Lib.hid (HQ2.out h0 h15)
        have HFIN := Lib.hid (show ∀ w6, Beside w4.drew w6 (fun k => k = w.heap.size + 1 ∨ k = w.heap.size + 1 + 1) → WentM w w6 B g F s3 from fun w6 k3 => ((HW4.out.quiet (drew_below w4)).rows (by omega) (by omega) k3).went)
        have g0 : (ev.kind == 0) = false := by simpa using h0
        have g1 : (ev.kind == 1) = false := by simpa using fun h => h15 (.inl h)
        have g5 : (ev.kind == 5) = false := by simpa using fun h => h15 (.inr h)
        have hj1 : IntKind.i64.wrap ((j : Int) + 1) = (j : Int) + 1 := by rw [w64_kind]; unfold w64 wrap64; omega
        clear HQ0 HQ1 HQ2 h0 h15
        have z4 := HZ4.out.beside bd (fun h => h)
        have e4 := HE4.out.beside bd (fun h => h)
        have d4 : Bx w4.drew (b3 + 1) (evA ev) 37 := HV4.out.below (drew_below w4)
        have c4 := HC4.out.lc.below (drew_below w4)
        go_upto_region 5 with (fail)
        refine wp_region_any (by kernel_rfl) ?_
        change wpAny _ _ _ _ (1 + 4 + 2) _ _ w4.drew
        refine wpAny_take (i := 2) (v := .int .i64 (j : Int)) rfl (by kernel_rfl) (by kernel_rfl) (by kernel_rfl) (fun _ _ _ h => h) (Or.inl ⟨by rfl, fun w => by go_simp⟩) ?_
        refine wpAny_take (i := 3) (v := .int .i64 ((j : Int) + 1)) rfl (by kernel_rfl) (by kernel_rfl) (by kernel_rfl) (fun _ _ _ h => h) (Or.inl ⟨by rfl, fun w => by go_simp⟩) ?_
        refine ret_gen (L0 := #[false, false, true, true, false, false, false]) (L1 := #[true, false, true, true, false, false, false]) (L2 := #[false, true, true, true, false, false, false]) (L3 := #[true, true, true, true, false, false, false]) (L4 := #[true, false, true, true, true, false, false]) (L5 := #[true, true, true, true, true, false, false]) (L6 := #[true, true, true, true, true, true, false])
          (i0 := 0) (i1 := 1) (i2 := 4) (i3 := 5) (b := b3) (e := w.heap.size + 1) (f := w.heap.size + 1 + 1) (c := d) (ev := ev) rfl rfl rfl rfl
          ⟨by decide, by decide, by decide, by decide, by decide, by decide, (by decide : 23 < 47), (by decide : 24 < 47), rfl, rfl, rfl⟩ c4 z4 e4 (by omega)
          (fun w' => Bx w' (b3 + 1) (evA ev) 37) d4 (fun w' hw => hw.beside (row_beside w' _ _) (by omega))
          (fun a' w' K ha hw hK => load_e rfl ((ha 11 (by decide)).trans rfl) hw (hK _ (Below.refl _ _)))
          (.inl (by kernel_rfl)) (.inl (by kernel_rfl)) (by kernel_rfl) (by kernel_rfl) (fun _ => by kernel_rfl) (by kernel_rfl) rfl rfl rfl rfl rfl rfl rfl rfl ?_
        intro w5 k1 k2 k3
        refine wpAny_ready (rs := [6]) (by kernel_rfl) (by simp) (AllReady.cons rfl (fun K hK => ?_) AllReady.nil)
        rw [if_pos (by rfl)]
        have HW := Lib.hid (HFIN.out _ k3)
        have K1 := Lib.hid k1
        have K2 := Lib.hid k2
        clear k1 k2 k3 z4 e4 d4 c4 bd HW4 HX4 HZ4 HE4 HC4 HV4
        go_simp
        refine hK _ _ (wpAny_done (by kernel_rfl) ?_ _)
        clear hK K
        go_wp2_with fail
        refine bodyPost_ret (v := .tuple #[cxV d, .agg (evA ev), .int .i64 ((j : Int) + 1)]) (back_cex rfl (by rfl) (by rfl) (by rfl) K1.out K2.out) rfl ?_
        rw [HN.out]
        exact ⟨rfl, HW.out⟩
    · have hje : j = most.toNat := by omega
      have HN := Lib.hid (show runM most.toNat 0 ss c = (restE ci, (j : Int), ci, si) by rw [HAT.out.eq, hje, Nat.sub_self]; rfl)
      have HLX := Lib.hid HAT.out.x.lc
      have HLI := Lib.hid HAT.out.ok.len
      have q0 := HAT.out.x.pc
      have HZI := Lib.hid HAT.out.z
      obtain ⟨he2, hc3, he3, hb3⟩ := laid_in HAT.out.z HAT.out.e (by omega) ci (restE ci) HAT.out.ok.len
      have HEI := Lib.hid he2
      have K1 := Lib.hid hc3
      have K2 := Lib.hid he3
      have HW := Lib.hid (HAT.out.wd.rows (by omega) (by omega) hb3).went
      clear hje he2 hc3 he3 hb3 HAT
      by_cases hp : ci.pc = 0
      · have hre : restE ci = ⟨1, 0, 0, 0, 0⟩ := if_pos hp
        rw [hp] at q0
        rw [hre] at K1 K2 HW HN
        go_upto_region 99 with (first
          | ((with_reducible refine load_c (by rfl) ?_ HLX.out ?_); (· rfl))
          | ((with_reducible refine store_c (c := ci) (by rfl) ?_ ?_ HZI.out HLI.out ?_); (· rfl); (· rfl))
          | ((with_reducible refine store_e (e := ⟨1, 0, 0, 0, 0⟩) (by rfl) ?_ ?_ HEI.out ?_); (· rfl); (· rfl)))
        refine bodyPost_ret (v := .tuple #[cxV ci, .agg (evA ⟨1, 0, 0, 0, 0⟩), .int .i64 (j : Int)]) (back_cex rfl (by rfl) (by rfl) (by rfl) K1.out K2.out) rfl ?_
        rw [HN.out]
        exact ⟨rfl, HW.out⟩
      · have hre : restE ci = ⟨6, 0, 0, 0, 0⟩ := if_neg hp
        have hp2 : (ci.pc == 0) = false := by simpa using hp
        rw [hre] at K1 K2 HW HN
        clear hp
        go_upto_region 99 with (first
          | ((with_reducible refine load_c (by rfl) ?_ HLX.out ?_); (· rfl))
          | ((with_reducible refine store_c (c := ci) (by rfl) ?_ ?_ HZI.out HLI.out ?_); (· rfl); (· rfl))
          | ((with_reducible refine store_e (e := ⟨6, 0, 0, 0, 0⟩) (by rfl) ?_ ?_ HEI.out ?_); (· rfl); (· rfl)))
        refine bodyPost_ret (v := .tuple #[cxV ci, .agg (evA ⟨6, 0, 0, 0, 0⟩), .int .i64 (j : Int)]) (back_cex rfl (by rfl) (by rfl) (by rfl) K1.out K2.out) rfl ?_
        rw [HN.out]
        exact ⟨rfl, HW.out⟩
end Go.Proofs.YtfkhfjefddgkoaaDoor
