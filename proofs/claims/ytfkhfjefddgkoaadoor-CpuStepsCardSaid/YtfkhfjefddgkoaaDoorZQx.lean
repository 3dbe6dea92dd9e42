/-
  CpuSteps, walked.
-/
import Derived.Test.YtfkhfjefddgkoaaDoorZQr
namespace Go.Proofs.YtfkhfjefddgkoaaDoor
open Go.RowKit

theorem yields_co {ops : Array Oper} {S : World → Prop} {op : Oper} {a : Act} {x : Tmp} {b f : Nat} {c : Cx} (hl : c.rs.length = 16) (hw : Region.wanted op (yielded ops a.tmps) = true) (ho : op.op = .load 26 (.tmp x)) (hx : a.eval (.tmp x) = .pointer (some ⟨b, f, none⟩)) (hS : ∀ w, S w → w.rangeAt b f (cxC c)) : YieldsIf Tryd.prog ops S op (cxV c) a :=
  yieldsIf_load_mid hw 26 _ ho b f hx (cxC c) _ hS Tryd.underlying26 rfl (by rw [cxC_len hl]; exact Tryd.info_ctx)
/-- Where the loop stands. -/
structure StepsAt (w wr : World) (g gm e f : Nat) (ci : Cx) (si : List Seg) : Prop where
  wm : Wm w wr (fun k => k = e ∨ k = f) g si gm si
  c1 : Cb wr e ci
  c2 : Cb wr f ci
  ok : Okc ci
set_option maxRecDepth 100000 in
set_option maxHeartbeats 8000000 in
theorem steps_any (x : Cs) (A : Option Addr) (a : Nat) (B : Option Addr) (e : Nat) (w : World) (h : CsV w (fun k => k < w.heap.size) x A a B e) (b1 : UInt8) (hs : Cod.Shps w) :
    Calls Tryd.prog 3 #[caseV x A a B e, .int .u8 (b1.toNat : Int)] w fun en w' => en = .returned (.bool true) ∧ Below w.heap.size w w' := by
  have HS := Lib.hid hs
  have HLN := Lib.hid h.ok.len
  have HOK := Lib.hid h.ok
  have HLB := Lib.hid (fun (w2 : World) (hb : Below w.heap.size w w2) => law_both h hs hb)
  clear h hs
  go_enter Tryd.func3, Tryd.ntmps3
  go_upto_region 1 with (fail)
  have hb1 : Below w.heap.size w (w.alloc (.cells (caseA x A a B e) 28)) := (Below.refl _ _).alloc (Nat.le_refl _) _
  have hx1 := Bx.new w (caseA x A a B e) 28
  change Code.wp _ _ _ _ (w.alloc (.cells (caseA x A a B e) 28))
  generalize w.alloc (.cells (caseA x A a B e) 28) = w1 at *
  have HA := Lib.hid (awake6_any w1 (HS.out.below hb1))
  have HX1 := Lib.hid hx1
  have HB1 := Lib.hid hb1
  clear hx1 hb1
  go_upto_region 2 with (fail)
  refine HA.out.mono ?_
  rintro en w2 ⟨rfl, hb2⟩
  have HX2 := Lib.hid (HX1.out.below hb2)
  have HB2 := Lib.hid (HB1.out.trans (hb2.mono HB1.out.size))
  have hlt2 : w.heap.size < w2.heap.size := HX2.out.lt
  clear hb2 HA HX1 HB1
  have HC := Lib.hid (HLB.out w2 HB2.out)
  go_upto_region 5 with (first
    | ((with_reducible refine load_case (by rfl) ?_ HX2.out HLN.out ?_); (· rfl))
    | (go_at_call 11; refine (HC.out).mono ?_; rintro en w3 ⟨g, gm, rfl, hw3, hb3⟩; have HW3 := Lib.hid (hw3.less (Q' := fun _ => False) fun k hk => hk.elim); have HX3 := Lib.hid (HX2.out.below hb3); clear hw3 hb3 HC))
  generalize caseS x = S at *
  clear HX2 hlt2 HB2 HLB
  have HW4 := Lib.hid (HW3.out.quiet (drew_below w3)).1
  have HX4 := Lib.hid (HX3.out.below (drew_below w3))
  have hsz := HX4.out.lt
  clear HW3 HX3
  have hwb : w.heap.size ≤ w3.drew.heap.size := HW4.out.1.size
  refine wp_region_held_drew (S := fun X => Bx X w.heap.size (caseA x A a B e) 28) (by kernel_rfl) HX4.out (fun hHeld => ?_)
  generalize w3.drew = v0 at *
  refine wpAnyH_take (i := 0) (oi := ⟨some 27, .fieldAddr 28 (.tmp 2) 3, _, _, _, none⟩) (v := .pointer (some ⟨w.heap.size, 3, none⟩)) rfl (by kernel_rfl) (by kernel_rfl) (by kernel_rfl) (fun _ _ _ h => h) (Or.inl ⟨by rfl, fun X _ => by go_simp⟩) hHeld ?_
  simp only [Act.put, List.setIfInBounds_toArray, List.set_cons_zero, List.set_cons_succ]
  refine wpAnyH_take (i := 1) (oi := ⟨some 28, .load 26 (.tmp 27), _, _, _, none⟩) (v := cxV x.c) rfl (by kernel_rfl) (by kernel_rfl) (by kernel_rfl) (fun _ _ _ h => h) (yields_co HLN.out (by rfl) rfl rfl (fun X hX => case_ctx hX)) hHeld ?_
  simp only [Act.put, List.setIfInBounds_toArray, List.set_cons_zero, List.set_cons_succ]
  refine wpAnyH_take (i := 2) (oi := ⟨some 29, .fieldAddr 28 (.tmp 2) 3, _, _, _, none⟩) (v := .pointer (some ⟨w.heap.size, 3, none⟩)) rfl (by kernel_rfl) (by kernel_rfl) (by kernel_rfl) (fun _ _ _ h => h) (Or.inl ⟨by rfl, fun X _ => by go_simp⟩) hHeld ?_
  simp only [Act.put, List.setIfInBounds_toArray, List.set_cons_zero, List.set_cons_succ]
  refine wpAnyH_take (i := 3) (oi := ⟨some 30, .load 26 (.tmp 29), _, _, _, none⟩) (v := cxV x.c) rfl (by kernel_rfl) (by kernel_rfl) (by kernel_rfl) (fun _ _ _ h => h) (yields_co HLN.out (by rfl) rfl rfl (fun X hX => case_ctx hX)) hHeld ?_
  simp only [Act.put, List.setIfInBounds_toArray, List.set_cons_zero, List.set_cons_succ]
  refine wpAnyH_ready (rs := [4, 5]) (by kernel_rfl) (by simp) ?_
  refine AllReadyH.cons (o := ⟨some 9, .alloc 26, _, _, _, none⟩) rfl (fun K hK => ?_) ?_
  · rw [if_pos (by rfl)]
    go_simp
    have hb1 : Below v0.heap.size v0 (v0.alloc (.cells z18 26)) := (Below.refl _ _).alloc (Nat.le_refl _) _
    have hX1 := HX4.out.below hb1
    refine hK.out _ _ hX1 (fun hHeld => ?_)
    clear hK K
    have hc1 := ctxIn.new v0
    have hs1 : v0.heap.size < (v0.alloc (.cells z18 26)).heap.size := by simp
    generalize v0.alloc (.cells z18 26) = v1 at *
    refine wpAnyH_ready (rs := [5]) (by kernel_rfl) (by simp) (AllReadyH.cons (o := ⟨some 10, .alloc 26, _, _, _, none⟩) rfl (fun K hK => ?_) AllReadyH.nil)
    rw [if_pos (by rfl)]
    go_simp
    have hb2 : Below v1.heap.size v1 (v1.alloc (.cells z18 26)) := (Below.refl _ _).alloc (Nat.le_refl _) _
    have hX2 := hX1.below hb2
    refine hK.out _ _ hX2 (fun hHeld => ?_)
    clear hK K
    have hc2 := ctxIn.new v1
    have hc1b := hc1.below hb2
    have hs2 : v1.heap.size < (v1.alloc (.cells z18 26)).heap.size := by simp
    generalize v1.alloc (.cells z18 26) = v2 at *
    have hb12 := hb1.trans (hb2.mono hb1.size)
    have hWm := (HW4.out.moreR hb12).less (Q' := fun k => k = v0.heap.size ∨ k = v1.heap.size) fun k hk => by omega
    have hne : v0.heap.size ≠ v1.heap.size := by omega
    have hge : w.heap.size ≤ v1.heap.size := by omega
    have hlx : w.heap.size < v0.heap.size := HX4.out.lt
    have hlx2 : w.heap.size < v1.heap.size := by omega
    clear hb1 hb2 hb12 hX1 hc1 hHeld HW4 HX4 hsz
    generalize v0.heap.size = be at *
    generalize v1.heap.size = bf at *
    have hce := hc1b
    have hcf := hc2
    have hef : be ≠ bf := hne
    have hWq := hWm
    have hbe : w.heap.size ≤ be := hwb
    have hbf : w.heap.size ≤ bf := hge
    clear hc1b hc2 hWm hne hge hwb hs1 hs2
    have b6 := row_beside v2 be (cxA x.c)
    have hce2 := hce.row x.c HLN.out
    have hcf2 := hcf.beside b6 (fun h => hef h.symm)
    have hX3 := hX2.beside b6 (by omega)
    have hWq2 := hWq.stir b6 (fun k hk => ⟨.inl hk, by omega⟩)
    refine wpAnyH_ready (rs := [6]) (by kernel_rfl) (by simp) (AllReadyH.cons (o := ⟨none, .store 26 (.tmp 9) (.tmp 28), _, _, _, none⟩) rfl (fun K hK => ?_) AllReadyH.nil)
    rw [if_pos (by rfl)]
    refine store_c rfl rfl rfl hce HLN.out ?_
    refine hK.out _ _ hX3 (fun hHeld => ?_)
    clear hK K hHeld
    generalize v2.setRow be (cxA x.c) = v3 at *
    have b7 := row_beside v3 bf (cxA x.c)
    have HAT := Lib.hid (show StepsAt w (v3.setRow bf (cxA x.c)) g gm be bf x.c S from ⟨hWq2.stir b7 (fun k hk => ⟨.inr hk, by omega⟩), hce2.beside b7 hef, hcf2.row x.c HLN.out, HOK.out⟩)
    refine wpAnyH_ready (rs := [7]) (by kernel_rfl) (by simp) (AllReadyH.cons (o := ⟨none, .store 26 (.tmp 10) (.tmp 30), _, _, _, none⟩) rfl (fun K hK => ?_) AllReadyH.nil)
    rw [if_pos (by rfl)]
    refine store_c rfl rfl rfl hcf2 HLN.out ?_
    refine hK.out _ _ (hX3.beside b7 (by omega)) (fun hHeld => ?_)
    clear hK K hHeld
    generalize v3.setRow bf (cxA x.c) = v4 at *
    refine wpAnyH_done (by kernel_rfl) ?_ _
    clear b6 b7 hce hcf hce2 hcf2 hX2 hX3 hWq hWq2
    go_upto_region 7 with (fail)
    have hN : b1.toNat % 40 < 40 := Nat.mod_lt _ (by omega)
    have HNE := Lib.hid (show wrap64 ((b1.toNat : Int).tmod 40) = ((b1.toNat % 40 : Nat) : Int) by rw [Int.tmod_eq_emod_of_nonneg (by omega)]; unfold wrap64; omega)
    go_loopw [11] (fun t11 wr => ∃ (i : Nat) (ci : Cx) (si : List Seg), i ≤ b1.toNat % 40 ∧ t11 = .int .i64 (i : Int) ∧ StepsAt w wr g gm be bf ci si) (fun t11 _ => b1.toNat % 40 - (intOf t11).toNat)
    case atStart => exact ⟨0, x.c, S, Nat.zero_le _, rfl, HAT.out⟩
    case round =>
      obtain ⟨i, ci, si, hi, rfl, hat⟩ := hrel
      have HT := Lib.hid hat
      clear hat HAT
      generalize b1.toNat % 40 = N at *
      generalize (b1.toNat : Int) = bb at *
      have hbb := HNE.out
      by_cases hlt : i < N
      · have hil : (i : Int) < (N : Int) := by omega
        go_upto_region 10 with (fail)
        clear hbb hil
        obtain ⟨h12, h13, hb⟩ := al_two wr (evA ez) (evA ez) 37 37
        change Code.wp _ _ _ _ (al (al wr (evA ez) 37) (evA ez) 37)
        generalize al (al wr (evA ez) 37) (evA ez) 37 = w5 at *
        have hl1 := HT.out.c1.lt
        have hl2 := HT.out.c2.lt
        have hg1 := HT.out.wm.1.size
        have HW5 := Lib.hid (HT.out.wm.more2 hb (b := wr.heap.size) (d := wr.heap.size + 1) (Nat.le_refl _) h12.lt (Nat.le_succ _) h13.lt).1
        have HC5 := Lib.hid (HT.out.c1.below hb)
        have HD5 := Lib.hid (HT.out.c2.below hb)
        have H12 := Lib.hid h12
        have H13 := Lib.hid h13
        have HLC := Lib.hid HC5.out.lc
        have HST := Lib.hid (HW5.out.step (c := ci) HT.out.ok (HS.out.below HW5.out.1))
        have HSD := Lib.hid (fun (wz : World) (Q : Nat → Prop) (S1 : List Seg) (hz : Wm w wz Q g S1 gm si) => hz.rstep HT.out.ok)
        have HOD := Lib.hid (step_ok (ss := si) HT.out.ok)
        generalize stepM si ci = R at *
        obtain ⟨ev, d, s2⟩ := R
        simp only at HST HSD HOD
        have HLd := Lib.hid HOD.out.len
        clear h12 h13 hb HT
        generalize hb12 : wr.heap.size = b12 at *
        go_upto_region 11 with (first
          | ((with_reducible refine load_c (by rfl) ?_ HLC.out ?_); (· rfl))
          | (go_at_call 12; refine (HST.out).mono ?_; rintro en w6 ⟨rfl, hw6, hk6⟩; have HW6 := Lib.hid hw6; have HC6 := Lib.hid (HC5.out.kept hk6 (.inl (.inl (.inl rfl)))).isIn; have HD6 := Lib.hid (HD5.out.kept hk6 (.inl (.inl (.inr rfl)))); have H126 := Lib.hid (show evIn w6 b12 from ⟨_, H12.out.kept hk6 (.inl (.inr rfl))⟩); have H136 := Lib.hid (show evIn w6 (b12 + 1) from ⟨_, H13.out.kept hk6 (.inr rfl)⟩); have HL6 := Lib.hid (laid_in HC6.out H126.out (by omega) d ev HLd.out); have HEI := Lib.hid HL6.out.1; clear hw6 hk6 HST)
          | ((with_reducible refine store_c (c := d) (by rfl) ?_ ?_ HC6.out HLd.out ?_); (· rfl); (· rfl))
          | ((with_reducible refine store_e (e := ev) (by rfl) ?_ ?_ HEI.out ?_); (· rfl); (· rfl)))
        obtain ⟨_, hc7, he7, hb7⟩ := HL6.out
        change Code.wp _ _ _ _ ((w6.setRow be (cxA d)).setRow b12 (evA ev))
        generalize (w6.setRow be (cxA d)).setRow b12 (evA ev) = w7 at *
        have HW7 := Lib.hid (HW6.out.stir hb7 (fun k hk => ⟨by rcases hk with rfl | rfl; exact .inl (.inl (.inl rfl)); exact .inl (.inr rfl), by omega⟩))
        have HD7 := Lib.hid (HD6.out.beside hb7 (by omega))
        have H137 := Lib.hid (H136.out.beside hb7 (by omega))
        have HC7 := Lib.hid hc7
        have H127 := Lib.hid he7
        have HSV := Lib.hid (HSD.out w7 _ _ HW7.out)
        clear hc7 he7 hb7 HL6 HEI HW6 HC6 HD6 H126 H136 HW5 HC5 HD5 H12 H13 HLC HSD
        have HLC := Lib.hid HD7.out.lc
        go_upto_region 12 with (first
          | ((with_reducible refine load_c (by rfl) ?_ HLC.out ?_); (· rfl))
          | (go_at_call 13; refine (HSV.out).mono ?_; rintro en w8 ⟨rfl, hw8, hk8⟩; have HW8 := Lib.hid hw8; have HC8 := Lib.hid (HC7.out.kept hk8 (.inl (.inl (.inl rfl)))); have HD8 := Lib.hid (HD7.out.kept hk8 (.inl (.inl (.inr rfl)))).isIn; have H128 := Lib.hid (H127.out.kept hk8 (.inl (.inr rfl))); have H138 := Lib.hid (H137.out.kept hk8 (.inr rfl)); have HL8 := Lib.hid (laid_in HD8.out H138.out (by omega) d ev HLd.out); have HEI := Lib.hid HL8.out.1; clear hw8 hk8 HSV)
          | ((with_reducible refine store_c (c := d) (by rfl) ?_ ?_ HD8.out HLd.out ?_); (· rfl); (· rfl))
          | ((with_reducible refine store_e (e := ev) (by rfl) ?_ ?_ HEI.out ?_); (· rfl); (· rfl)))
        obtain ⟨_, hd9, he9, hb9⟩ := HL8.out
        change Code.wp _ _ _ _ ((w8.setRow bf (cxA d)).setRow (b12 + 1) (evA ev))
        generalize (w8.setRow bf (cxA d)).setRow (b12 + 1) (evA ev) = w9 at *
        have HW9 := (HW8.out.stir hb9 (fun k hk => ⟨by rcases hk with rfl | rfl; exact .inl (.inl (.inr rfl)); exact .inr rfl, by omega⟩)).less (Q' := fun k => k = be ∨ k = bf) fun k hk => .inl (.inl hk)
        have HAT := Lib.hid (show StepsAt w w9 g gm be bf d s2 from ⟨HW9, HC8.out.beside hb9 (by omega), hd9, HOD.out⟩)
        have HE1 := Lib.hid (H128.out.beside hb9 (by omega))
        have HE2 := Lib.hid he9
        have HLC := Lib.hid HAT.out.c1.lc
        have HLD := Lib.hid HAT.out.c2.lc
        have hcne := cne_self d HLd.out
        clear hd9 he9 hb9 HL8 HEI HW8 HC8 HD8 H128 H138 HW9 HW7 HD7 H137 HC7 H127
        go_upto_region 8 with (first
          | ((with_reducible refine load_c (by rfl) ?_ HLC.out ?_); (· rfl))
          | ((with_reducible refine load_c (by rfl) ?_ HLD.out ?_); (· rfl))
          | ((with_reducible refine load_e (by rfl) ?_ HE1.out ?_); (· rfl); refine ‹∀ (a : Act) (w : World), wpList Tryd.prog _ _ _ a w → _› _ _ ?_; refine BigFrame.wpList_want (by kernel_rfl) ?_; intro K hK; (with_reducible refine load_e (by rfl) ?_ HE2.out ?_); (· rfl)))
        go_wp2_with fail
        go_roundw
        case rel => exact ⟨i + 1, d, s2, hlt, by go_num, HAT.out⟩
        case measure => simp [intOf]; omega
      · have hil : ¬ (i : Int) < (N : Int) := by omega
        have HAL := Lib.hid HT.out.wm.alike6
        go_upto_region 99 with (first
          | (go_at_call 14; refine (HAL.out).mono ?_; rintro en w10 ⟨rfl, hb10⟩; have HB10 := Lib.hid hb10; clear hb10))
        first | go_ret | skip
        exact ⟨rfl, HB10.out⟩
  refine AllReadyH.cons (o := ⟨some 10, .alloc 26, _, _, _, none⟩) rfl (fun K hK => ?_) ?_
  · rw [if_pos (by rfl)]
    go_simp
    have hb1 : Below v0.heap.size v0 (v0.alloc (.cells z18 26)) := (Below.refl _ _).alloc (Nat.le_refl _) _
    have hX1 := HX4.out.below hb1
    refine hK.out _ _ hX1 (fun hHeld => ?_)
    clear hK K
    have hc1 := ctxIn.new v0
    have hs1 : v0.heap.size < (v0.alloc (.cells z18 26)).heap.size := by simp
    generalize v0.alloc (.cells z18 26) = v1 at *
    refine wpAnyH_ready (rs := [4]) (by kernel_rfl) (by simp) (AllReadyH.cons (o := ⟨some 9, .alloc 26, _, _, _, none⟩) rfl (fun K hK => ?_) AllReadyH.nil)
    rw [if_pos (by rfl)]
    go_simp
    have hb2 : Below v1.heap.size v1 (v1.alloc (.cells z18 26)) := (Below.refl _ _).alloc (Nat.le_refl _) _
    have hX2 := hX1.below hb2
    refine hK.out _ _ hX2 (fun hHeld => ?_)
    clear hK K
    have hc2 := ctxIn.new v1
    have hc1b := hc1.below hb2
    have hs2 : v1.heap.size < (v1.alloc (.cells z18 26)).heap.size := by simp
    generalize v1.alloc (.cells z18 26) = v2 at *
    have hb12 := hb1.trans (hb2.mono hb1.size)
    have hWm := (HW4.out.moreR hb12).less (Q' := fun k => k = v0.heap.size ∨ k = v1.heap.size) fun k hk => by omega
    have hne : v0.heap.size ≠ v1.heap.size := by omega
    have hge : w.heap.size ≤ v1.heap.size := by omega
    have hlx : w.heap.size < v0.heap.size := HX4.out.lt
    have hlx2 : w.heap.size < v1.heap.size := by omega
    clear hb1 hb2 hb12 hX1 hc1 hHeld HW4 HX4 hsz
    generalize v0.heap.size = bf at *
    generalize v1.heap.size = be at *
    have hce := hc2
    have hcf := hc1b
    have hef : be ≠ bf := fun h => hne h.symm
    have hWq := hWm.less (Q' := fun k => k = be ∨ k = bf) fun k hk => hk.symm
    have hbe : w.heap.size ≤ be := hge
    have hbf : w.heap.size ≤ bf := hwb
    clear hc1b hc2 hWm hne hge hwb hs1 hs2
    have b6 := row_beside v2 be (cxA x.c)
    have hce2 := hce.row x.c HLN.out
    have hcf2 := hcf.beside b6 (fun h => hef h.symm)
    have hX3 := hX2.beside b6 (by omega)
    have hWq2 := hWq.stir b6 (fun k hk => ⟨.inl hk, by omega⟩)
    refine wpAnyH_ready (rs := [6]) (by kernel_rfl) (by simp) (AllReadyH.cons (o := ⟨none, .store 26 (.tmp 9) (.tmp 28), _, _, _, none⟩) rfl (fun K hK => ?_) AllReadyH.nil)
    rw [if_pos (by rfl)]
    refine store_c rfl rfl rfl hce HLN.out ?_
    refine hK.out _ _ hX3 (fun hHeld => ?_)
    clear hK K hHeld
    generalize v2.setRow be (cxA x.c) = v3 at *
    have b7 := row_beside v3 bf (cxA x.c)
    have HAT := Lib.hid (show StepsAt w (v3.setRow bf (cxA x.c)) g gm be bf x.c S from ⟨hWq2.stir b7 (fun k hk => ⟨.inr hk, by omega⟩), hce2.beside b7 hef, hcf2.row x.c HLN.out, HOK.out⟩)
    refine wpAnyH_ready (rs := [7]) (by kernel_rfl) (by simp) (AllReadyH.cons (o := ⟨none, .store 26 (.tmp 10) (.tmp 30), _, _, _, none⟩) rfl (fun K hK => ?_) AllReadyH.nil)
    rw [if_pos (by rfl)]
    refine store_c rfl rfl rfl hcf2 HLN.out ?_
    refine hK.out _ _ (hX3.beside b7 (by omega)) (fun hHeld => ?_)
    clear hK K hHeld
    generalize v3.setRow bf (cxA x.c) = v4 at *
    refine wpAnyH_done (by kernel_rfl) ?_ _
    clear b6 b7 hce hcf hce2 hcf2 hX2 hX3 hWq hWq2
    go_upto_region 7 with (fail)
    have hN : b1.toNat % 40 < 40 := Nat.mod_lt _ (by omega)
    have HNE := Lib.hid (show wrap64 ((b1.toNat : Int).tmod 40) = ((b1.toNat % 40 : Nat) : Int) by rw [Int.tmod_eq_emod_of_nonneg (by omega)]; unfold wrap64; omega)
    go_loopw [11] (fun t11 wr => ∃ (i : Nat) (ci : Cx) (si : List Seg), i ≤ b1.toNat % 40 ∧ t11 = .int .i64 (i : Int) ∧ StepsAt w wr g gm be bf ci si) (fun t11 _ => b1.toNat % 40 - (intOf t11).toNat)
    case atStart => exact ⟨0, x.c, S, Nat.zero_le _, rfl, HAT.out⟩
    case round =>
      obtain ⟨i, ci, si, hi, rfl, hat⟩ := hrel
      have HT := Lib.hid hat
      clear hat HAT
      generalize b1.toNat % 40 = N at *
      generalize (b1.toNat : Int) = bb at *
      have hbb := HNE.out
      by_cases hlt : i < N
      · have hil : (i : Int) < (N : Int) := by omega
        go_upto_region 10 with (fail)
        clear hbb hil
        obtain ⟨h12, h13, hb⟩ := al_two wr (evA ez) (evA ez) 37 37
        change Code.wp _ _ _ _ (al (al wr (evA ez) 37) (evA ez) 37)
        generalize al (al wr (evA ez) 37) (evA ez) 37 = w5 at *
        have hl1 := HT.out.c1.lt
        have hl2 := HT.out.c2.lt
        have hg1 := HT.out.wm.1.size
        have HW5 := Lib.hid (HT.out.wm.more2 hb (b := wr.heap.size) (d := wr.heap.size + 1) (Nat.le_refl _) h12.lt (Nat.le_succ _) h13.lt).1
        have HC5 := Lib.hid (HT.out.c1.below hb)
        have HD5 := Lib.hid (HT.out.c2.below hb)
        have H12 := Lib.hid h12
        have H13 := Lib.hid h13
        have HLC := Lib.hid HC5.out.lc
        have HST := Lib.hid (HW5.out.step (c := ci) HT.out.ok (HS.out.below HW5.out.1))
        have HSD := Lib.hid (fun (wz : World) (Q : Nat → Prop) (S1 : List Seg) (hz : Wm w wz Q g S1 gm si) => hz.rstep HT.out.ok)
        have HOD := Lib.hid (step_ok (ss := si) HT.out.ok)
        generalize stepM si ci = R at *
        obtain ⟨ev, d, s2⟩ := R
        simp only at HST HSD HOD
        have HLd := Lib.hid HOD.out.len
        clear h12 h13 hb HT
        generalize hb12 : wr.heap.size = b12 at *
        go_upto_region 11 with (first
          | ((with_reducible refine load_c (by rfl) ?_ HLC.out ?_); (· rfl))
          | (go_at_call 12; refine (HST.out).mono ?_; rintro en w6 ⟨rfl, hw6, hk6⟩; have HW6 := Lib.hid hw6; have HC6 := Lib.hid (HC5.out.kept hk6 (.inl (.inl (.inl rfl)))).isIn; have HD6 := Lib.hid (HD5.out.kept hk6 (.inl (.inl (.inr rfl)))); have H126 := Lib.hid (show evIn w6 b12 from ⟨_, H12.out.kept hk6 (.inl (.inr rfl))⟩); have H136 := Lib.hid (show evIn w6 (b12 + 1) from ⟨_, H13.out.kept hk6 (.inr rfl)⟩); have HL6 := Lib.hid (laid_in HC6.out H126.out (by omega) d ev HLd.out); have HEI := Lib.hid HL6.out.1; clear hw6 hk6 HST)
          | ((with_reducible refine store_c (c := d) (by rfl) ?_ ?_ HC6.out HLd.out ?_); (· rfl); (· rfl))
          | ((with_reducible refine store_e (e := ev) (by rfl) ?_ ?_ HEI.out ?_); (· rfl); (· rfl)))
        obtain ⟨_, hc7, he7, hb7⟩ := HL6.out
        change Code.wp _ _ _ _ ((w6.setRow be (cxA d)).setRow b12 (evA ev))
        generalize (w6.setRow be (cxA d)).setRow b12 (evA ev) = w7 at *
        have HW7 := Lib.hid (HW6.out.stir hb7 (fun k hk => ⟨by rcases hk with rfl | rfl; exact .inl (.inl (.inl rfl)); exact .inl (.inr rfl), by omega⟩))
        have HD7 := Lib.hid (HD6.out.beside hb7 (by omega))
        have H137 := Lib.hid (H136.out.beside hb7 (by omega))
        have HC7 := Lib.hid hc7
        have H127 := Lib.hid he7
        have HSV := Lib.hid (HSD.out w7 _ _ HW7.out)
        clear hc7 he7 hb7 HL6 HEI HW6 HC6 HD6 H126 H136 HW5 HC5 HD5 H12 H13 HLC HSD
        have HLC := Lib.hid HD7.out.lc
        go_upto_region 12 with (first
          | ((with_reducible refine load_c (by rfl) ?_ HLC.out ?_); (· rfl))
          | (go_at_call 13; refine (HSV.out).mono ?_; rintro en w8 ⟨rfl, hw8, hk8⟩; have HW8 := Lib.hid hw8; have HC8 := Lib.hid (HC7.out.kept hk8 (.inl (.inl (.inl rfl)))); have HD8 := Lib.hid (HD7.out.kept hk8 (.inl (.inl (.inr rfl)))).isIn; have H128 := Lib.hid (H127.out.kept hk8 (.inl (.inr rfl))); have H138 := Lib.hid (H137.out.kept hk8 (.inr rfl)); have HL8 := Lib.hid (laid_in HD8.out H138.out (by omega) d ev HLd.out); have HEI := Lib.hid HL8.out.1; clear hw8 hk8 HSV)
          | ((with_reducible refine store_c (c := d) (by rfl) ?_ ?_ HD8.out HLd.out ?_); (· rfl); (· rfl))
          | ((with_reducible refine store_e (e := ev) (by rfl) ?_ ?_ HEI.out ?_); (· rfl); (· rfl)))
        obtain ⟨_, hd9, he9, hb9⟩ := HL8.out
        change Code.wp _ _ _ _ ((w8.setRow bf (cxA d)).setRow (b12 + 1) (evA ev))
        generalize (w8.setRow bf (cxA d)).setRow (b12 + 1) (evA ev) = w9 at *
        have HW9 := (HW8.out.stir hb9 (fun k hk => ⟨by rcases hk with rfl | rfl; exact .inl (.inl (.inr rfl)); exact .inr rfl, by omega⟩)).less (Q' := fun k => k = be ∨ k = bf) fun k hk => .inl (.inl hk)
        have HAT := Lib.hid (show StepsAt w w9 g gm be bf d s2 from ⟨HW9, HC8.out.beside hb9 (by omega), hd9, HOD.out⟩)
        have HE1 := Lib.hid (H128.out.beside hb9 (by omega))
        have HE2 := Lib.hid he9
        have HLC := Lib.hid HAT.out.c1.lc
        have HLD := Lib.hid HAT.out.c2.lc
        have hcne := cne_self d HLd.out
        clear hd9 he9 hb9 HL8 HEI HW8 HC8 HD8 H128 H138 HW9 HW7 HD7 H137 HC7 H127
        go_upto_region 8 with (first
          | ((with_reducible refine load_c (by rfl) ?_ HLC.out ?_); (· rfl))
          | ((with_reducible refine load_c (by rfl) ?_ HLD.out ?_); (· rfl))
          | ((with_reducible refine load_e (by rfl) ?_ HE1.out ?_); (· rfl); refine ‹∀ (a : Act) (w : World), wpList Tryd.prog _ _ _ a w → _› _ _ ?_; refine BigFrame.wpList_want (by kernel_rfl) ?_; intro K hK; (with_reducible refine load_e (by rfl) ?_ HE2.out ?_); (· rfl)))
        go_wp2_with fail
        go_roundw
        case rel => exact ⟨i + 1, d, s2, hlt, by go_num, HAT.out⟩
        case measure => simp [intOf]; omega
      · have hil : ¬ (i : Int) < (N : Int) := by omega
        have HAL := Lib.hid HT.out.wm.alike6
        go_upto_region 99 with (first
          | (go_at_call 14; refine (HAL.out).mono ?_; rintro en w10 ⟨rfl, hb10⟩; have HB10 := Lib.hid hb10; clear hb10))
        first | go_ret | skip
        exact ⟨rfl, HB10.out⟩
  exact AllReadyH.nil
end Go.Proofs.YtfkhfjefddgkoaaDoor
