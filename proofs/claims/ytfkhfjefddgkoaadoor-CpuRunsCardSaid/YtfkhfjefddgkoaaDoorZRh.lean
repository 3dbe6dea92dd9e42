/-
  The document's step, walked.
-/
import Derived.Test.YtfkhfjefddgkoaaDoorZRg
namespace Go.Proofs.YtfkhfjefddgkoaaDoor
open Go.RowKit

theorem calc_err (op x y : Int) (ho : op = 3 ∨ op = 4 ∨ op = 5 ∨ op = 6 ∨ op = 7 ∨ op = 8) : (calcM op x y).2 = 0 ∨ (calcM op x y).2 = 1 := by
  rcases ho with rfl | rfl | rfl | rfl | rfl | rfl
  · exact .inl rfl
  · exact .inl rfl
  · exact .inl rfl
  · by_cases hy : y = 0
    · exact .inr (by simp [calcM, hy])
    · exact .inl (by simp [calcM, hy])
  · exact .inl rfl
  · exact .inl rfl
theorem out_step {e : Int} {d c : Cx} {ss : List Seg} : (if e = 0 then (ez, d, ss) else (trapE e, c, ss)) = ((outD e d c).2, (outD e d c).1, ss) := by unfold outD; split <;> rfl
theorem still_c {ops : Array Oper} {rest : List Oper} {t x : Tmp} {q : TypeId} {p : String} {af : Array Edge} {a : Act} {w : World} {Q : Act → Prop} {b : Nat} {c : Cx} (hL : Lc w b c) (hx : a.eval (.tmp x) = .pointer (some ⟨b, 0, none⟩))
    (h : wpStill Tryd.prog ops w Q rest (a.put (some t) (cxV c))) : wpStill Tryd.prog ops w Q (⟨some t, .load 26 (.tmp x), q, p, af, none⟩ :: rest) a := by
  refine wpStill_step fun K hK => ?_
  rw [if_pos (by rfl)]
  unfold Oper.still
  have e : (execOp a.eval ⟨some t, .load 26 (.tmp x), q, p, af, none⟩).run Tryd.prog w = .ok (.value (cxV c)) w := by
    unfold execOp
    simp only [hx, Instr.loadAt, Instr.sureAddr, Sem.run_bind, Sem.run_pure, Result.andThen_ok, run_loadVar_mid w b 0 26 (cxC c) _ hL.at_ Tryd.underlying26 rfl (by rw [cxC_len hL.len]; exact Tryd.info_ctx)]
  rw [e, Oper.stillUpon_value]
  exact hK _ h
set_option maxRecDepth 100000 in
set_option maxHeartbeats 16000000 in
theorem rStep_any {w : World} {B g : Nat} {F : Nat → Prop} {c : Cx} {ss : List Seg} (h : Mies w B g F ss) (hok : Okc c) :
    Calls Tryd.prog 13 #[cxV c, .pointer (some ⟨g, 0, none⟩)] w fun en w' => en = .returned (.tuple #[cxV (stepM ss c).2.1, .agg (evA (stepM ss c).1)]) ∧ WentM w w' B g F (stepM ss c).2.2 := by
  go_enter Tryd.func13, Tryd.ntmps13
  go_upto_region 1 with (fail)
  obtain ⟨h0, h1, h2, hb⟩ := al_three w (cxA c) z18 (evA ⟨0, 0, 0, 0, 0⟩) 26 26 37
  change Code.wp _ _ _ _ (al (al (al w (cxA c) 26) z18 26) (evA ⟨0, 0, 0, 0, 0⟩) 37)
  have hwd := (Wd.start h).moreR hb
  generalize al (al (al w (cxA c) 26) z18 26) (evA ⟨0, 0, 0, 0, 0⟩) 37 = w1 at *
  have hz1 := h2.lt
  have HW1 := Lib.hid (hwd.weak (P' := fun k => w.heap.size ≤ k ∧ k < w1.heap.size) fun k hk => .inr hk)
  have HX1 := Lib.hid (show Cb w1 w.heap.size c from ⟨h0, hok.len⟩)
  have HZ1 := Lib.hid (show ctxIn w1 (w.heap.size + 1) from ⟨_, h1, rfl⟩)
  have HE1 := Lib.hid (show evIn w1 (w.heap.size + 1 + 1) from ⟨_, h2⟩)
  have HLN := Lib.hid hok.len
  have HLX := Lib.hid HX1.out.lc
  have HOK := Lib.hid hok
  have HT := Lib.hid (show Calls Tryd.prog 27 #[cxV c, .pointer (some ⟨g, 0, none⟩)] w1 fun en w' => en = .returned (.tuple #[.agg (iA (insD ss c)), .int .i64 (instM ss c).1]) ∧ Below w1.heap.size w1 w' from told_any (h.below hb) hok.pc)
  have HTR := Lib.hid (fun e X => trapped_any c hok.len e X)
  have q0 := HX1.out.pc
  clear h0 h1 h2 hb hwd h hok
  by_cases hp : c.pc = 0
  · have HO := Lib.hid (show stepM ss c = (⟨1, 0, 0, 0, 0⟩, c, ss) from stepM_zero hp)
    rw [hp] at q0
    obtain ⟨he2, hc3, he3, hb3⟩ := laid_in HZ1.out HE1.out (by omega) c ⟨1, 0, 0, 0, 0⟩ HLN.out
    have HEI := Lib.hid he2
    have K1 := Lib.hid hc3
    have K2 := Lib.hid he3
    have HW := Lib.hid (HW1.out.rows (by omega) (by omega) hb3).went
    clear he2 hc3 he3 hb3 HT hp
    go_upto_region 99 with (first
      | ((with_reducible refine load_c (by rfl) ?_ HLX.out ?_); (· rfl))
      | ((with_reducible refine store_c (c := c) (by rfl) ?_ ?_ HZ1.out HLN.out ?_); (· rfl); (· rfl))
      | ((with_reducible refine store_e (e := ⟨1, 0, 0, 0, 0⟩) (by rfl) ?_ ?_ HEI.out ?_); (· rfl); (· rfl)))
    refine bodyPost_ret (v := .tuple #[cxV c, .agg (evA ⟨1, 0, 0, 0, 0⟩)]) (back_ce rfl (by rfl) (by rfl) K1.out K2.out) rfl ?_
    rw [HO.out]
    exact ⟨rfl, HW.out⟩
  have hp2 : (c.pc == 0) = false := by simpa using hp
  have HP := Lib.hid hp
  clear hp
  generalize hin : instM ss c = im at *
  have HIN := Lib.hid hin
  obtain ⟨er, oi⟩ := im
  simp only at HT
  have HDI := Lib.hid (show insD ss c = oi.getD iz by unfold insD; rw [hin])
  rw [HDI.out] at HT
  clear hin HDI
  go_upto_region 4 with (first
    | ((with_reducible refine load_c (by rfl) ?_ HLX.out ?_); (· rfl))
    | (go_at_call 27; refine (HT.out).mono ?_; rintro en w2 ⟨rfl, hb2⟩; have HB2 := Lib.hid hb2; clear hb2 HT))
  have hb3 : Below w2.heap.size w2 (w2.alloc (.cells (iA (oi.getD iz)) 51)) := (Below.refl _ _).alloc (Nat.le_refl _) _
  have hi3 := Bx.new w2 (iA (oi.getD iz)) 51
  change Code.wp _ _ _ _ (w2.alloc (.cells (iA (oi.getD iz)) 51))
  have hb13 := HB2.out.trans (hb3.mono HB2.out.size)
  have hz2 := HB2.out.size
  generalize w2.alloc (.cells (iA (oi.getD iz)) 51) = w3 at *
  generalize w2.heap.size = bi at *
  have HX3 := Lib.hid (HX1.out.below hb13)
  have HZ3 := Lib.hid (HZ1.out.below hb13)
  have HE3 := Lib.hid (HE1.out.below hb13)
  have HI3 := Lib.hid hi3
  have hz3 := hi3.lt
  have HW3 := Lib.hid ((HW1.out.moreR hb13).weak (P' := fun k => w.heap.size ≤ k ∧ k < w3.heap.size) fun k hk => by omega)
  clear HX1 HZ1 HE1 HW1 hb3 hi3 hb13 HB2 q0 HLX
  have HLX := Lib.hid HX3.out.lc
  cases oi with
  | none =>
    have her : er ≠ 0 := instM_none HIN.out
    have HO := Lib.hid (show stepM ss c = (trapE er, c, ss) from step_none HP.out HIN.out)
    have hg2 : (er == 0) = false := by simpa using her
    have hg3 : (er != 0) = true := by simpa using her
    clear her
    go_upto_region 99 with (first
      | ((with_reducible refine load_c (by rfl) ?_ HLX.out ?_); (· rfl))
      | (go_at_call 28; refine (HTR.out er _).mono ?_; rintro en w4 ⟨rfl, hb4⟩; have HZ4 := Lib.hid (HZ3.out.below hb4); have HL := Lib.hid (laid_in HZ4.out (HE3.out.below hb4) (by omega) c (trapE er) HLN.out); have HEI := Lib.hid HL.out.1; have HW4 := Lib.hid (HW3.out.quiet hb4); clear hb4 HTR)
      | ((with_reducible refine store_c (c := c) (by rfl) ?_ ?_ HZ4.out HLN.out ?_); (· rfl); (· rfl))
      | ((with_reducible refine store_e (e := trapE er) (by rfl) ?_ ?_ HEI.out ?_); (· rfl); (· rfl)))
    refine bodyPost_ret (v := .tuple #[cxV c, .agg (evA (trapE er))]) (back_ce rfl (by rfl) (by rfl) HL.out.2.1 HL.out.2.2.1) rfl ?_
    rw [HO.out]
    exact ⟨rfl, (HW4.out.rows (by omega) (by omega) HL.out.2.2.2).went⟩
  | some i =>
    obtain ⟨rfl, hmay⟩ := instM_some HIN.out
    simp only [Option.getD_some] at HI3 ⊢
    obtain ⟨op, ia, ib, ic, n⟩ := i
    obtain ⟨ra, rb, rc⟩ := may_regs hmay
    obtain ⟨a, rfl⟩ : ∃ a : Nat, ia = a := ⟨ia.toNat, by omega⟩
    obtain ⟨b, rfl⟩ : ∃ b : Nat, ib = b := ⟨ib.toNat, by omega⟩
    obtain ⟨k, rfl⟩ : ∃ k : Nat, ic = k := ⟨ic.toNat, by omega⟩
    have ha : a < 16 := by omega
    have hb : b < 16 := by omega
    have hk : k < 16 := by omega
    have HMA := Lib.hid hmay
    clear ra rb rc hmay
    have rp := HX3.out.pc
    have HC0 := Lib.hid (ctxIn.new w3)
    go_upto_region 7 with (first
      | ((with_reducible refine load_c (by rfl) ?_ HLX.out ?_); (· rfl))
      | ((with_reducible refine store_c (c := c) (by rfl) ?_ ?_ HC0.out HLN.out ?_); (· rfl); (· rfl)))
    have hc4 := HC0.out.row c HLN.out
    have hbb : Below w3.heap.size w3 ((w3.alloc (.cells z18 26)).setRow w3.heap.size (cxA c)) := by
      have b1 : Below w3.heap.size w3 (w3.alloc (.cells z18 26)) := (Below.refl _ _).alloc (Nat.le_refl _) _
      have b2 := row_beside (w3.alloc (.cells z18 26)) w3.heap.size (cxA c)
      exact ⟨b2.os.trans b1.os, b2.tape.trans b1.tape, b2.output.trans b1.output, Nat.le_trans b1.size b2.size, fun j hj => (b2.block j (Nat.lt_of_lt_of_le hj b1.size) (by omega)).trans (b1.block j hj)⟩
    change Code.wp _ _ _ _ ((w3.alloc (.cells z18 26)).setRow w3.heap.size (cxA c))
    generalize (w3.alloc (.cells z18 26)).setRow w3.heap.size (cxA c) = w4 at *
    have rp4 := (HX3.out.below hbb).pc
    have rc4 := hc4.pc
    have fc4 := hc4.fro 0
    clear rp
    go_upto_region 8 with (fail)
    have b5 := beside_cell w4 w3.heap.size 0 (.int .i64 (w64 (c.pc + 8)))
    have hc5 := hc4.jump (w64 (c.pc + 8))
    have hz4 := hc4.lt
    have HW5 := Lib.hid ((((HW3.out.moreR hbb).weak (P' := fun k => w.heap.size ≤ k ∧ k < w4.heap.size) fun k hk => by omega)).row (e := w3.heap.size) ⟨by omega, hz4⟩ b5)
    have HX5 := Lib.hid ((HX3.out.below hbb).beside b5 (by omega))
    have HZ5 := Lib.hid ((HZ3.out.below hbb).beside b5 (by omega))
    have HE5 := Lib.hid ((HE3.out.below hbb).beside b5 (by omega))
    have HI5 := Lib.hid ((HI3.out.below hbb).beside b5 (by omega))
    change Code.wp _ _ _ _ (w4.setCell ⟨w3.heap.size, 0, none⟩ (.int .i64 (w64 (c.pc + 8))))
    have hw45 : (w4.setCell ⟨w3.heap.size, 0, none⟩ (.int .i64 (w64 (c.pc + 8)))).heap.size = w4.heap.size := by simp [World.setCell]
    generalize w4.setCell ⟨w3.heap.size, 0, none⟩ (.int .i64 (w64 (c.pc + 8))) = w5 at *
    have HC5 := Lib.hid hc5
    clear rp4 rc4 fc4 hc4 hc5 b5 hbb HX3 HZ3 HE3 HI3 HW3 HC0 HLX
    generalize hbc : w3.heap.size = bc at *
    have HOK1 := Lib.hid (HOK.out.to (v := w64 (c.pc + 8)) (w64_i64 _))
    have HSJ := Lib.hid (fun hj => step_jump (i := ⟨op, a, b, k, n⟩) HP.out HIN.out hj)
    have HSA := Lib.hid (fun hj => step_ask (i := ⟨op, a, b, k, n⟩) HP.out HIN.out hj)
    have HSO := Lib.hid (step_ok HOK.out (ss := ss)).len
    generalize hc1 : c.to (w64 (c.pc + 8)) = c1 at *
    have HSS := Lib.hid (fun h10 => step_store (i := ⟨op, a, b, k, n⟩) HP.out HIN.out h10 hc1)
    have HSV := Lib.hid (fun h19 h21 h22 h10 hj v e hv => step_value (i := ⟨op, a, b, k, n⟩) (v := v) (e := e) HP.out HIN.out h19 h21 h22 h10 hj hc1 hv)
    clear hc1 HIN
    have HLX := Lib.hid HX5.out.lc
    have HLC := Lib.hid HC5.out.lc
    have HL1 := Lib.hid HOK1.out.len
    have HJC := Lib.hid (HW5.out.went2 (f := 29) (args := #[cxV c1, cxV c, .pointer (some ⟨g, 0, none⟩), .agg (iA ⟨op, a, b, k, n⟩)]) fun F' m => jumped_any (c := c1) (was := c) op n a b k ha m HL1.out HLN.out (HOK1.out.reg 15))
    by_cases hj : isJump op = true
    · have HO := Lib.hid (HSJ.out hj)
      have HY := Lib.hid (jump_yes (ss := ss) (c := c) (c1 := c1) (i := ⟨op, a, b, k, n⟩) hj)
      rw [HO.out] at HSO
      clear HSJ HSA HSS HSV hj
      generalize jumpD ss c1 c ⟨op, a, b, k, n⟩ = r at *
      obtain ⟨d, ev, yes, S2⟩ := r
      obtain rfl : yes = true := HY.out
      simp only at HJC HO HSO
      go_upto_region 9 with (first
        | ((with_reducible refine load_c (by rfl) ?_ HLX.out ?_); (· rfl))
        | ((with_reducible refine load_c (by rfl) ?_ HLC.out ?_); (· rfl))
        | ((with_reducible refine load_i (by rfl) ?_ HI5.out ?_); (· rfl))
        | (go_at_call 29; refine (HJC.out).mono ?_; rintro en w6 ⟨rfl, hw6, hk6⟩; have HW6 := Lib.hid hw6; have HZ6 := Lib.hid (HZ5.out.kept hk6 (by omega)); have HE6 := Lib.hid (HE5.out.kept hk6 (by omega)); have HCI := Lib.hid (laid_two w6 d ev HSO.out).1; have HEI := Lib.hid (laid_two w6 d ev HSO.out).2.1; clear hw6 hk6 HJC)
        | ((with_reducible refine store_c (c := d) (by rfl) ?_ ?_ HCI.out HSO.out ?_); (· rfl); (· rfl))
        | ((with_reducible refine store_e (e := ev) (by rfl) ?_ ?_ HEI.out ?_); (· rfl); (· rfl)))
      obtain ⟨_, _, hc7, he7, hb7⟩ := laid_two w6 d ev HSO.out
      change Code.wp _ _ _ _ ((((w6.alloc (.cells z18 26)).alloc (.cells (evA ⟨0, 0, 0, 0, 0⟩) 37)).setRow w6.heap.size (cxA d)).setRow (w6.heap.size + 1) (evA ev))
      generalize (((w6.alloc (.cells z18 26)).alloc (.cells (evA ⟨0, 0, 0, 0, 0⟩) 37)).setRow w6.heap.size (cxA d)).setRow (w6.heap.size + 1) (evA ev) = w7 at *
      have hzl : w.heap.size + 1 + 1 < w6.heap.size := by obtain ⟨_, h⟩ := HE6.out; exact h.lt
      have HZ7 := Lib.hid (HZ6.out.below hb7)
      have HE7 := Lib.hid (HE6.out.below hb7)
      have HW7 := Lib.hid (HW6.out.quiet hb7)
      clear hb7 HW6 HZ6 HE6 HCI HEI HX5 HZ5 HE5 HI5 HC5 HW5 HLX HLC HTR
      go_upto_region 10 with (fail)
      refine ret4 (c := d) (ev := ev) ⟨by decide, by decide, by decide, by decide, by decide, by decide, (by decide : 48 < 191), (by decide : 49 < 191), rfl, rfl, rfl⟩ (by decide) rfl hc7.lc he7 HZ7.out HE7.out (by omega) (by omega) ?_
      intro w9 k1 k2 k3
      have K1 := Lib.hid k1
      have K2 := Lib.hid k2
      have HWF := Lib.hid (HW7.out.rows (by omega) (by omega) k3).went
      clear k1 k2 k3
      go_wp2_with fail
      refine bodyPost_ret (v := .tuple #[cxV d, .agg (evA ev)]) (back_ce rfl (by rfl) (by rfl) K1.out K2.out) rfl ?_
      rw [HO.out]
      exact ⟨rfl, HWF.out⟩
    · have hjf : isJump op = false := by simpa using hj
      rw [jump_no (ss := ss) (c := c) (c1 := c1) (i := ⟨op, a, b, k, n⟩) hjf] at HJC
      have HJF := Lib.hid hjf
      simp only at HJC
      clear HSJ hj hjf
      go_upto_region 9 with (first
        | ((with_reducible refine load_c (by rfl) ?_ HLX.out ?_); (· rfl))
        | ((with_reducible refine load_c (by rfl) ?_ HLC.out ?_); (· rfl))
        | ((with_reducible refine load_i (by rfl) ?_ HI5.out ?_); (· rfl))
        | (go_at_call 29; refine (HJC.out).mono ?_; rintro en w6 ⟨rfl, hw6, hk6⟩; have HW6 := Lib.hid hw6; have HX6 := Lib.hid (HX5.out.kept hk6 (by omega)); have HC6 := Lib.hid (HC5.out.kept hk6 (by omega)); have HI6 := Lib.hid (HI5.out.kept hk6 (by omega)); have HZ6 := Lib.hid (HZ5.out.kept hk6 (by omega)); have HE6 := Lib.hid (HE5.out.kept hk6 (by omega)); have HCI := Lib.hid (laid_two w6 c1 ez HL1.out).1; have HEI := Lib.hid (laid_two w6 c1 ez HL1.out).2.1; clear hw6 hk6 HJC)
        | ((with_reducible refine store_c (c := c1) (by rfl) ?_ ?_ HCI.out HL1.out ?_); (· rfl); (· rfl))
        | ((with_reducible refine store_e (e := ez) (by rfl) ?_ ?_ HEI.out ?_); (· rfl); (· rfl)))
      obtain ⟨_, _, hc7, he7, hb7⟩ := laid_two w6 c1 ez HL1.out
      change Code.wp _ _ _ _ ((((w6.alloc (.cells z18 26)).alloc (.cells (evA ⟨0, 0, 0, 0, 0⟩) 37)).setRow w6.heap.size (cxA c1)).setRow (w6.heap.size + 1) (evA ez))
      have hzl : w.heap.size + 1 + 1 < w6.heap.size := by obtain ⟨_, h⟩ := HE6.out; exact h.lt
      have hzc : bc < w6.heap.size := HC6.out.lt
      have hzi : bi < w6.heap.size := HI6.out.lt
      generalize (((w6.alloc (.cells z18 26)).alloc (.cells (evA ⟨0, 0, 0, 0, 0⟩) 37)).setRow w6.heap.size (cxA c1)).setRow (w6.heap.size + 1) (evA ez) = w7 at *
      have HX7 := Lib.hid (HX6.out.below hb7)
      have HC7 := Lib.hid (HC6.out.below hb7)
      have HI7 := Lib.hid (HI6.out.below hb7)
      have HZ7 := Lib.hid (HZ6.out.below hb7)
      have HE7 := Lib.hid (HE6.out.below hb7)
      have HV7 := Lib.hid (show evIn w7 (w6.heap.size + 1) from ⟨_, he7⟩)
      have HW7 := Lib.hid ((HW6.out.moreR hb7).weak (P' := fun k => (w.heap.size ≤ k ∧ k < w4.heap.size) ∨ k = w6.heap.size + 1) fun k hk => by have := he7.lt; omega)
      clear hb7 hc7 HW6 HX6 HC6 HI6 HZ6 HE6 HCI HEI HX5 HZ5 HE5 HI5 HC5 HW5 HLX HLC he7
      have HLX := Lib.hid HX7.out.lc
      have HLC := Lib.hid HC7.out.lc
      have HAS := Lib.hid (asked_any op n a b k ha c1 HL1.out w7)
      by_cases hask : (askD c1 ⟨op, a, b, k, n⟩).2 = true
      · have HO := Lib.hid (HSA.out hask)
        rw [hask] at HAS
        clear HSA HSS HSV HSO hask
        generalize (askD c1 ⟨op, a, b, k, n⟩).1 = ev at *
        go_upto_region 12 with (first
          | ((with_reducible refine load_c (by rfl) ?_ HLC.out ?_); (· rfl))
          | ((with_reducible refine load_i (by rfl) ?_ HI7.out ?_); (· rfl))
          | (go_at_call 30; refine (HAS.out).mono ?_; rintro en w8 ⟨rfl, hb8⟩; have HB8 := Lib.hid hb8; have HV8 := Lib.hid (HV7.out.below hb8); clear hb8 HAS)
          | ((with_reducible refine store_e (e := ev) (by rfl) ?_ ?_ HV8.out ?_); (· rfl); (· rfl)))
        obtain ⟨he9, hb9⟩ := laid_e HV8.out ev
        change Code.wp _ _ _ _ (w8.setRow (w6.heap.size + 1) (evA ev))
        have HWx := Lib.hid ((HW7.out.quiet HB8.out).row (e := w6.heap.size + 1) (.inr rfl) hb9)
        have HCx := Lib.hid ((HC7.out.below HB8.out).beside hb9 (by omega))
        have HZx := Lib.hid ((HZ7.out.below HB8.out).beside hb9 (by omega))
        have HEx := Lib.hid ((HE7.out.below HB8.out).beside hb9 (by omega))
        generalize w8.setRow (w6.heap.size + 1) (evA ev) = wx at *
        clear hb9 HX7 HC7 HI7 HZ7 HE7 HV7 HW7 HLX HLC HB8 HV8 HTR
        go_upto_region 13 with (fail)
        refine ret4 (c := c1) (ev := ev) ⟨by decide, by decide, by decide, by decide, by decide, by decide, (by decide : 57 < 191), (by decide : 58 < 191), rfl, rfl, rfl⟩ (by decide) rfl HCx.out.lc he9 HZx.out HEx.out (by omega) (by omega) ?_
        intro w9 k1 k2 k3
        have K1 := Lib.hid k1
        have K2 := Lib.hid k2
        have HWF := Lib.hid (HWx.out.rows (by omega) (by omega) k3).went
        clear k1 k2 k3
        go_wp2_with fail
        refine bodyPost_ret (v := .tuple #[cxV c1, .agg (evA ev)]) (back_ce rfl (by rfl) (by rfl) K1.out K2.out) rfl ?_
        rw [HO.out]
        exact ⟨rfl, HWF.out⟩
      · have hasf : (askD c1 ⟨op, a, b, k, n⟩).2 = false := by simpa using hask
        obtain ⟨⟨h19, h21, h22⟩, hae⟩ := ask_no hasf
        rw [hae] at HAS
        clear HSA hask hasf hae
        simp only at h19 h21 h22
        go_upto_region 12 with (first
          | ((with_reducible refine load_c (by rfl) ?_ HLC.out ?_); (· rfl))
          | ((with_reducible refine load_i (by rfl) ?_ HI7.out ?_); (· rfl))
          | (go_at_call 30; refine (HAS.out).mono ?_; rintro en w8 ⟨rfl, hb8⟩; have HB8 := Lib.hid hb8; have HV8 := Lib.hid (HV7.out.below hb8); clear hb8 HAS)
          | ((with_reducible refine store_e (e := ez) (by rfl) ?_ ?_ HV8.out ?_); (· rfl); (· rfl)))
        obtain ⟨he9, hb9⟩ := laid_e HV8.out ez
        change Code.wp _ _ _ _ (w8.setRow (w6.heap.size + 1) (evA ez))
        have HWx := Lib.hid ((HW7.out.quiet HB8.out).row (e := w6.heap.size + 1) (.inr rfl) hb9)
        have HXx := Lib.hid ((HX7.out.below HB8.out).beside hb9 (by omega))
        have HCx := Lib.hid ((HC7.out.below HB8.out).beside hb9 (by omega))
        have HIx := Lib.hid ((HI7.out.below HB8.out).beside hb9 (by omega))
        have HZx := Lib.hid ((HZ7.out.below HB8.out).beside hb9 (by omega))
        have HEx := Lib.hid ((HE7.out.below HB8.out).beside hb9 (by omega))
        have HWy := Lib.hid (HWx.out.weak (P' := fun k => w.heap.size ≤ k ∧ k < w4.heap.size) fun k hk => .inl hk)
        generalize w8.setRow (w6.heap.size + 1) (evA ez) = wx at *
        clear hb9 he9 HX7 HC7 HI7 HZ7 HE7 HV7 HW7 HLX HLC HB8 HV8 HWx
        have HLX := Lib.hid HXx.out.lc
        have HLC := Lib.hid HCx.out.lc
        have q0 : wx.cell? ⟨bi, 0, none⟩ = some (.int .i64 op) := HIx.out.c 0
        have q1 : wx.cell? ⟨bi, 1, none⟩ = some (.int .i64 (a : Int)) := HIx.out.c 1
        have q2 : wx.cell? ⟨bi, 2, none⟩ = some (.int .i64 (b : Int)) := HIx.out.c 2
        have q3 : wx.cell? ⟨bi, 3, none⟩ = some (.int .i64 (k : Int)) := HIx.out.c 3
        have q4 : wx.cell? ⟨bi, 4, none⟩ = some (.int .i64 n) := HIx.out.c 4
        have ra := HCx.out.at_ a ha
        have rb := HCx.out.at_ b hb
        have rk := HCx.out.at_ k hk
        have rp := HCx.out.pc
        have rt := HCx.out.tp
        have fa := HCx.out.fro (2 + a)
        have pa0 : (0 : Int) ≤ (a : Int) := by omega
        have pa1 : (a : Int) < 16 := by omega
        have pb0 : (0 : Int) ≤ (b : Int) := by omega
        have pb1 : (b : Int) < 16 := by omega
        have pk0 : (0 : Int) ≤ (k : Int) := by omega
        have pk1 : (k : Int) < 16 := by omega
        have HOP := Lib.hid (Cod.may_small HMA.out).1
        simp only at HOP
        clear HMA
        have HPT := Lib.hid (fun (v : Int) => show Cb (wx.setCell ⟨bc, 2 + a, none⟩ (.int .i64 v)) bc (c1.put (a : Int) v) ∧ Beside wx (wx.setCell ⟨bc, 2 + a, none⟩ (.int .i64 v)) (fun j => j = bc) ∧ (c1.put (a : Int) v).rs.length = 16 from ⟨HCx.out.set a v, beside_cell wx bc (2 + a) _, by simp [Cx.put, HL1.out]⟩)
        have HPD := Lib.hid (fun (v : Int) => show Cb (wx.drew.setCell ⟨bc, 2 + a, none⟩ (.int .i64 v)) bc (c1.put (a : Int) v) ∧ Beside wx (wx.drew.setCell ⟨bc, 2 + a, none⟩ (.int .i64 v)) (fun j => j = bc) ∧ (c1.put (a : Int) v).rs.length = 16 from ⟨(HCx.out.below (drew_below wx)).set a v, ⟨rfl, rfl, rfl, (beside_cell wx.drew bc (2 + a) (.int .i64 v)).size, fun j hj hn => (beside_cell wx.drew bc (2 + a) (.int .i64 v)).block j hj hn⟩, by simp [Cx.put, HL1.out]⟩)
        by_cases h0 : op = 0
        · subst h0
          have HO := Lib.hid (show stepM ss c = (trapE 40, c, ss) from (HSV.out (by decide) (by decide) (by decide) (by decide) (by decide) 0 40 (by simp [valueM, calcM])).trans (if_neg (by decide)))
          clear HSS HSV HSO HOP HPT HPD
          clear q1 q2 q3 q4 ra rb rk rp rt fa
          go_upto_region 99 with (first
            | ((with_reducible refine load_c (by rfl) ?_ HLX.out ?_); (· rfl))
            | (go_at_call 28; refine (HTR.out (40) _).mono ?_; rintro en w10 ⟨rfl, hbt⟩; have HZT := Lib.hid (HZx.out.below hbt); have HL := Lib.hid (laid_in HZT.out (HEx.out.below hbt) (by omega) c (trapE (40)) HLN.out); have HEI := Lib.hid HL.out.1; have HWT := Lib.hid (HWy.out.quiet hbt); clear hbt HTR)
            | ((with_reducible refine store_c (c := c) (by rfl) ?_ ?_ HZT.out HLN.out ?_); (· rfl); (· rfl))
            | ((with_reducible refine store_e (e := trapE (40)) (by rfl) ?_ ?_ HEI.out ?_); (· rfl); (· rfl)))
          refine bodyPost_ret (v := .tuple #[cxV c, .agg (evA (trapE (40)))]) (back_ce rfl (by rfl) (by rfl) HL.out.2.1 HL.out.2.2.1) rfl ?_
          rw [HO.out]
          exact ⟨rfl, (HWT.out.rows (by omega) (by omega) HL.out.2.2.2).went⟩
        by_cases h1 : op = 1
        · subst h1
          have HO := Lib.hid (show stepM ss c = (ez, c1.put (a : Int) (n), ss) from (HSV.out (by decide) (by decide) (by decide) (by decide) (by decide) (n) 0 (by simp [valueM])).trans (if_pos rfl))
          clear HSS HSV HSO HOP
          go_upto_region 37 with (fail)
          obtain ⟨hcp, hbp, hlp⟩ := HPT.out (n)
          change Code.wp _ _ _ _ (wx.setCell ⟨bc, 2 + a, none⟩ (.int .i64 (n)))
          generalize wx.setCell ⟨bc, 2 + a, none⟩ (.int .i64 (n)) = wy at *
          have HZy := Lib.hid (HZx.out.beside hbp (by omega))
          have HEy := Lib.hid (HEx.out.beside hbp (by omega))
          have HWz := Lib.hid (HWy.out.row (e := bc) ⟨by omega, hz4⟩ hbp)
          have HCp := Lib.hid hcp
          have HLp := Lib.hid hlp
          clear q0 q1 q2 q3 q4 ra rb rk rp rt fa hcp hbp hlp HPT HPD
          generalize c1.put (a : Int) (n) = d at *
          have HLD := Lib.hid HCp.out.lc
          obtain ⟨heq, hcq, hdq, hbq⟩ := laid_in HZy.out HEy.out (by omega) (d) ez HLp.out
          have HEI := Lib.hid heq
          have K1 := Lib.hid hcq
          have K2 := Lib.hid hdq
          have HWF := Lib.hid (HWz.out.rows (by omega) (by omega) hbq).went
          have HLL := Lib.hid HLp.out
          clear heq hcq hdq hbq
          go_upto_region 99 with (first
            | ((with_reducible refine load_c (by rfl) ?_ HLD.out ?_); (· rfl))
            | ((with_reducible refine store_c (c := d) (by rfl) ?_ ?_ HZy.out HLL.out ?_); (· rfl); (· rfl))
            | ((with_reducible refine store_e (e := ez) (by rfl) ?_ ?_ HEI.out ?_); (· rfl); (· rfl)))
          refine bodyPost_ret (v := .tuple #[cxV (d), .agg (evA ez)]) (back_ce rfl (by rfl) (by rfl) K1.out K2.out) rfl ?_
          rw [HO.out]
          exact ⟨rfl, HWF.out⟩
        by_cases h12 : op = 12
        · subst h12
          have HO := Lib.hid (show stepM ss c = (ez, c1.put (a : Int) (w64 (c1.pc + n)), ss) from (HSV.out (by decide) (by decide) (by decide) (by decide) (by decide) (w64 (c1.pc + n)) 0 (by simp [valueM])).trans (if_pos rfl))
          clear HSS HSV HSO HOP
          go_upto_region 37 with (fail)
          obtain ⟨hcp, hbp, hlp⟩ := HPT.out (w64 (c1.pc + n))
          change Code.wp _ _ _ _ (wx.setCell ⟨bc, 2 + a, none⟩ (.int .i64 (w64 (c1.pc + n))))
          generalize wx.setCell ⟨bc, 2 + a, none⟩ (.int .i64 (w64 (c1.pc + n))) = wy at *
          have HZy := Lib.hid (HZx.out.beside hbp (by omega))
          have HEy := Lib.hid (HEx.out.beside hbp (by omega))
          have HWz := Lib.hid (HWy.out.row (e := bc) ⟨by omega, hz4⟩ hbp)
          have HCp := Lib.hid hcp
          have HLp := Lib.hid hlp
          clear q0 q1 q2 q3 q4 ra rb rk rp rt fa hcp hbp hlp HPT HPD
          generalize c1.put (a : Int) (w64 (c1.pc + n)) = d at *
          have HLD := Lib.hid HCp.out.lc
          obtain ⟨heq, hcq, hdq, hbq⟩ := laid_in HZy.out HEy.out (by omega) (d) ez HLp.out
          have HEI := Lib.hid heq
          have K1 := Lib.hid hcq
          have K2 := Lib.hid hdq
          have HWF := Lib.hid (HWz.out.rows (by omega) (by omega) hbq).went
          have HLL := Lib.hid HLp.out
          clear heq hcq hdq hbq
          go_upto_region 99 with (first
            | ((with_reducible refine load_c (by rfl) ?_ HLD.out ?_); (· rfl))
            | ((with_reducible refine store_c (c := d) (by rfl) ?_ ?_ HZy.out HLL.out ?_); (· rfl); (· rfl))
            | ((with_reducible refine store_e (e := ez) (by rfl) ?_ ?_ HEI.out ?_); (· rfl); (· rfl)))
          refine bodyPost_ret (v := .tuple #[cxV (d), .agg (evA ez)]) (back_ce rfl (by rfl) (by rfl) K1.out K2.out) rfl ?_
          rw [HO.out]
          exact ⟨rfl, HWF.out⟩
        by_cases h20 : op = 20
        · subst h20
          have HO := Lib.hid (show stepM ss c = (ez, c1.put (a : Int) (c1.tp), ss) from (HSV.out (by decide) (by decide) (by decide) (by decide) (by decide) (c1.tp) 0 (by simp [valueM])).trans (if_pos rfl))
          clear HSS HSV HSO HOP
          go_upto_region 37 with (fail)
          obtain ⟨hcp, hbp, hlp⟩ := HPT.out (c1.tp)
          change Code.wp _ _ _ _ (wx.setCell ⟨bc, 2 + a, none⟩ (.int .i64 (c1.tp)))
          generalize wx.setCell ⟨bc, 2 + a, none⟩ (.int .i64 (c1.tp)) = wy at *
          have HZy := Lib.hid (HZx.out.beside hbp (by omega))
          have HEy := Lib.hid (HEx.out.beside hbp (by omega))
          have HWz := Lib.hid (HWy.out.row (e := bc) ⟨by omega, hz4⟩ hbp)
          have HCp := Lib.hid hcp
          have HLp := Lib.hid hlp
          clear q0 q1 q2 q3 q4 ra rb rk rp rt fa hcp hbp hlp HPT HPD
          generalize c1.put (a : Int) (c1.tp) = d at *
          have HLD := Lib.hid HCp.out.lc
          obtain ⟨heq, hcq, hdq, hbq⟩ := laid_in HZy.out HEy.out (by omega) (d) ez HLp.out
          have HEI := Lib.hid heq
          have K1 := Lib.hid hcq
          have K2 := Lib.hid hdq
          have HWF := Lib.hid (HWz.out.rows (by omega) (by omega) hbq).went
          have HLL := Lib.hid HLp.out
          clear heq hcq hdq hbq
          go_upto_region 99 with (first
            | ((with_reducible refine load_c (by rfl) ?_ HLD.out ?_); (· rfl))
            | ((with_reducible refine store_c (c := d) (by rfl) ?_ ?_ HZy.out HLL.out ?_); (· rfl); (· rfl))
            | ((with_reducible refine store_e (e := ez) (by rfl) ?_ ?_ HEI.out ?_); (· rfl); (· rfl)))
          refine bodyPost_ret (v := .tuple #[cxV (d), .agg (evA ez)]) (back_ce rfl (by rfl) (by rfl) K1.out K2.out) rfl ?_
          rw [HO.out]
          exact ⟨rfl, HWF.out⟩
        by_cases h2 : op = 2
        · subst h2
          have HO := Lib.hid (show stepM ss c = (ez, c1.put (a : Int) (c1.reg (b : Int)), ss) from (HSV.out (by decide) (by decide) (by decide) (by decide) (by decide) (c1.reg (b : Int)) 0 (by simp [valueM])).trans (if_pos rfl))
          clear HSS HSV HSO HOP
          have d0 : wx.drew.cell? ⟨bi, 1, none⟩ = some (.int .i64 (a : Int)) := q1
          have d1 : wx.drew.cell? ⟨bi, 2, none⟩ = some (.int .i64 (b : Int)) := q2
          have d2 : wx.drew.cell? ⟨bc, 2 + b, none⟩ = some (.int .i64 (c1.reg (b : Int))) := rb
          have d3 : wx.drew.cell? ⟨bc, 2 + a, none⟩ = some (.int .i64 (c1.reg (a : Int))) := ra
          have d4 : wx.drew.frozen? ⟨bc, 2 + a, none⟩ = false := fa
          go_upto_region 24 with (fail)
          go_still_tail 9, (by kernel_rfl)
          change wpList _ _ _ _ _ wx.drew
          go_upto_region 37 with (fail)
          obtain ⟨hcp, hbp, hlp⟩ := HPD.out (c1.reg (b : Int))
          change Code.wp _ _ _ _ (wx.drew.setCell ⟨bc, 2 + a, none⟩ (.int .i64 (c1.reg (b : Int))))
          generalize wx.drew.setCell ⟨bc, 2 + a, none⟩ (.int .i64 (c1.reg (b : Int))) = wy at *
          have HZy := Lib.hid (HZx.out.beside hbp (by omega))
          have HEy := Lib.hid (HEx.out.beside hbp (by omega))
          have HWz := Lib.hid (HWy.out.row (e := bc) ⟨by omega, hz4⟩ hbp)
          have HCp := Lib.hid hcp
          have HLp := Lib.hid hlp
          clear q0 q1 q2 q3 q4 ra rb rk rp rt fa hcp hbp hlp HPT HPD
          generalize c1.put (a : Int) (c1.reg (b : Int)) = d at *
          have HLD := Lib.hid HCp.out.lc
          obtain ⟨heq, hcq, hdq, hbq⟩ := laid_in HZy.out HEy.out (by omega) (d) ez HLp.out
          have HEI := Lib.hid heq
          have K1 := Lib.hid hcq
          have K2 := Lib.hid hdq
          have HWF := Lib.hid (HWz.out.rows (by omega) (by omega) hbq).went
          have HLL := Lib.hid HLp.out
          clear heq hcq hdq hbq
          go_upto_region 99 with (first
            | ((with_reducible refine load_c (by rfl) ?_ HLD.out ?_); (· rfl))
            | ((with_reducible refine store_c (c := d) (by rfl) ?_ ?_ HZy.out HLL.out ?_); (· rfl); (· rfl))
            | ((with_reducible refine store_e (e := ez) (by rfl) ?_ ?_ HEI.out ?_); (· rfl); (· rfl)))
          refine bodyPost_ret (v := .tuple #[cxV (d), .agg (evA ez)]) (back_ce rfl (by rfl) (by rfl) K1.out K2.out) rfl ?_
          rw [HO.out]
          exact ⟨rfl, HWF.out⟩
        by_cases h11 : op = 11
        · subst h11
          have HO := Lib.hid (show stepM ss c = ((outD (goesS ss (w64 (c1.pc + n)) 8 1) (c1.put (a : Int) (wordS ss (w64 (c1.pc + n)) 1)) c).2, (outD (goesS ss (w64 (c1.pc + n)) 8 1) (c1.put (a : Int) (wordS ss (w64 (c1.pc + n)) 1)) c).1, ss) from (HSV.out (by decide) (by decide) (by decide) (by decide) (by decide) (wordS ss (w64 (c1.pc + n)) 1) (goesS ss (w64 (c1.pc + n)) 8 1) (by simp [valueM])).trans out_step)
          have HLL := Lib.hid (show (outD (goesS ss (w64 (c1.pc + n)) 8 1) (c1.put (a : Int) (wordS ss (w64 (c1.pc + n)) 1)) c).1.rs.length = 16 by unfold outD; split; exact (HPT.out _).2.2; exact HLN.out)
          have HLO := Lib.hid (show Calls Tryd.prog 31 #[cxV c1, cxV c, .pointer (some ⟨g, 0, none⟩), .int .i64 (a : Int), .int .i64 (w64 (c1.pc + n))] wx fun en w' => en = .returned (.tuple #[cxV (outD (goesS ss (w64 (c1.pc + n)) 8 1) (c1.put (a : Int) (wordS ss (w64 (c1.pc + n)) 1)) c).1, .agg (evA (outD (goesS ss (w64 (c1.pc + n)) 8 1) (c1.put (a : Int) (wordS ss (w64 (c1.pc + n)) 1)) c).2)]) ∧ Below (wx).heap.size (wx) w' from by
            obtain ⟨_, m, _⟩ := HWy.out
            exact loaded_any m HL1.out HLN.out a ha _ (w64_i64 _))
          clear HSS HSV HSO HOP HPT HPD HTR
          generalize outD (goesS ss (w64 (c1.pc + n)) 8 1) (c1.put (a : Int) (wordS ss (w64 (c1.pc + n)) 1)) c = o at *
          obtain ⟨d, ev⟩ := o
          simp only at HLO HO HLL
          skip
          go_upto_region 99 with (first
            | ((with_reducible refine load_c (by rfl) ?_ HLC.out ?_); (· rfl))
            | ((with_reducible refine load_c (by rfl) ?_ HLX.out ?_); (· rfl))
            | (go_at_call 31; refine (HLO.out).mono ?_; rintro en wy ⟨rfl, hby⟩; have HZy := Lib.hid (HZx.out.below hby); have HL := Lib.hid (laid_in HZy.out (HEx.out.below hby) (by omega) d ev HLL.out); have HEI := Lib.hid HL.out.1; have HWz := Lib.hid ((HWy.out).quiet hby); clear hby HLO)
            | ((with_reducible refine store_c (c := d) (by rfl) ?_ ?_ HZy.out HLL.out ?_); (· rfl); (· rfl))
            | ((with_reducible refine store_e (e := ev) (by rfl) ?_ ?_ HEI.out ?_); (· rfl); (· rfl)))
          refine bodyPost_ret (v := .tuple #[cxV d, .agg (evA ev)]) (back_ce rfl (by rfl) (by rfl) HL.out.2.1 HL.out.2.2.1) rfl ?_
          rw [HO.out]
          exact ⟨rfl, (HWz.out.rows (by omega) (by omega) HL.out.2.2.2).went⟩
        by_cases h9 : op = 9
        · subst h9
          have HO := Lib.hid (show stepM ss c = ((outD (goesS ss (w64 (c1.reg (b : Int) + n)) 8 1) (c1.put (a : Int) (wordS ss (w64 (c1.reg (b : Int) + n)) 1)) c).2, (outD (goesS ss (w64 (c1.reg (b : Int) + n)) 8 1) (c1.put (a : Int) (wordS ss (w64 (c1.reg (b : Int) + n)) 1)) c).1, ss) from (HSV.out (by decide) (by decide) (by decide) (by decide) (by decide) (wordS ss (w64 (c1.reg (b : Int) + n)) 1) (goesS ss (w64 (c1.reg (b : Int) + n)) 8 1) (by simp [valueM])).trans out_step)
          have HLL := Lib.hid (show (outD (goesS ss (w64 (c1.reg (b : Int) + n)) 8 1) (c1.put (a : Int) (wordS ss (w64 (c1.reg (b : Int) + n)) 1)) c).1.rs.length = 16 by unfold outD; split; exact (HPT.out _).2.2; exact HLN.out)
          have HLO := Lib.hid (fun (X : World) (hX : Wd w X B g F ss (fun k => w.heap.size ≤ k ∧ k < w4.heap.size)) => show Calls Tryd.prog 31 #[cxV c1, cxV c, .pointer (some ⟨g, 0, none⟩), .int .i64 (a : Int), .int .i64 (w64 (c1.reg (b : Int) + n))] X fun en w' => en = .returned (.tuple #[cxV (outD (goesS ss (w64 (c1.reg (b : Int) + n)) 8 1) (c1.put (a : Int) (wordS ss (w64 (c1.reg (b : Int) + n)) 1)) c).1, .agg (evA (outD (goesS ss (w64 (c1.reg (b : Int) + n)) 8 1) (c1.put (a : Int) (wordS ss (w64 (c1.reg (b : Int) + n)) 1)) c).2)]) ∧ Below X.heap.size X w' from by
            obtain ⟨_, m, _⟩ := hX
            exact loaded_any m HL1.out HLN.out a ha _ (w64_i64 _))
          clear HSS HSV HSO HOP HPT HPD HTR
          generalize outD (goesS ss (w64 (c1.reg (b : Int) + n)) 8 1) (c1.put (a : Int) (wordS ss (w64 (c1.reg (b : Int) + n)) 1)) c = o at *
          obtain ⟨d, ev⟩ := o
          simp only at HLO HO HLL
          have HXC := Lib.hid (fun (X : World) (hX : Beside wx X (fun j => j = w.heap.size + 1 ∨ j = w.heap.size + 1 + 1)) => (HCx.out.beside hX (by omega)).lc)
          have HXW := Lib.hid (fun (X : World) (hX : Beside wx X (fun j => j = w.heap.size + 1 ∨ j = w.heap.size + 1 + 1)) => (HXx.out.beside hX (by omega)).lc)
          have HQ1 := Lib.hid (fun (X : World) (hX : Beside wx X (fun j => j = w.heap.size + 1 ∨ j = w.heap.size + 1 + 1)) => show X.cell? ⟨bi, 1, none⟩ = some (.int .i64 (a : Int)) from (HIx.out.beside hX (by omega)).c 1)
          have HQ2 := Lib.hid (fun (X : World) (hX : Beside wx X (fun j => j = w.heap.size + 1 ∨ j = w.heap.size + 1 + 1)) => show X.cell? ⟨bi, 2, none⟩ = some (.int .i64 (b : Int)) from (HIx.out.beside hX (by omega)).c 2)
          have HQ4 := Lib.hid (fun (X : World) (hX : Beside wx X (fun j => j = w.heap.size + 1 ∨ j = w.heap.size + 1 + 1)) => show X.cell? ⟨bi, 4, none⟩ = some (.int .i64 n) from (HIx.out.beside hX (by omega)).c 4)
          have HQR := Lib.hid (fun (X : World) (hX : Beside wx X (fun j => j = w.heap.size + 1 ∨ j = w.heap.size + 1 + 1)) => (HCx.out.beside hX (by omega)).at_ b hb)
          go_upto_region 30 with (fail)
          clear q0 q1 q2 q3 q4 ra rb rk rp rt fa
          have HWD := Lib.hid (HWy.out.quiet (drew_below wx))
          have HSD := Lib.hid (show Beside wx wx.drew (fun j => j = w.heap.size + 1 ∨ j = w.heap.size + 1 + 1) from Beside.of_below (drew_below wx) _)
          have HZD := Lib.hid (HZx.out.below (drew_below wx))
          have HED := Lib.hid (HEx.out.below (drew_below wx))
          refine wp_region_held_drew (S := fun X => Beside wx X (fun j => j = w.heap.size + 1 ∨ j = w.heap.size + 1 + 1)) (by kernel_rfl) HSD.out (fun hHeld => ?_)
          refine wpAnyH_take (i := 0) (oi := ⟨some 134, .load 26 (.tmp 8), _, _, _, none⟩) (v := cxV c1) rfl (by kernel_rfl) (by kernel_rfl) (by kernel_rfl) (fun _ _ _ h => h) (yields_c HL1.out (by rfl) rfl rfl HXC.out) hHeld ?_
          simp only [Act.put, List.setIfInBounds_toArray, List.set_cons_zero, List.set_cons_succ]
          refine wpAnyH_take (i := 1) (oi := ⟨some 135, .load 26 (.tmp 2), _, _, _, none⟩) (v := cxV c) rfl (by kernel_rfl) (by kernel_rfl) (by kernel_rfl) (fun _ _ _ h => h) (yields_c HLN.out (by rfl) rfl rfl HXW.out) hHeld ?_
          simp only [Act.put, List.setIfInBounds_toArray, List.set_cons_zero, List.set_cons_succ]
          refine wpAnyH_take (i := 2) (oi := ⟨some 136, .move (.tmp 1), _, _, _, none⟩) (v := .pointer (some ⟨g, 0, none⟩)) rfl (by kernel_rfl) (by kernel_rfl) (by kernel_rfl) (fun _ _ _ h => h) (Or.inl ⟨by rfl, fun X _ => by go_simp⟩) hHeld ?_
          simp only [Act.put, List.setIfInBounds_toArray, List.set_cons_zero, List.set_cons_succ]
          refine wpAnyH_take (i := 3) (oi := ⟨some 137, .fieldAddr 51 (.tmp 6) 1, _, _, _, none⟩) (v := .pointer (some ⟨bi, 1, none⟩)) rfl (by kernel_rfl) (by kernel_rfl) (by kernel_rfl) (fun _ _ _ h => h) (Or.inl ⟨by rfl, fun X _ => by go_simp⟩) hHeld ?_
          simp only [Act.put, List.setIfInBounds_toArray, List.set_cons_zero, List.set_cons_succ]
          refine wpAnyH_take (i := 4) (oi := ⟨some 138, .load 3 (.tmp 137), _, _, _, none⟩) (v := .int .i64 (a : Int)) rfl (by kernel_rfl) (by kernel_rfl) (by kernel_rfl) (fun _ _ _ h => h) (Or.inl ⟨by rfl, fun X hX => by have q := HQ1.out X hX; clear hX; go_simp⟩) hHeld ?_
          simp only [Act.put, List.setIfInBounds_toArray, List.set_cons_zero, List.set_cons_succ]
          refine wpAnyH_take (i := 5) (oi := ⟨some 139, .fieldAddr 51 (.tmp 6) 2, _, _, _, none⟩) (v := .pointer (some ⟨bi, 2, none⟩)) rfl (by kernel_rfl) (by kernel_rfl) (by kernel_rfl) (fun _ _ _ h => h) (Or.inl ⟨by rfl, fun X _ => by go_simp⟩) hHeld ?_
          simp only [Act.put, List.setIfInBounds_toArray, List.set_cons_zero, List.set_cons_succ]
          refine wpAnyH_take (i := 6) (oi := ⟨some 140, .load 3 (.tmp 139), _, _, _, none⟩) (v := .int .i64 (b : Int)) rfl (by kernel_rfl) (by kernel_rfl) (by kernel_rfl) (fun _ _ _ h => h) (Or.inl ⟨by rfl, fun X hX => by have q := HQ2.out X hX; clear hX; go_simp⟩) hHeld ?_
          simp only [Act.put, List.setIfInBounds_toArray, List.set_cons_zero, List.set_cons_succ]
          refine wpAnyH_take (i := 7) (oi := ⟨some 141, .fieldAddr 26 (.tmp 8) 2, _, _, _, none⟩) (v := .pointer (some ⟨bc, 2, none⟩)) rfl (by kernel_rfl) (by kernel_rfl) (by kernel_rfl) (fun _ _ _ h => h) (Or.inl ⟨by rfl, fun X _ => by go_simp⟩) hHeld ?_
          simp only [Act.put, List.setIfInBounds_toArray, List.set_cons_zero, List.set_cons_succ]
          refine wpAnyH_take (i := 8) (oi := ⟨some 142, .indexAddr 24 (.tmp 141) (.tmp 140), _, _, _, none⟩) (v := .pointer (some ⟨bc, 2 + b, none⟩)) rfl (by kernel_rfl) (by kernel_rfl) (by kernel_rfl) (fun _ _ _ h => h) (Or.inl ⟨by rfl, fun X _ => by go_simp⟩) hHeld ?_
          simp only [Act.put, List.setIfInBounds_toArray, List.set_cons_zero, List.set_cons_succ]
          refine wpAnyH_take (i := 9) (oi := ⟨some 143, .load 3 (.tmp 142), _, _, _, none⟩) (v := .int .i64 (c1.reg (b : Int))) rfl (by kernel_rfl) (by kernel_rfl) (by kernel_rfl) (fun _ _ _ h => h) (Or.inl ⟨by rfl, fun X hX => by have q := HQR.out X hX; clear hX; go_simp⟩) hHeld ?_
          simp only [Act.put, List.setIfInBounds_toArray, List.set_cons_zero, List.set_cons_succ]
          refine wpAnyH_take (i := 10) (oi := ⟨some 144, .fieldAddr 51 (.tmp 6) 4, _, _, _, none⟩) (v := .pointer (some ⟨bi, 4, none⟩)) rfl (by kernel_rfl) (by kernel_rfl) (by kernel_rfl) (fun _ _ _ h => h) (Or.inl ⟨by rfl, fun X _ => by go_simp⟩) hHeld ?_
          simp only [Act.put, List.setIfInBounds_toArray, List.set_cons_zero, List.set_cons_succ]
          refine wpAnyH_take (i := 11) (oi := ⟨some 145, .load 3 (.tmp 144), _, _, _, none⟩) (v := .int .i64 n) rfl (by kernel_rfl) (by kernel_rfl) (by kernel_rfl) (fun _ _ _ h => h) (Or.inl ⟨by rfl, fun X hX => by have q := HQ4.out X hX; clear hX; go_simp⟩) hHeld ?_
          simp only [Act.put, List.setIfInBounds_toArray, List.set_cons_zero, List.set_cons_succ]
          refine wpAnyH_take (i := 12) (oi := ⟨some 146, .binOp .add 3 (.tmp 143) (.tmp 145) 3, _, _, _, none⟩) (v := .int .i64 (w64 (c1.reg (b : Int) + n))) rfl (by kernel_rfl) (by kernel_rfl) (by kernel_rfl) (fun _ _ _ h => h) (Or.inl ⟨by rfl, fun X _ => by go_simp; exact w64_kind _⟩) hHeld ?_
          simp only [Act.put, List.setIfInBounds_toArray, List.set_cons_zero, List.set_cons_succ]
          clear HXC HXW HQ1 HQ2 HQ4 HQR hHeld HLX HLC HIx HCx
          generalize wx.drew = v0 at *
          refine wpAnyH_ready (rs := [13]) (by kernel_rfl) (by simp) (AllReadyH.cons (o := ⟨some 147, .call { callee := .value (.func 31), args := #[.tmp 134, .tmp 135, .tmp 136, .tmp 138, .tmp 146], argTypes := _ }, _, _, _, none⟩) rfl (fun K hK => ?_) AllReadyH.nil)
          rw [if_pos (by rfl)]
          go_simp
          refine (HLO.out v0 HWD.out).mono ?_
          rintro en wy ⟨rfl, hby⟩
          have HZy := Lib.hid (HZD.out.below hby)
          have HL := Lib.hid (laid_in HZy.out (HED.out.below hby) (by omega) d ev HLL.out)
          have HEI := Lib.hid HL.out.1
          have HWz := Lib.hid (HWD.out.quiet hby)
          have HSy := Lib.hid (show Beside wx wy (fun j => j = w.heap.size + 1 ∨ j = w.heap.size + 1 + 1) from ⟨hby.os.trans HSD.out.os, hby.tape.trans HSD.out.tape, hby.output.trans HSD.out.output, Nat.le_trans HSD.out.size hby.size, fun j hj hn => (hby.block j (Nat.lt_of_lt_of_le hj HSD.out.size)).trans (HSD.out.block j hj hn)⟩)
          refine hK.out _ _ HSy.out (fun hHeld => ?_)
          clear hK K hby HLO
          refine wpAnyH_take (i := 14) (oi := ⟨some 148, .extract (.tmp 147) 0, _, _, _, none⟩) (v := cxV d) rfl (by kernel_rfl) (by kernel_rfl) (by kernel_rfl) (fun _ _ _ h => h) (Or.inl ⟨by rfl, fun X _ => by go_simp⟩) hHeld ?_
          simp only [Act.put, List.setIfInBounds_toArray, List.set_cons_zero, List.set_cons_succ]
          refine wpAnyH_take (i := 15) (oi := ⟨some 149, .extract (.tmp 147) 1, _, _, _, none⟩) (v := .agg (evA ev)) rfl (by kernel_rfl) (by kernel_rfl) (by kernel_rfl) (fun _ _ _ h => h) (Or.inl ⟨by rfl, fun X _ => by go_simp⟩) hHeld ?_
          simp only [Act.put, List.setIfInBounds_toArray, List.set_cons_zero, List.set_cons_succ]
          have b1 := row_beside wy (w.heap.size + 1) (cxA d)
          have b2 := row_beside (wy.setRow (w.heap.size + 1) (cxA d)) (w.heap.size + 1 + 1) (evA ev)
          refine wpAnyH_ready (rs := [16]) (by kernel_rfl) (by simp) (AllReadyH.cons (o := ⟨none, .store 26 (.tmp 4) (.tmp 148), _, _, _, none⟩) rfl (fun K hK => ?_) AllReadyH.nil)
          rw [if_pos (by rfl)]
          refine store_c rfl rfl rfl HZy.out HLL.out ?_
          have HS1 := Lib.hid (show Beside wx (wy.setRow (w.heap.size + 1) (cxA d)) (fun j => j = w.heap.size + 1 ∨ j = w.heap.size + 1 + 1) from ⟨b1.os.trans HSy.out.os, b1.tape.trans HSy.out.tape, b1.output.trans HSy.out.output, Nat.le_trans HSy.out.size b1.size, fun j hj hn => (b1.block j (Nat.lt_of_lt_of_le hj HSy.out.size) (by omega)).trans (HSy.out.block j hj hn)⟩)
          refine hK.out _ _ HS1.out (fun hHeld => ?_)
          clear hK K
          refine wpAnyH_ready (rs := [17]) (by kernel_rfl) (by simp) (AllReadyH.cons (o := ⟨none, .store 37 (.tmp 5) (.tmp 149), _, _, _, none⟩) rfl (fun K hK => ?_) AllReadyH.nil)
          rw [if_pos (by rfl)]
          refine store_e rfl rfl rfl HEI.out ?_
          refine hK.out _ _ ⟨b2.os.trans HS1.out.os, b2.tape.trans HS1.out.tape, b2.output.trans HS1.out.output, Nat.le_trans HS1.out.size b2.size, fun j hj hn => (b2.block j (Nat.lt_of_lt_of_le hj HS1.out.size) (by omega)).trans (HS1.out.block j hj hn)⟩ (fun hHeld => ?_)
          clear hK K hHeld
          refine wpAnyH_done (by kernel_rfl) ?_ _
          clear b1 b2 HS1 HSy HSD HZD HED
          go_wp2_with fail
          refine bodyPost_ret (v := .tuple #[cxV d, .agg (evA ev)]) (back_ce rfl (by rfl) (by rfl) HL.out.2.1 HL.out.2.2.1) rfl ?_
          rw [HO.out]
          exact ⟨rfl, (HWz.out.rows (by omega) (by omega) HL.out.2.2.2).went⟩
        by_cases h10 : op = 10
        · subst h10
          have hss := HSS.out rfl
          have HSW := Lib.hid (((HWy.out.quiet (drew_below wx))).went2 (f := 32) (args := #[.pointer (some ⟨g, 0, none⟩), .int .i64 (w64 (c1.reg (b : Int) + n)), .int .i64 (c1.reg (a : Int)), .int .i64 2]) fun F' m => SetWord_m (c1.reg (a : Int)) (w64_i64 _) (p := 2) (by omega) m)
          have d1 : wx.drew.cell? ⟨bi, 1, none⟩ = some (.int .i64 (a : Int)) := q1
          have d2 : wx.drew.cell? ⟨bi, 2, none⟩ = some (.int .i64 (b : Int)) := q2
          have d4 : wx.drew.cell? ⟨bi, 4, none⟩ = some (.int .i64 n) := q4
          have e2 : wx.drew.cell? ⟨bc, 2 + b, none⟩ = some (.int .i64 (c1.reg (b : Int))) := rb
          have e1 : wx.drew.cell? ⟨bc, 2 + a, none⟩ = some (.int .i64 (c1.reg (a : Int))) := ra
          go_upto_region 34 with (fail)
          go_still_tail 14, (by kernel_rfl)
          change wpList _ _ _ _ _ wx.drew
          by_cases hg : (storeS ss (w64 (c1.reg (b : Int) + n)) (digs (c1.reg (a : Int)) 8) 2).1 = 0
          · have HO := Lib.hid (hss.trans (if_pos hg))
            rw [hg] at HSW
            clear HSS HSV HSO HOP HPT HPD hss hg
            generalize (storeS ss (w64 (c1.reg (b : Int) + n)) (digs (c1.reg (a : Int)) 8) 2).2 = S2 at *
            go_upto_region 37 with (first
              | (go_at_call 32; refine (HSW.out).mono ?_; rintro en wy ⟨rfl, hwy, hky⟩; have HWz := Lib.hid hwy; have HZy := Lib.hid (HZx.out.kept (Q := fun k => w.heap.size ≤ k ∧ k < w4.heap.size) hky (by omega)); have HEy := Lib.hid (HEx.out.kept (Q := fun k => w.heap.size ≤ k ∧ k < w4.heap.size) hky (by omega)); have HCy := Lib.hid (HCx.out.kept (Q := fun k => w.heap.size ≤ k ∧ k < w4.heap.size) hky (by omega)); clear hwy hky HSW))
            clear q0 q1 q2 q3 q4 ra rb rk rp rt fa
            have HLD := Lib.hid HCy.out.lc
            obtain ⟨heq, hcq, hdq, hbq⟩ := laid_in HZy.out HEy.out (by omega) (c1) ez HL1.out
            have HEI := Lib.hid heq
            have K1 := Lib.hid hcq
            have K2 := Lib.hid hdq
            have HWF := Lib.hid (HWz.out.rows (by omega) (by omega) hbq).went
            have HLL := Lib.hid HL1.out
            clear heq hcq hdq hbq
            go_upto_region 99 with (first
              | ((with_reducible refine load_c (by rfl) ?_ HLD.out ?_); (· rfl))
              | ((with_reducible refine store_c (c := c1) (by rfl) ?_ ?_ HZy.out HLL.out ?_); (· rfl); (· rfl))
              | ((with_reducible refine store_e (e := ez) (by rfl) ?_ ?_ HEI.out ?_); (· rfl); (· rfl)))
            refine bodyPost_ret (v := .tuple #[cxV (c1), .agg (evA ez)]) (back_ce rfl (by rfl) (by rfl) K1.out K2.out) rfl ?_
            rw [HO.out]
            exact ⟨rfl, HWF.out⟩
          · have HO := Lib.hid (hss.trans (if_neg hg))
            have hg2 : ((storeS ss (w64 (c1.reg (b : Int) + n)) (digs (c1.reg (a : Int)) 8) 2).1 == 0) = false := by simpa using hg
            have hg3 : ((storeS ss (w64 (c1.reg (b : Int) + n)) (digs (c1.reg (a : Int)) 8) 2).1 != 0) = true := by simpa using hg
            clear HSS HSV HSO HOP HPT HPD hss hg
            generalize (storeS ss (w64 (c1.reg (b : Int) + n)) (digs (c1.reg (a : Int)) 8) 2).1 = er at *
            generalize (storeS ss (w64 (c1.reg (b : Int) + n)) (digs (c1.reg (a : Int)) 8) 2).2 = S2 at *
            go_upto_region 36 with (first
              | (go_at_call 32; refine (HSW.out).mono ?_; rintro en wy ⟨rfl, hwy, hky⟩; have HWz := Lib.hid hwy; have HZy := Lib.hid (HZx.out.kept (Q := fun k => w.heap.size ≤ k ∧ k < w4.heap.size) hky (by omega)); have HEy := Lib.hid (HEx.out.kept (Q := fun k => w.heap.size ≤ k ∧ k < w4.heap.size) hky (by omega)); have HLY := Lib.hid (HXx.out.kept (Q := fun k => w.heap.size ≤ k ∧ k < w4.heap.size) hky (by omega)).lc; clear hwy hky HSW))
            clear q0 q1 q2 q3 q4 ra rb rk rp rt fa
            go_upto_region 99 with (first
              | ((with_reducible refine load_c (by rfl) ?_ HLY.out ?_); (· rfl))
              | (go_at_call 28; refine (HTR.out (er) _).mono ?_; rintro en w10 ⟨rfl, hbt⟩; have HZT := Lib.hid (HZy.out.below hbt); have HL := Lib.hid (laid_in HZT.out (HEy.out.below hbt) (by omega) c (trapE (er)) HLN.out); have HEI := Lib.hid HL.out.1; have HWT := Lib.hid (HWz.out.quiet hbt); clear hbt HTR)
              | ((with_reducible refine store_c (c := c) (by rfl) ?_ ?_ HZT.out HLN.out ?_); (· rfl); (· rfl))
              | ((with_reducible refine store_e (e := trapE (er)) (by rfl) ?_ ?_ HEI.out ?_); (· rfl); (· rfl)))
            refine bodyPost_ret (v := .tuple #[cxV c, .agg (evA (trapE (er)))]) (back_ce rfl (by rfl) (by rfl) HL.out.2.1 HL.out.2.2.1) rfl ?_
            rw [HO.out]
            exact ⟨rfl, (HWT.out.rows (by omega) (by omega) HL.out.2.2.2).went⟩
        have hj6 : ¬ (13 ≤ op ∧ op ≤ 18) := fun hh => by
          have h3 : op = 13 ∨ op = 14 ∨ op = 15 ∨ op = 16 ∨ op = 17 ∨ op = 18 := by omega
          have h4 := HJF.out
          rcases h3 with h3 | h3 | h3 | h3 | h3 | h3 <;> (rw [h3] at h4; cases h4)
        have hop := HOP.out
        have ho : op = 3 ∨ op = 4 ∨ op = 5 ∨ op = 6 ∨ op = 7 ∨ op = 8 := by omega
        have HRC := Lib.hid (fun X => reck_any op (c1.reg (b : Int)) (c1.reg (k : Int)) ho X)
        have hval : valueM ss c1 ⟨op, a, b, k, n⟩ = ((calcM op (c1.reg (b : Int)) (c1.reg (k : Int))).1, (calcM op (c1.reg (b : Int)) (c1.reg (k : Int))).2) := by
          unfold valueM
          rw [if_neg h1, if_neg h2, if_neg h9, if_neg h11, if_neg h12, if_neg h20]
        have hsv := HSV.out h19 h21 h22 h10 HJF.out _ _ hval
        have hce := calc_err op (c1.reg (b : Int)) (c1.reg (k : Int)) ho
        have g0 : (op == 0) = false := by simpa using h0
        have g1 : (op == 1) = false := by simpa using h1
        have g2 : (op == 2) = false := by simpa using h2
        have g9 : (op == 9) = false := by simpa using h9
        have g10 : (op == 10) = false := by simpa using h10
        have g11 : (op == 11) = false := by simpa using h11
        have g12 : (op == 12) = false := by simpa using h12
        have g20 : (op == 20) = false := by simpa using h20
        have d0 : wx.drew.cell? ⟨bi, 0, none⟩ = some (.int .i64 op) := q0
        have d1 : wx.drew.cell? ⟨bi, 1, none⟩ = some (.int .i64 (a : Int)) := q1
        have d2 : wx.drew.cell? ⟨bi, 2, none⟩ = some (.int .i64 (b : Int)) := q2
        have d3 : wx.drew.cell? ⟨bi, 3, none⟩ = some (.int .i64 (k : Int)) := q3
        have d4 : wx.drew.cell? ⟨bi, 4, none⟩ = some (.int .i64 n) := q4
        have e2 : wx.drew.cell? ⟨bc, 2 + b, none⟩ = some (.int .i64 (c1.reg (b : Int))) := rb
        have e1 : wx.drew.cell? ⟨bc, 2 + a, none⟩ = some (.int .i64 (c1.reg (a : Int))) := ra
        have e3 : wx.drew.cell? ⟨bc, 2 + k, none⟩ = some (.int .i64 (c1.reg (k : Int))) := rk
        clear h0 h1 h2 h9 h10 h11 h12 h20 h19 h21 h22 hj6 hop ho HSS HSV HSO HOP hval
        go_upto_region 15 with (fail)
        go_region_held3 (fun X => X.cell? ⟨bi, 0, none⟩ = some (.int .i64 op) ∧ X.cell? ⟨bi, 2, none⟩ = some (.int .i64 (b : Int)) ∧ X.cell? ⟨bi, 3, none⟩ = some (.int .i64 (k : Int)) ∧ X.cell? ⟨bc, 2 + b, none⟩ = some (.int .i64 (c1.reg (b : Int))) ∧ X.cell? ⟨bc, 2 + k, none⟩ = some (.int .i64 (c1.reg (k : Int)))) (exact ⟨d0, d2, d3, e2, e3⟩) (first
          | (go_at_call 33; (with_reducible refine (HRC.out _).mono ?_); rintro e w' ⟨rfl, rfl⟩))
        generalize (calcM op (c1.reg (b : Int)) (c1.reg (k : Int))).1 = v at *
        generalize (calcM op (c1.reg (b : Int)) (c1.reg (k : Int))).2 = er at *
        by_cases her : er = 0
        · subst her
          have HO := Lib.hid (hsv.trans (if_pos rfl))
          clear hsv hce
          have f1 : wx.drew.frozen? ⟨bc, 2 + a, none⟩ = false := fa
          go_upto_region 37 with (fail)
          obtain ⟨hcp, hbp, hlp⟩ := HPD.out v
          change Code.wp _ _ _ _ (wx.drew.setCell ⟨bc, 2 + a, none⟩ (.int .i64 v))
          generalize wx.drew.setCell ⟨bc, 2 + a, none⟩ (.int .i64 v) = wy at *
          have HZy := Lib.hid (HZx.out.beside hbp (by omega))
          have HEy := Lib.hid (HEx.out.beside hbp (by omega))
          have HWz := Lib.hid (HWy.out.row (e := bc) ⟨by omega, hz4⟩ hbp)
          have HCp := Lib.hid hcp
          have HLp := Lib.hid hlp
          clear q0 q1 q2 q3 q4 ra rb rk rp rt fa hcp hbp hlp HPT HPD
          generalize c1.put (a : Int) v = d at *
          have HLD := Lib.hid HCp.out.lc
          obtain ⟨heq, hcq, hdq, hbq⟩ := laid_in HZy.out HEy.out (by omega) (d) ez HLp.out
          have HEI := Lib.hid heq
          have K1 := Lib.hid hcq
          have K2 := Lib.hid hdq
          have HWF := Lib.hid (HWz.out.rows (by omega) (by omega) hbq).went
          have HLL := Lib.hid HLp.out
          clear heq hcq hdq hbq
          go_upto_region 99 with (first
            | ((with_reducible refine load_c (by rfl) ?_ HLD.out ?_); (· rfl))
            | ((with_reducible refine store_c (c := d) (by rfl) ?_ ?_ HZy.out HLL.out ?_); (· rfl); (· rfl))
            | ((with_reducible refine store_e (e := ez) (by rfl) ?_ ?_ HEI.out ?_); (· rfl); (· rfl)))
          refine bodyPost_ret (v := .tuple #[cxV (d), .agg (evA ez)]) (back_ce rfl (by rfl) (by rfl) K1.out K2.out) rfl ?_
          rw [HO.out]
          exact ⟨rfl, HWF.out⟩
        · obtain rfl : er = 1 := hce.resolve_left her
          have HO := Lib.hid (hsv.trans (if_neg (by decide)))
          have HZy := Lib.hid (HZx.out.below (drew_below wx))
          have HEy := Lib.hid (HEx.out.below (drew_below wx))
          have HLY := Lib.hid (HXx.out.below (drew_below wx)).lc
          have HWz := Lib.hid (HWy.out.quiet (drew_below wx))
          clear hsv hce her HPT HPD
          go_upto_region 99 with (first
            | ((with_reducible refine load_c (by rfl) ?_ HLY.out ?_); (· rfl))
            | (go_at_call 28; refine (HTR.out (1) _).mono ?_; rintro en w10 ⟨rfl, hbt⟩; have HZT := Lib.hid (HZy.out.below hbt); have HL := Lib.hid (laid_in HZT.out (HEy.out.below hbt) (by omega) c (trapE (1)) HLN.out); have HEI := Lib.hid HL.out.1; have HWT := Lib.hid (HWz.out.quiet hbt); clear hbt HTR)
            | ((with_reducible refine store_c (c := c) (by rfl) ?_ ?_ HZT.out HLN.out ?_); (· rfl); (· rfl))
            | ((with_reducible refine store_e (e := trapE (1)) (by rfl) ?_ ?_ HEI.out ?_); (· rfl); (· rfl)))
          refine bodyPost_ret (v := .tuple #[cxV c, .agg (evA (trapE (1)))]) (back_ce rfl (by rfl) (by rfl) HL.out.2.1 HL.out.2.2.1) rfl ?_
          rw [HO.out]
          exact ⟨rfl, (HWT.out.rows (by omega) (by omega) HL.out.2.2.2).went⟩
end Go.Proofs.YtfkhfjefddgkoaaDoor
