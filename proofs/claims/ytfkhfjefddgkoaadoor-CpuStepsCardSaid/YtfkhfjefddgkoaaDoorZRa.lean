/-
  CpuStays, walked.
  The document's machine: what is trapped, what is reckoned, what stands at an address, what is told or asked.
-/
import Derived.Test.YtfkhfjefddgkoaaDoorZPd
import Derived.Test.YtfkhfjefddgkoaaDoorZQ
namespace Go.Proofs.YtfkhfjefddgkoaaDoor
open Go.RowKit

theorem Wm.mapAt1 {w0 w : World} {Q : Nat → Prop} {g gm : Nat} {ss sm : List Seg} (h : Wm w0 w Q g ss gm sm) (a s p : Int) :
    Calls Tryd.prog 17 #[.pointer (some ⟨g, 0, none⟩), .int .i64 a, .int .i64 s, .int .i64 p] w fun e w' => e = .returned (.int .i64 (mapAtS ss a s p).1) ∧ Wm w0 w' Q g (mapAtS ss a s p).2 gm sm ∧ Kept Q w w' := by
  obtain ⟨hb, F, F', h1, h2, h3, h4⟩ := h
  exact (MapAt_s a s p h1).mono fun e w' hw => ⟨hw.1, Wm.went hb h1 h2 h3 h4 hw.2⟩
theorem Wm.mapAt2 {w0 w : World} {Q : Nat → Prop} {g gm : Nat} {ss sm : List Seg} (h : Wm w0 w Q g ss gm sm) (a s p : Int) :
    Calls Tryd.prog 18 #[.pointer (some ⟨gm, 0, none⟩), .int .i64 a, .int .i64 s, .int .i64 p] w fun e w' => e = .returned (.int .i64 (mapAtS sm a s p).1) ∧ Wm w0 w' Q g ss gm (mapAtS sm a s p).2 ∧ Kept Q w w' := by
  obtain ⟨hb, F, F', h1, h2, h3, h4⟩ := h
  exact (MapAt_m a s p h2).mono fun e w' hw => ⟨hw.1, Wm.wentM hb h1 h2 h3 h4 hw.2⟩
theorem Wm.good {w0 w : World} {Q : Nat → Prop} {g gm : Nat} {ss sm : List Seg} (h : Wm w0 w Q g ss gm sm) : Good ss := by
  obtain ⟨_, F, _, h1, _⟩ := h
  exact h1.good
theorem difs_le (c d : Cx) : ∀ n, difs c d n ≤ n
  | 0 => Nat.le_refl _
  | n + 1 => by
    have := difs_le c d n
    unfold difs
    split <;> omega
theorem case_reg {w : World} {b : Nat} {x : Cs} {A B : Option Addr} {n e : Nat} (hb : Bx w b (caseA x A n B e) 28) (hl : x.c.rs.length = 16) (a : Nat) (ha : a < 16) : w.cell? ⟨b, 5 + a, none⟩ = some (.int .i64 (x.c.reg (a : Int))) := by
  have h := case_ctx hb (2 + a) (.int .i64 (x.c.reg (a : Int))) (by
    have hal : a < x.c.rs.length := by rw [hl]; exact ha
    rw [cxC, show 2 + a = a + 1 + 1 by omega, List.getElem?_cons_succ, List.getElem?_cons_succ]
    simp [ints, Cx.reg, hal])
  rw [show 3 + (2 + a) = 5 + a by omega] at h
  exact h
set_option maxRecDepth 100000 in
set_option maxHeartbeats 8000000 in
theorem stays_any (x : Cs) (A : Option Addr) (a : Nat) (B : Option Addr) (e : Nat) (w : World) (h : CsV w (fun k => k < w.heap.size) x A a B e) (i : Ins) (hs : Cod.Shps w) :
    Calls Tryd.prog 7 #[caseV x A a B e, Cod.insV i] w fun en w' => en = .returned (.bool true) ∧ Below w.heap.size w w' := by
  have HS := Lib.hid hs
  have HLN := Lib.hid h.ok.len
  have HOK := Lib.hid (h.ok.to (v := 1048576) (by unfold I64; omega))
  have HLB := Lib.hid (fun (w2 : World) (hb : Below w.heap.size w w2) => law_both h hs hb)
  clear h hs
  go_enter Tryd.func7, Tryd.ntmps7
  go_upto_region 1 with (fail)
  obtain ⟨hx1, hi1, hb1⟩ := al_two w (caseA x A a B e) #[.int .i64 i.op, .int .i64 i.a, .int .i64 i.b, .int .i64 i.c, .int .i64 i.n] 28 51
  change Code.wp _ _ _ _ (al (al w (caseA x A a B e) 28) #[.int .i64 i.op, .int .i64 i.a, .int .i64 i.b, .int .i64 i.c, .int .i64 i.n] 51)
  generalize al (al w (caseA x A a B e) 28) #[.int .i64 i.op, .int .i64 i.a, .int .i64 i.b, .int .i64 i.c, .int .i64 i.n] 51 = w1 at *
  have HA := Lib.hid (awake6_any w1 (HS.out.below hb1))
  have HX1 := Lib.hid hx1
  have HI1 := Lib.hid hi1
  have HB1 := Lib.hid hb1
  clear hx1 hb1 hi1
  go_upto_region 2 with (fail)
  refine HA.out.mono ?_
  rintro en w2 ⟨rfl, hb2⟩
  have HX2 := Lib.hid (HX1.out.below hb2)
  have HI2 := Lib.hid (HI1.out.below hb2)
  have HB2 := Lib.hid (HB1.out.trans (hb2.mono HB1.out.size))
  have hlt2 : w.heap.size < w2.heap.size := HX2.out.lt
  have hlt3 : w.heap.size + 1 < w2.heap.size := HI2.out.lt
  clear hb2 HA HX1 HB1 HI1
  have HC := Lib.hid (HLB.out w2 HB2.out)
  go_upto_region 3 with (first
    | ((with_reducible refine load_case (by rfl) ?_ HX2.out HLN.out ?_); (· rfl))
    | (go_at_call 11; refine (HC.out).mono ?_; rintro en w3 ⟨g, gm, rfl, hw3, hb3⟩; have HW3 := Lib.hid (hw3.less (Q' := fun k => k = w.heap.size ∨ k = w.heap.size + 1) fun k hk => by rcases hk with rfl | rfl; exact hlt2; exact hlt3); have HX3 := Lib.hid (HX2.out.below hb3); have HI3 := Lib.hid (HI2.out.below hb3); clear hw3 hb3 HC))
  generalize caseS x = S at *
  clear HX2 HI2 HB2 HLB hlt2 hlt3
  have HM1 := Lib.hid (HW3.out.mapAt1 1048576 64 7)
  have HM2 := Lib.hid (fun w4 (h4 : Wm w w4 (fun k => k = w.heap.size ∨ k = w.heap.size + 1) g (mapAtS S 1048576 64 7).2 gm S) => h4.mapAt2 1048576 64 7)
  generalize hbx0 : w.heap.size + 1 = bi at *
  generalize hb0 : w.heap.size = bx at *
  by_cases hm : (mapAtS S 1048576 64 7).1 = 0
  · have hgd : Good (mapAtS S 1048576 64 7).2 := good_mapAt HW3.out.good _ _ _
    by_cases hi : Cod.mayB i = true
    · have hin := inst_laid (c := x.c.to 1048576) hm hgd rfl hi
      obtain ⟨hk1, hk6, hsy⟩ := step_stays (c := x.c.to 1048576) (show (1048576 : Int) ≠ 0 by decide) hin
      have HL1 := Lib.hid (step_ok (ss := (storeS (mapAtS S 1048576 64 7).2 1048576 (Cod.bytesOf i) 0).2) HOK.out).len
      rw [hm] at HM1 HM2
      have HRM := Lib.hid (show ∀ X, Calls Tryd.prog 19 #[.agg #[.int .i64 i.op, .int .i64 i.a, .int .i64 i.b, .int .i64 i.c, .int .i64 i.n]] X fun en w' => en = .returned (.bool true) ∧ Below X.heap.size X w' from fun X => (Cod.rmay_any i X).mono fun _ _ hh => ⟨by rw [hh.1, hi], hh.2⟩)
      have HRB := Lib.hid (show ∀ X, Calls Tryd.prog 20 #[.agg #[.int .i64 i.op, .int .i64 i.a, .int .i64 i.b, .int .i64 i.c, .int .i64 i.n]] X fun e w' => e = .returned (.slice (some ⟨X.heap.size + 1, 0, none⟩) 8 8) ∧ Below X.heap.size X w' ∧ Src w' (fun _ => True) (some ⟨X.heap.size + 1, 0, none⟩) 8 8 (Cod.cells (Cod.bytesOf i)) from fun X => Cod.rbytes_any i X hi)
      clear hin hgd hi hm
      generalize (mapAtS S 1048576 64 7).2 = S1 at *
      have HPP := Lib.hid (fun (w1' w2' : World) (h1 : Wm w w1' (fun k => k = bx ∨ k = bi) g S1 gm S1) (hb : Below w1'.heap.size w1' w2') (hs : Src w2' (fun _ => True) (some ⟨w1'.heap.size + 1, 0, none⟩) 8 8 (Cod.cells (Cod.bytesOf i))) => Wm.pokeset (a := 1048576) (ms := Cod.bytesOf i) h1 hb hs (Nat.le_succ _) (Nat.succ_pos 7) (by unfold I64; omega))
      generalize storeS S1 1048576 (Cod.bytesOf i) 0 = sp at *
      obtain ⟨e1, S2⟩ := sp
      simp only at HPP hk1 hk6 hsy HL1
      generalize Cod.bytesOf i = bs at *
      have HIO := Lib.hid (show ∀ X, Bx X bi #[.int .i64 i.op, .int .i64 i.a, .int .i64 i.b, .int .i64 i.c, .int .i64 i.n] 51 → (X.cell? ⟨bi, 0, none⟩ = some (.int .i64 i.op) ∧ X.cell? ⟨bi, 1, none⟩ = some (.int .i64 i.a) ∧ X.cell? ⟨bi, 2, none⟩ = some (.int .i64 i.b) ∧ X.cell? ⟨bi, 3, none⟩ = some (.int .i64 i.c) ∧ X.cell? ⟨bi, 4, none⟩ = some (.int .i64 i.n)) from fun X hX => ⟨hX.c 0, hX.c 1, hX.c 2, hX.c 3, hX.c 4⟩)
      generalize i.op = op at *
      generalize i.a = ia at *
      generalize i.b = ib at *
      generalize i.c = ic at *
      generalize i.n = n at *
      go_upto_region 5 with (first
        | (go_at_call 17; refine (HM1.out).mono ?_; rintro en w4 ⟨rfl, hw4, hk4⟩; have HM3 := Lib.hid (HM2.out w4 hw4); have HX4 := Lib.hid (HX3.out.kept hk4 (.inl rfl)); have HI4 := Lib.hid (HI3.out.kept hk4 (.inr rfl)); clear hw4 hk4 HM1 HM2)
        | (go_at_call 18; refine (HM3.out).mono ?_; rintro en w5 ⟨rfl, hw5, hk5⟩; have HW5 := Lib.hid hw5; have HX5 := Lib.hid (HX4.out.kept hk5 (.inl rfl)); have HI5 := Lib.hid (HI4.out.kept hk5 (.inr rfl)); obtain ⟨k0, k1, k2, k3, k4⟩ := HIO.out _ HI5.out; clear hw5 hk5 HM3)
        | (go_at_call 19; refine (HRM.out _).mono ?_; rintro en w6 ⟨rfl, hb6⟩; have HW6 := Lib.hid (HW5.out.quiet hb6).1; have HX6 := Lib.hid (HX5.out.below hb6); have HI6 := Lib.hid (HI5.out.below hb6); clear hb6 HRM k0 k1 k2 k3 k4; obtain ⟨k0, k1, k2, k3, k4⟩ := HIO.out _ HI6.out))
      clear HX3 HI3 HX4 HI4 HX5 HI5 HW5 HW3
      go_upto_region 6 with (first
        | (go_at_call 20; refine (HRB.out _).mono ?_; rintro en w7 ⟨rfl, hb7, hs7⟩; have HP := Lib.hid (HPP.out _ _ HW6.out hb7 hs7); have HX7 := Lib.hid (HX6.out.below hb7); have HI7 := Lib.hid (HI6.out.below hb7); clear hb7 hs7 HRB))
      clear k0 k1 k2 k3 k4
      generalize w6.heap.size + 1 = b6 at *
      go_upto_region 8 with (first
        | (go_at_call 21; refine (HP.out).mono ?_; rintro en w8 ⟨rfl, hk8, hset⟩; have HST := Lib.hid hset; have HX8 := Lib.hid (HX6.out.kept hk8 (.inl rfl)); have HI8 := Lib.hid (HI6.out.kept hk8 (.inr rfl)); clear hk8 hset HP)
        | (go_at_call 22; refine (HST.out).mono ?_; rintro en w9 ⟨rfl, hw9, hk9⟩; have HX9 := Lib.hid (HX8.out.kept hk9 (.inl rfl)); have HI9 := Lib.hid (HI8.out.kept hk9 (.inr rfl)); have HW9 := Lib.hid hw9; clear hw9 hk9 HST))
      clear HX6 HI6 HX7 HI7 HX8 HI8 HW6
      have q3 : w9.cell? ⟨bx, 3, none⟩ = some (.int .i64 x.c.pc) := HX9.out.c 3
      have f3 : w9.frozen? ⟨bx, 3, none⟩ = false := HX9.out.f 3
      go_upto_region 9 with (fail)
      have HW10 := Lib.hid (HW9.out.stir (beside_cell w9 bx 3 (.int .i64 1048576)) (fun q hq => ⟨.inl hq, by subst hq; exact Nat.le_of_eq hb0⟩))
      have HX10 := Lib.hid (case_jump HX9.out 1048576)
      have HI10 := Lib.hid (HI9.out.beside (beside_cell w9 bx 3 (.int .i64 1048576)) (by omega))
      change Code.wp _ _ _ _ (w9.setCell ⟨bx, 3, none⟩ (.int .i64 1048576))
      generalize w9.setCell ⟨bx, 3, none⟩ (.int .i64 1048576) = w10 at *
      clear q3 f3 HW9 HX9 HI9
      have HRG := Lib.hid (case_ctx HX10.out)
      have HLC := Lib.hid (show (x.c.to 1048576).rs.length = 16 from HLN.out)
      have HCR := Lib.hid (fun (X : World) (hX : Bx X bx (caseA { x with c := x.c.to 1048576 } A a B e) 28) (k : Nat) (hk : k < 16) => case_reg hX HLN.out k hk)
      have HCT := Lib.hid (fun (X : World) (hX : Bx X bx (caseA { x with c := x.c.to 1048576 } A a B e) 28) => show X.cell? ⟨bx, 4, none⟩ = some (.int .i64 (x.c.to 1048576).tp) from hX.c 4)
      have HST := Lib.hid (HW10.out.step (c := x.c.to 1048576) HOK.out (HS.out.below (hb0 ▸ HW10.out.1)))
      obtain ⟨hd1, hd0⟩ := stays_many hsy
      have htp := hsy.tp
      have hmem := hsy.mem
      clear hsy HOK
      generalize hc0 : x.c.to 1048576 = c0 at *
      generalize hst : stepM S2 c0 = r at *
      obtain ⟨E, C, S3⟩ := r
      simp only at HST HL1 hk1 hk6 hd1 hd0 htp hmem
      go_upto_region 10 with (first
        | ((with_reducible refine load_co (by rfl) ?_ HRG.out HLC.out ?_); (· rfl))
        | (go_at_call 12; refine (HST.out).mono ?_; rintro en w11 ⟨rfl, hw11, hk11⟩; have HW11 := Lib.hid hw11; have HX11 := Lib.hid (HX10.out.kept hk11 (.inl rfl)); have HI11 := Lib.hid (HI10.out.kept hk11 (.inr rfl)); have HCI := Lib.hid (laid_two w11 C E HL1.out).1; have HEI := Lib.hid (laid_two w11 C E HL1.out).2.1; clear hw11 hk11 HST)
        | ((with_reducible refine store_c (c := C) (by rfl) ?_ ?_ HCI.out HL1.out ?_); (· rfl); (· rfl))
        | ((with_reducible refine store_e (e := E) (by rfl) ?_ ?_ HEI.out ?_); (· rfl); (· rfl)))
      obtain ⟨_, _, hc12, he12, hb12⟩ := laid_two w11 C E HL1.out
      change Code.wp _ _ _ _ ((((w11.alloc (.cells z18 26)).alloc (.cells (evA ⟨0, 0, 0, 0, 0⟩) 37)).setRow w11.heap.size (cxA C)).setRow (w11.heap.size + 1) (evA E))
      generalize (((w11.alloc (.cells z18 26)).alloc (.cells (evA ⟨0, 0, 0, 0, 0⟩) 37)).setRow w11.heap.size (cxA C)).setRow (w11.heap.size + 1) (evA E) = w12 at *
      have HW12 := Lib.hid ((HW11.out.quiet hb12).1.less (Q' := fun _ => False) fun _ hk => hk.elim)
      have HX12 := Lib.hid (HX11.out.below hb12)
      have HI12 := Lib.hid (HI11.out.below hb12)
      have HC12 := Lib.hid hc12
      have HE12 := Lib.hid he12
      clear hb12 hc12 he12 HCI HEI HW11 HX11 HI11 HW10 HX10 HI10 HRG
      generalize w11.heap.size + 1 = b10 at *
      generalize w11.heap.size = b9 at *
      have HKE := Lib.hid (show ∀ X, Below w12.heap.size w12 X → ∀ k : Nat, k < 15 → (X.cell? ⟨b9, 2 + k, none⟩ = some (.int .i64 (C.reg (k : Int))) ∧ X.cell? ⟨bx, 5 + k, none⟩ = some (.int .i64 (c0.reg (k : Int)))) from fun X hX k hk => ⟨(HC12.out.below hX).at_ k (by omega), HCR.out X (HX12.out.below hX) k (by omega)⟩)
      go_upto_region 12 with (fail)
      go_loopw [12, 13] (fun t12 t13 wr => ∃ k : Nat, k ≤ 15 ∧ t13 = .int .i64 (k : Int) ∧ t12 = .int .i64 (difs C c0 k : Int) ∧ Below w12.heap.size w12 wr) (fun _ t13 _ => 15 - (intOf t13).toNat)
      case atStart => exact ⟨0, by omega, rfl, rfl, Below.refl _ _⟩
      case round =>
        obtain ⟨k, hk, rfl, rfl, hbr⟩ := hrel
        have HBR := Lib.hid hbr
        by_cases hlt : k < 15
        · obtain ⟨q1, q2⟩ := HKE.out _ hbr k hlt
          have hbd := hbr.trans ((drew_below wr).mono hbr.size)
          obtain ⟨q3, q4⟩ := HKE.out _ hbd k hlt
          have HBD := Lib.hid hbd
          have HD0 := Lib.hid (show C.reg (k : Int) = c0.reg (k : Int) → difs C c0 k = difs C c0 (k + 1) from fun h => by unfold difs; rw [if_pos h]; cases k <;> rfl)
          have HD1 := Lib.hid (show C.reg (k : Int) ≠ c0.reg (k : Int) → difs C c0 k + 1 = difs C c0 (k + 1) ∧ difs C c0 k ≤ k from fun h => ⟨by rw [difs, if_neg h], difs_le C c0 k⟩)
          have p0 : (0 : Int) ≤ (k : Int) := by omega
          have p1 : (k : Int) < 16 := by omega
          generalize C.reg (k : Int) = u1 at *
          generalize c0.reg (k : Int) = u2 at *
          clear hbr hbd
          by_cases he : u1 = u2
          · subst he
            have HN := Lib.hid (HD0.out rfl)
            clear HD0 HD1
            go_wp2_with fail
            go_region
            go_wp2_with fail
            go_roundw
            case rel => exact ⟨k + 1, by omega, by go_num, by rw [HN.out], HBD.out⟩
            case measure => simp [intOf]; omega
          · obtain ⟨hn, hle⟩ := HD1.out he
            have HN := Lib.hid hn
            have hne : (u1 == u2) = false := by simpa using he
            clear HD0 HD1 hn
            go_wp2_with fail
            go_region
            go_wp2_with fail
            go_roundw
            case rel => exact ⟨k + 1, by omega, by go_num, by rw [← HN.out]; go_num, HBD.out⟩
            case measure => simp [intOf]; omega
        · obtain rfl : k = 15 := by omega
          have HW13 := Lib.hid (HW12.out.quiet hbr).1
          have hb13 : Below w.heap.size w wr := HW13.out.1
          have HB13 := Lib.hid hb13
          have HAL := Lib.hid (fun (hm : S3 = S2) => (show Wm w wr (fun _ => False) g S2 gm S2 from hm ▸ HW13.out).alike6)
          have t1 : wr.cell? ⟨b9, 1, none⟩ = some (.int .i64 c0.tp) := htp ▸ (HC12.out.below hbr).tp
          have t2 := HCT.out wr (HX12.out.below hbr)
          have t3 : wr.cell? ⟨b10, 0, none⟩ = some (.int .i64 E.kind) := (HE12.out.below hbr).c 0
          have t4 : wr.cell? ⟨bi, 0, none⟩ = some (.int .i64 op) := (HI12.out.below hbr).c 0
          have g1 : (E.kind == 1) = false := by simpa using hk1
          have g6 : (E.kind == 6) = false := by simpa using hk6
          generalize difs C c0 15 = m at *
          have gm1 : ((m : Int) > 1) = False := by simp; omega
          have gm2 : decide ((1 : Int) < (m : Int)) = false := decide_eq_false (by omega)
          generalize E.kind = ek at *
          clear hbr hb13 HBR HKE HW12 HX12 HI12 HC12 HE12 HCT HCR HW13 hk1 hk6 htp
          by_cases ho : op = 10 ∨ op = 15 ∨ op = 16
          · have hm0 := hd0 ho
            subst hm0
            clear HAL hmem hd0 hd1
            rcases ho with rfl | rfl | rfl
            · go_upto_region 99 with (fail)
              first | go_ret | skip
              exact ⟨rfl, HB13.out⟩
            · go_upto_region 99 with (fail)
              first | go_ret | skip
              exact ⟨rfl, HB13.out⟩
            · go_upto_region 99 with (fail)
              first | go_ret | skip
              exact ⟨rfl, HB13.out⟩
          · have HA2 := Lib.hid (HAL.out (hmem ho))
            have o1 : (op == 10) = false := by simp; omega
            have o2 : (op == 15) = false := by simp; omega
            have o3 : (op == 16) = false := by simp; omega
            clear HAL hmem hd0 ho
            go_upto_region 99 with (first
              | (go_at_call 14; refine (HA2.out).mono ?_; rintro en w14 ⟨rfl, hb14⟩; have HB14 := Lib.hid hb14; clear hb14))
            first | go_ret | skip
            exact ⟨rfl, hb0 ▸ HB14.out⟩
    · have hmf : Cod.mayB i = false := by simpa using hi
      have HRM := Lib.hid (show ∀ X, Calls Tryd.prog 19 #[.agg #[.int .i64 i.op, .int .i64 i.a, .int .i64 i.b, .int .i64 i.c, .int .i64 i.n]] X fun en w' => en = .returned (.bool false) ∧ Below X.heap.size X w' from fun X => (Cod.rmay_any i X).mono fun _ _ hh => ⟨by rw [hh.1, hmf], hh.2⟩)
      rw [hm] at HM1 HM2
      have HIO := Lib.hid (show ∀ X, Bx X bi #[.int .i64 i.op, .int .i64 i.a, .int .i64 i.b, .int .i64 i.c, .int .i64 i.n] 51 → (X.cell? ⟨bi, 0, none⟩ = some (.int .i64 i.op) ∧ X.cell? ⟨bi, 1, none⟩ = some (.int .i64 i.a) ∧ X.cell? ⟨bi, 2, none⟩ = some (.int .i64 i.b) ∧ X.cell? ⟨bi, 3, none⟩ = some (.int .i64 i.c) ∧ X.cell? ⟨bi, 4, none⟩ = some (.int .i64 i.n)) from fun X hX => ⟨hX.c 0, hX.c 1, hX.c 2, hX.c 3, hX.c 4⟩)
      clear hmf hi hgd hm
      generalize (mapAtS S 1048576 64 7).2 = S1 at *
      generalize i.op = op at *
      generalize i.a = ia at *
      generalize i.b = ib at *
      generalize i.c = ic at *
      generalize i.n = n at *
      go_upto_region 99 with (first
        | (go_at_call 17; refine (HM1.out).mono ?_; rintro en w4 ⟨rfl, hw4, hk4⟩; have HM3 := Lib.hid (HM2.out w4 hw4); have HI4 := Lib.hid (HI3.out.kept hk4 (.inr rfl)); clear hw4 hk4 HM1 HM2)
        | (go_at_call 18; refine (HM3.out).mono ?_; rintro en w5 ⟨rfl, hw5, hk5⟩; have HW5 := Lib.hid hw5; obtain ⟨k0, k1, k2, k3, k4⟩ := HIO.out _ (HI4.out.kept hk5 (.inr rfl)); clear hw5 hk5 HM3)
        | (go_at_call 19; refine (HRM.out _).mono ?_; rintro en w6 ⟨rfl, hb6⟩; have HB6 := Lib.hid (HW5.out.quiet hb6).1.1; clear hb6 HRM))
      first | go_ret | skip
      exact ⟨rfl, hb0 ▸ HB6.out⟩
  · have hne : ((mapAtS S 1048576 64 7).1 == 0) = false := by simpa using hm
    have hne2 : ((mapAtS S 1048576 64 7).1 != 0) = true := by simpa using hm
    clear hm HM2
    generalize (mapAtS S 1048576 64 7).1 = e1 at *
    generalize (mapAtS S 1048576 64 7).2 = S1 at *
    go_upto_region 99 with (first
      | (go_at_call 17; refine (HM1.out).mono ?_; rintro en w4 ⟨rfl, hw4, hk4⟩; have HB4 := Lib.hid hw4.1; clear hw4 hk4 HM1))
    first | go_ret | skip
    exact ⟨rfl, hb0 ▸ HB4.out⟩
end Go.Proofs.YtfkhfjefddgkoaaDoor

namespace Go.Proofs.YtfkhfjefddgkoaaDoor
open Go.RowKit

/-- A context and an event are laid into boxes that are there. -/
theorem laid_in {w : World} {b d : Nat} (hc : ctxIn w b) (he : evIn w d) (hbd : b ≠ d) (c2 : Cx) (e2 : Ev) (hl : c2.rs.length = 16) :
    evIn (w.setRow b (cxA c2)) d ∧ Cb ((w.setRow b (cxA c2)).setRow d (evA e2)) b c2 ∧ Bx ((w.setRow b (cxA c2)).setRow d (evA e2)) d (evA e2) 37 ∧ Beside w ((w.setRow b (cxA c2)).setRow d (evA e2)) (fun k => k = b ∨ k = d) := by
  have b1 := row_beside w b (cxA c2)
  have c1 := hc.row c2 hl
  obtain ⟨e0, he⟩ := he
  have e1 : Bx (w.setRow b (cxA c2)) d (evA e0) 37 := he.beside b1 fun z => hbd z.symm
  generalize w.setRow b (cxA c2) = w1 at *
  have b2 := row_beside w1 d (evA e2)
  refine ⟨⟨_, e1⟩, c1.beside b2 hbd, setRow_heap w1 d _ _ 37 (0, 0) e1, b2.os.trans b1.os, b2.tape.trans b1.tape, b2.output.trans b1.output, Nat.le_trans b1.size b2.size, fun k hk hp => ?_⟩
  exact (b2.block k (Nat.lt_of_lt_of_le hk b1.size) fun z => hp (.inr z)).trans (b1.block k hk fun z => hp (.inl z))
theorem laid_below {w0 w w' : World} {b d : Nat} (h : Below w0.heap.size w0 w) (hb : Beside w w' (fun k => k = b ∨ k = d)) (h1 : w0.heap.size ≤ b) (h2 : w0.heap.size ≤ d) : Below w0.heap.size w0 w' :=
  ⟨hb.os.trans h.os, hb.tape.trans h.tape, hb.output.trans h.output, Nat.le_trans h.size hb.size, fun k hk => (hb.block k (Nat.lt_of_lt_of_le hk h.size) (by omega)).trans (h.block k hk)⟩
set_option maxRecDepth 100000 in
set_option maxHeartbeats 1000000 in
theorem trapped_any (c : Cx) (hl : c.rs.length = 16) (e : Int) (w : World) :
    Calls Tryd.prog 28 #[cxV c, .int .i64 e] w fun en w' => en = .returned (.tuple #[cxV c, .agg (evA (trapE e))]) ∧ Below w.heap.size w w' := by
  go_enter Tryd.func28, Tryd.ntmps28
  go_upto_region 1 with (fail)
  obtain ⟨h0, h1, h2, hb⟩ := al_three w (cxA c) z18 (evA ⟨0, 0, 0, 0, 0⟩) 26 26 37
  change Code.wp _ _ _ _ (al (al (al w (cxA c) 26) z18 26) (evA ⟨0, 0, 0, 0, 0⟩) 37)
  generalize al (al (al w (cxA c) 26) z18 26) (evA ⟨0, 0, 0, 0, 0⟩) 37 = w1 at *
  have HLC := Lib.hid (show Cb w1 w.heap.size c from ⟨h0, hl⟩).lc
  have HLN := Lib.hid hl
  have hci : ctxIn w1 (w.heap.size + 1) := ⟨_, h1, rfl⟩
  have hei : evIn w1 (w.heap.size + 1 + 1) := ⟨_, h2⟩
  obtain ⟨he2, hc3, he3, hb3⟩ := laid_in hci hei (by omega) c (trapE e) hl
  have HB := Lib.hid (laid_below hb hb3 (by omega) (by omega))
  have HCI := Lib.hid hci
  have HEI := Lib.hid he2
  have K1 := Lib.hid hc3
  have K2 := Lib.hid he3
  clear h0 h1 h2 hb hci hei he2 hc3 he3 hb3
  go_upto_region 99 with (first
    | ((with_reducible refine load_c (by rfl) ?_ HLC.out ?_); (· rfl))
    | ((with_reducible refine store_c (c := c) (by rfl) ?_ ?_ HCI.out HLN.out ?_); (· rfl); (· rfl))
    | ((with_reducible refine store_e (e := trapE e) (by rfl) ?_ ?_ HEI.out ?_); (· rfl); (· rfl)))
  refine bodyPost_ret (v := .tuple #[cxV c, .agg (evA (trapE e))]) (back_ce rfl (by rfl) (by rfl) K1.out K2.out) rfl ?_
  exact ⟨rfl, HB.out⟩
theorem reck_any (op x y : Int) (ho : op = 3 ∨ op = 4 ∨ op = 5 ∨ op = 6 ∨ op = 7 ∨ op = 8) (w : World) :
    Calls Tryd.prog 33 #[.int .i64 op, .int .i64 x, .int .i64 y] w fun en w' => en = .returned (.tuple #[.int .i64 (calcM op x y).1, .bool (decide ((calcM op x y).2 = 0))]) ∧ w = w' := by
  rcases ho with rfl | rfl | rfl | rfl | rfl | rfl
  · go_enter Tryd.func33, Tryd.ntmps33
    go_wp2_with fail
    go_ret2
    exact ⟨rfl, rfl⟩
  · go_enter Tryd.func33, Tryd.ntmps33
    go_wp2_with fail
    go_ret2
    exact ⟨rfl, rfl⟩
  · go_enter Tryd.func33, Tryd.ntmps33
    go_wp2_with fail
    go_ret2
    exact ⟨rfl, rfl⟩
  · by_cases hy : y = 0
    · subst hy
      go_enter Tryd.func33, Tryd.ntmps33
      go_wp2_with fail
      go_ret2
      exact ⟨rfl, rfl⟩
    · have HC := Lib.hid (show calcM 6 x y = (w64 (x.tdiv y), 0) by simp [calcM, hy])
      go_enter Tryd.func33, Tryd.ntmps33
      go_wp2_with fail
      go_ret2
      rw [HC.out]
      exact ⟨rfl, rfl⟩
  · by_cases hxy : x < y
    · have HC := Lib.hid (show calcM 7 x y = (1, 0) by simp [calcM, hxy])
      have hd : decide (x < y) = true := decide_eq_true hxy
      go_enter Tryd.func33, Tryd.ntmps33
      go_wp2_with fail
      go_ret2
      rw [HC.out]
      exact ⟨rfl, rfl⟩
    · have HC := Lib.hid (show calcM 7 x y = (0, 0) by simp [calcM, hxy])
      have hd : decide (x < y) = false := decide_eq_false hxy
      go_enter Tryd.func33, Tryd.ntmps33
      go_wp2_with fail
      go_ret2
      rw [HC.out]
      exact ⟨rfl, rfl⟩
  · by_cases hxy : x = y
    · have HC := Lib.hid (show calcM 8 x y = (1, 0) by simp [calcM, hxy])
      have hd : (x == y) = true := by simpa using hxy
      go_enter Tryd.func33, Tryd.ntmps33
      go_wp2_with fail
      go_ret2
      rw [HC.out]
      exact ⟨rfl, rfl⟩
    · have HC := Lib.hid (show calcM 8 x y = (0, 0) by simp [calcM, hxy])
      have hd : (x == y) = false := by simpa using hxy
      go_enter Tryd.func33, Tryd.ntmps33
      go_wp2_with fail
      go_ret2
      rw [HC.out]
      exact ⟨rfl, rfl⟩
end Go.Proofs.YtfkhfjefddgkoaaDoor
