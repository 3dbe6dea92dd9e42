/-
  CpuRuns, walked.
-/
import Derived.Test.YtfkhfjefddgkoaaDoorZQp
import Derived.Test.YtfkhfjefddgkoaaDoorZRi
namespace Go.Proofs.YtfkhfjefddgkoaaDoor
open Go.RowKit

theorem Wm.rrun {w0 w : World} {Q : Nat → Prop} {g gm : Nat} {ss sm : List Seg} {c : Cx} {most : Int} (h : Wm w0 w Q g ss gm sm) (hok : Okc c) (hm : I64 most) :
    Calls Tryd.prog 16 #[cxV c, .pointer (some ⟨gm, 0, none⟩), .int .i64 most] w fun en w' => en = .returned (.tuple #[cxV (runM most.toNat 0 sm c).2.2.1, .agg (evA (runM most.toNat 0 sm c).1), .int .i64 (runM most.toNat 0 sm c).2.1]) ∧ Wm w0 w' Q g ss gm (runM most.toNat 0 sm c).2.2.2 ∧ Kept Q w w' := by
  obtain ⟨hb, F, F', h1, h2, h3, h4⟩ := h
  exact (rRun_any most h2 hok hm).mono fun e w' hw => ⟨hw.1, Wm.wentM hb h1 h2 h3 h4 hw.2⟩
theorem Wm.rstep {w0 w : World} {Q : Nat → Prop} {g gm : Nat} {ss sm : List Seg} {c : Cx} (h : Wm w0 w Q g ss gm sm) (hok : Okc c) :
    Calls Tryd.prog 13 #[cxV c, .pointer (some ⟨gm, 0, none⟩)] w fun en w' => en = .returned (.tuple #[cxV (stepM sm c).2.1, .agg (evA (stepM sm c).1)]) ∧ Wm w0 w' Q g ss gm (stepM sm c).2.2 ∧ Kept Q w w' := by
  obtain ⟨hb, F, F', h1, h2, h3, h4⟩ := h
  exact (rStep_any h2 hok).mono fun e w' hw => ⟨hw.1, Wm.wentM hb h1 h2 h3 h4 hw.2⟩
set_option maxRecDepth 100000 in
set_option maxHeartbeats 8000000 in
theorem runs_any (x : Cs) (A : Option Addr) (a : Nat) (B : Option Addr) (e : Nat) (w : World) (h : CsV w (fun k => k < w.heap.size) x A a B e) (most : Int) (hm : I64 most) (hs : Cod.Shps w) :
    Calls Tryd.prog 4 #[caseV x A a B e, .int .i64 most] w fun en w' => en = .returned (.bool true) ∧ Below w.heap.size w w' := by
  have HS := Lib.hid hs
  have HMO := Lib.hid hm
  have HLN := Lib.hid h.ok.len
  have HOK := Lib.hid h.ok
  have HLB := Lib.hid (fun (w2 : World) (hb : Below w.heap.size w w2) => law_both h hs hb)
  clear h hs hm
  go_enter Tryd.func4, Tryd.ntmps4
  go_upto_region 1 with (fail)
  have hb1 : Below w.heap.size w (w.alloc (.cells (caseA x A a B e) 28)) := (Below.refl _ _).alloc (Nat.le_refl _) _
  have hx1 := Bx.new w (caseA x A a B e) 28
  change Code.wp _ _ _ _ (w.alloc (.cells (caseA x A a B e) 28))
  generalize w.alloc (.cells (caseA x A a B e) 28) = w1 at *
  have HA := Lib.hid (awake6_any w1 (HS.out.below hb1))
  have HX1 := Lib.hid hx1
  have HB1 := Lib.hid hb1
  clear hx1 hb1
  go_upto_region 2 with (fail)
  refine HA.out.mono ?_
  rintro en w2 ⟨rfl, hb2⟩
  have HX2 := Lib.hid (HX1.out.below hb2)
  have HB2 := Lib.hid (HB1.out.trans (hb2.mono HB1.out.size))
  have hlt2 : w.heap.size < w2.heap.size := HX2.out.lt
  clear hb2 HA HX1 HB1
  by_cases h300 : 300 < most
  · have hd : decide ((300 : Int) < most) = true := decide_eq_true h300
    go_upto_region 99 with (fail)
    first | go_ret | skip
    exact ⟨rfl, HB2.out⟩
  have hd : decide ((300 : Int) < most) = false := decide_eq_false h300
  have HC := Lib.hid (HLB.out w2 HB2.out)
  clear h300
  go_upto_region 7 with (first
    | ((with_reducible refine load_case (by rfl) ?_ HX2.out HLN.out ?_); (· rfl))
    | (go_at_call 11; refine (HC.out).mono ?_; rintro en w3 ⟨g, gm, rfl, hw3, hb3⟩; have HW3 := Lib.hid (hw3.less (Q' := fun k => k = w.heap.size) fun k hk => by subst hk; exact hlt2); have HX3 := Lib.hid (HX2.out.below hb3); clear hw3 hb3 HC))
  generalize caseS x = S at *
  clear HX2 hlt2 HB2 HLB hd
  generalize hbx : w.heap.size = bx at *
  have HRG := Lib.hid (case_ctx HX3.out)
  have HRU := Lib.hid (HW3.out.run (c := x.c) (most := most) HOK.out HS.out HMO.out)
  have HRD := Lib.hid (fun (wz : World) (Q : Nat → Prop) (S1 : List Seg) (hz : Wm w wz Q g S1 gm S) => hz.rrun (c := x.c) (most := most) HOK.out HMO.out)
  have HL1 := Lib.hid (run_ok most.toNat 0 S x.c HOK.out).len
  generalize runM most.toNat 0 S x.c = r1 at *
  obtain ⟨E, k1, C, S1⟩ := r1
  simp only at HRU HL1 HRD
  go_upto_region 8 with (first
    | ((with_reducible refine load_co (by rfl) ?_ HRG.out HLN.out ?_); (· rfl))
    | (go_at_call 15; refine (HRU.out).mono ?_; rintro en w5 ⟨rfl, hw5, hk5⟩; have HW5 := Lib.hid hw5; have HX5 := Lib.hid (HX3.out.kept hk5 rfl); have HCI := Lib.hid (laid_two w5 C E HL1.out).1; have HEI := Lib.hid (laid_two w5 C E HL1.out).2.1; clear hw5 hk5 HRU)
    | ((with_reducible refine store_c (c := C) (by rfl) ?_ ?_ HCI.out HL1.out ?_); (· rfl); (· rfl))
    | ((with_reducible refine store_e (e := E) (by rfl) ?_ ?_ HEI.out ?_); (· rfl); (· rfl)))
  obtain ⟨_, _, hc6, he6, hb6⟩ := laid_two w5 C E HL1.out
  change Code.wp _ _ _ _ ((((w5.alloc (.cells z18 26)).alloc (.cells (evA ⟨0, 0, 0, 0, 0⟩) 37)).setRow w5.heap.size (cxA C)).setRow (w5.heap.size + 1) (evA E))
  generalize (((w5.alloc (.cells z18 26)).alloc (.cells (evA ⟨0, 0, 0, 0, 0⟩) 37)).setRow w5.heap.size (cxA C)).setRow (w5.heap.size + 1) (evA E) = w6 at *
  have HW6 := Lib.hid (HW5.out.more2 hb6 (b := w5.heap.size) (d := w5.heap.size + 1) (Nat.le_refl _) hc6.lt (Nat.le_succ _) he6.lt).1
  have HX6 := Lib.hid (HX5.out.below hb6)
  have HC6 := Lib.hid hc6
  have HE6 := Lib.hid he6
  clear hb6 hc6 he6 HCI HEI HW5 HX5 HW3 HX3 HRG
  generalize w5.heap.size + 1 = b10 at *
  generalize w5.heap.size = b9 at *
  have HRG := Lib.hid (case_ctx HX6.out)
  have HRV := Lib.hid (HRD.out w6 _ _ HW6.out)
  clear HRD
  go_upto_region 9 with (first
    | ((with_reducible refine load_co (by rfl) ?_ HRG.out HLN.out ?_); (· rfl))
    | (go_at_call 16; refine (HRV.out).mono ?_; rintro en w7 ⟨rfl, hw7, hk7⟩; have HW7 := Lib.hid hw7; have HC7 := Lib.hid (HC6.out.keep (hk7 b9 (.inl (.inr rfl)))); have HE7 := Lib.hid (HE6.out.kept hk7 (.inr rfl)); have HCI := Lib.hid (laid_two w7 C E HL1.out).1; have HEI := Lib.hid (laid_two w7 C E HL1.out).2.1; clear hw7 hk7 HRV)
    | ((with_reducible refine store_c (c := C) (by rfl) ?_ ?_ HCI.out HL1.out ?_); (· rfl); (· rfl))
    | ((with_reducible refine store_e (e := E) (by rfl) ?_ ?_ HEI.out ?_); (· rfl); (· rfl)))
  obtain ⟨_, _, hc8, he8, hb8⟩ := laid_two w7 C E HL1.out
  change Code.wp _ _ _ _ ((((w7.alloc (.cells z18 26)).alloc (.cells (evA ⟨0, 0, 0, 0, 0⟩) 37)).setRow w7.heap.size (cxA C)).setRow (w7.heap.size + 1) (evA E))
  generalize (((w7.alloc (.cells z18 26)).alloc (.cells (evA ⟨0, 0, 0, 0, 0⟩) 37)).setRow w7.heap.size (cxA C)).setRow (w7.heap.size + 1) (evA E) = w8 at *
  have HAL := Lib.hid ((HW7.out.quiet hb8).1).alike6
  have HC8 := Lib.hid (HC7.out.below hb8).lc
  have HE8 := Lib.hid (HE7.out.below hb8)
  have HC8' := Lib.hid hc8.lc
  have HE8' := Lib.hid he8
  have hceq := ceq_self C HL1.out
  clear hb8 hc8 he8 HCI HEI HW7 HC7 HE7 HW6 HX6 HC6 HE6 HRG
  generalize w7.heap.size + 1 = b12 at *
  generalize w7.heap.size = b11 at *
  go_upto_region 99 with (first
    | ((with_reducible refine load_c (by rfl) ?_ HC8.out ?_); (· rfl))
    | ((with_reducible refine load_c (by rfl) ?_ HC8'.out ?_); (· rfl))
    | ((with_reducible refine load_e (by rfl) ?_ HE8.out ?_); (· rfl); refine ‹∀ (a : Act) (w : World), wpList Tryd.prog _ _ _ a w → _› _ _ ?_; refine BigFrame.wpList_want (by kernel_rfl) ?_; intro K hK; (with_reducible refine load_e (by rfl) ?_ HE8'.out ?_); (· rfl))
    | (go_at_call 14; refine (HAL.out).mono ?_; rintro en w10 ⟨rfl, hb10⟩; have HB10 := Lib.hid hb10; clear hb10))
  first | go_ret | skip
  exact ⟨rfl, hbx ▸ HB10.out⟩
end Go.Proofs.YtfkhfjefddgkoaaDoor
