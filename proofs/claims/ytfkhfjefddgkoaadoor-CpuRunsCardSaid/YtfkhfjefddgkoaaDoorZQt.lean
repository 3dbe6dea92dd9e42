/-
  CpuTraps, walked.
-/
import Derived.Test.YtfkhfjefddgkoaaDoorZQ
namespace Go.Proofs.YtfkhfjefddgkoaaDoor
open Go.RowKit

theorem store_bad {ss : List Seg} {a : Int} {ms : Str} {need : Int} (h : (storeS ss a ms need).1 ≠ 0) : (storeS ss a ms need).2 = ss := by
  unfold storeS at h ⊢
  split
  · rename_i hg; rw [if_pos hg] at h; exact absurd rfl h
  · rfl
theorem jump_bad {ss : List Seg} {c : Cx} {i : Ins} (h : (jumpM ss c i).1 ≠ 0) : (jumpM ss c i).2.2 = ss := by
  unfold jumpM at h ⊢
  split
  · rfl
  split
  · rfl
  split
  · rfl
  rename_i h1 h2 h3
  rw [if_neg h1, if_neg h2, if_neg h3] at h
  split
  · rename_i h4
    rw [if_pos h4] at h
    exact store_bad h
  rename_i h4
  rw [if_neg h4] at h
  split
  · rename_i h5
    rw [if_pos h5] at h
    exact store_bad h
  · rfl
theorem exec_bad {ss : List Seg} {c : Cx} {i : Ins} (h : (execM ss c i).2.1 ≠ 0) : (execM ss c i).2.2.2 = ss := by
  unfold execM at h ⊢
  split
  · rfl
  split
  · rfl
  split
  · rfl
  rename_i h1 h2 h3
  rw [if_neg h1, if_neg h2, if_neg h3] at h
  split
  · rename_i h4
    rw [if_pos h4] at h
    exact store_bad h
  rename_i h4
  rw [if_neg h4] at h
  split
  · rename_i h5
    rw [if_pos h5] at h
    exact jump_bad h
  · rfl
theorem exec_kind (ss : List Seg) (c : Cx) (i : Ins) : (execM ss c i).1.kind ≠ 5 ∧ (execM ss c i).1.kind ≠ 1 ∧ (execM ss c i).1.kind ≠ 6 ∧ (execM ss c i).1.fault = 0 := by
  unfold execM
  repeat' split
  all_goals exact ⟨(by intro h; cases h), (by intro h; cases h), (by intro h; cases h), rfl⟩
/-- What is trapped has changed nothing; what is not bears no fault. -/
theorem step_trap {ss : List Seg} {c : Cx} (h : (stepM ss c).1.kind = 5) : ∃ e, e ≠ 0 ∧ stepM ss c = (trapE e, c, ss) := by
  unfold stepM at h ⊢
  split
  · rename_i h1; rw [if_pos h1] at h; cases h
  · rename_i h1
    rw [if_neg h1] at h
    split
    · rename_i e he
      exact ⟨e, instM_none he, rfl⟩
    · rename_i e i he
      rw [he] at h
      simp only at h
      split
      · rename_i h2; rw [if_pos h2] at h; exact absurd h (exec_kind _ _ _).1
      · rename_i h2
        exact ⟨_, h2, by rw [exec_bad h2]⟩
theorem step_fine {ss : List Seg} {c : Cx} (h : (stepM ss c).1.kind ≠ 5) : (stepM ss c).1.fault = 0 := by
  unfold stepM at h ⊢
  split
  · rfl
  · rename_i h1
    rw [if_neg h1] at h
    split
    · rename_i e he
      rw [he] at h
      exact absurd rfl h
    · rename_i e i he
      rw [he] at h
      simp only at h
      split
      · exact (exec_kind _ _ _).2.2.2
      · rename_i h2; rw [if_neg h2] at h; exact absurd rfl h
set_option maxRecDepth 100000 in
set_option maxHeartbeats 8000000 in
theorem traps_any (x : Cs) (A : Option Addr) (a : Nat) (B : Option Addr) (e : Nat) (w : World) (h : CsV w (fun k => k < w.heap.size) x A a B e) (hs : Cod.Shps w) :
    Calls Tryd.prog 6 #[caseV x A a B e] w fun en w' => en = .returned (.bool true) ∧ Below w.heap.size w w' := by
  have HS := Lib.hid hs
  have HLN := Lib.hid h.ok.len
  have HOK := Lib.hid h.ok
  have HLB := Lib.hid (fun (w2 : World) (hb : Below w.heap.size w w2) => law_both h hs hb)
  clear h hs
  go_enter Tryd.func6, Tryd.ntmps6
  go_upto_region 1 with (fail)
  have hb1 : Below w.heap.size w (w.alloc (.cells (caseA x A a B e) 28)) := (Below.refl _ _).alloc (Nat.le_refl _) _
  have hx1 := Bx.new w (caseA x A a B e) 28
  change Code.wp _ _ _ _ (w.alloc (.cells (caseA x A a B e) 28))
  generalize w.alloc (.cells (caseA x A a B e) 28) = w1 at *
  have HA := Lib.hid (awake6_any w1 (HS.out.below hb1))
  have HX1 := Lib.hid hx1
  have HB1 := Lib.hid hb1
  clear hx1 hb1
  go_upto_region 2 with (fail)
  refine HA.out.mono ?_
  rintro en w2 ⟨rfl, hb2⟩
  have HX2 := Lib.hid (HX1.out.below hb2)
  have HB2 := Lib.hid (HB1.out.trans (hb2.mono HB1.out.size))
  have hlt2 : w.heap.size < w2.heap.size := HX2.out.lt
  clear hb2 HA HX1 HB1
  have HC := Lib.hid (HLB.out w2 HB2.out)
  go_upto_region 5 with (first
    | ((with_reducible refine load_case (by rfl) ?_ HX2.out HLN.out ?_); (· rfl))
    | (go_at_call 11; refine (HC.out).mono ?_; rintro en w3 ⟨g, gm, rfl, hw3, hb3⟩; have HW3 := Lib.hid (hw3.less (Q' := fun k => k = w.heap.size) fun k hk => by subst hk; exact hlt2); have HX3 := Lib.hid (HX2.out.below hb3); clear hw3 hb3 HC))
  generalize caseS x = S at *
  clear HX2 hlt2
  have HRG := Lib.hid (case_ctx HX3.out)
  generalize hbx : w.heap.size = bx at *
  have HST := Lib.hid (HW3.out.step (c := x.c) HOK.out (HS.out.below HW3.out.1))
  have HL1 := Lib.hid (step_ok (ss := S) HOK.out).len
  have HT := Lib.hid (step_trap (ss := S) (c := x.c))
  have HF := Lib.hid (step_fine (ss := S) (c := x.c))
  generalize hst : stepM S x.c = r at *
  obtain ⟨E, C, S1⟩ := r
  simp only at HST HL1 HT HF
  go_upto_region 6 with (first
    | ((with_reducible refine load_co (by rfl) ?_ HRG.out HLN.out ?_); (· rfl))
    | (go_at_call 12; refine (HST.out).mono ?_; rintro en w5 ⟨rfl, hw5, hk5⟩; have HW5 := Lib.hid hw5; have HX5 := Lib.hid (HX3.out.kept hk5 rfl); have HCI := Lib.hid (laid_two w5 C E HL1.out).1; have HEI := Lib.hid (laid_two w5 C E HL1.out).2.1; clear hw5 hk5 HST)
    | ((with_reducible refine store_c (c := C) (by rfl) ?_ ?_ HCI.out HL1.out ?_); (· rfl); (· rfl))
    | ((with_reducible refine store_e (e := E) (by rfl) ?_ ?_ HEI.out ?_); (· rfl); (· rfl)))
  obtain ⟨_, _, hc6, he6, hb6⟩ := laid_two w5 C E HL1.out
  change Code.wp _ _ _ _ ((((w5.alloc (.cells z18 26)).alloc (.cells (evA ⟨0, 0, 0, 0, 0⟩) 37)).setRow w5.heap.size (cxA C)).setRow (w5.heap.size + 1) (evA E))
  generalize (((w5.alloc (.cells z18 26)).alloc (.cells (evA ⟨0, 0, 0, 0, 0⟩) 37)).setRow w5.heap.size (cxA C)).setRow (w5.heap.size + 1) (evA E) = w6 at *
  have HW6 := Lib.hid (HW5.out.more2 hb6 (b := w5.heap.size) (d := w5.heap.size + 1) (Nat.le_refl _) hc6.lt (Nat.le_succ _) he6.lt).1
  have HX6 := Lib.hid (HX5.out.below hb6)
  have HC6 := Lib.hid hc6
  have HE6 := Lib.hid he6
  clear hb6 hc6 he6 HCI HEI HW5 HX5 HW3 HX3 HRG
  generalize w5.heap.size + 1 = b10 at *
  generalize w5.heap.size = b9 at *
  have y0 : w6.cell? ⟨b10, 0, none⟩ = some (.int .i64 E.kind) := HE6.out.c 0
  have y4 : w6.cell? ⟨b10, 4, none⟩ = some (.int .i64 E.fault) := HE6.out.c 4
  by_cases hk : E.kind = 5
  · obtain ⟨er, her, hr⟩ := HT.out hk
    injection hr with hr1 hr2
    injection hr2 with hr2 hr3
    subst hr1 hr2 hr3
    clear HF HT
    have HRG6 := Lib.hid (case_ctx HX6.out)
    have HST := Lib.hid (HW6.out.step (c := x.c) HOK.out (HS.out.below (hbx ▸ HW6.out.1)))
    rw [hst] at HST
    go_upto_region 9 with (first
      | ((with_reducible refine load_c (by rfl) ?_ HC6.out.lc ?_); (· rfl))
      | (go_at_call 12; refine (HST.out).mono ?_; rintro en w7 ⟨rfl, hw7, hk7⟩; have HW7 := Lib.hid hw7; have HX7 := Lib.hid (HX6.out.kept hk7 (.inl (.inl rfl))); have HC7 := Lib.hid (HC6.out.keep (hk7 b9 (.inl (.inr rfl)))); have HE7 := Lib.hid (HE6.out.kept hk7 (.inr rfl)); have HCI := Lib.hid (laid_two w7 x.c (trapE er) HLN.out).1; have HEI := Lib.hid (laid_two w7 x.c (trapE er) HLN.out).2.1; clear hw7 hk7 HST)
      | ((with_reducible refine store_c (c := x.c) (by rfl) ?_ ?_ HCI.out HLN.out ?_); (· rfl); (· rfl))
      | ((with_reducible refine store_e (e := trapE er) (by rfl) ?_ ?_ HEI.out ?_); (· rfl); (· rfl)))
    obtain ⟨_, _, hc8, he8, hb8⟩ := laid_two w7 x.c (trapE er) HLN.out
    change Code.wp _ _ _ _ ((((w7.alloc (.cells z18 26)).alloc (.cells (evA ⟨0, 0, 0, 0, 0⟩) 37)).setRow w7.heap.size (cxA x.c)).setRow (w7.heap.size + 1) (evA (trapE er)))
    generalize (((w7.alloc (.cells z18 26)).alloc (.cells (evA ⟨0, 0, 0, 0, 0⟩) 37)).setRow w7.heap.size (cxA x.c)).setRow (w7.heap.size + 1) (evA (trapE er)) = w8 at *
    have HAL := Lib.hid ((HW7.out.quiet hb8).1).alike6
    have HRG8 := Lib.hid (case_ctx (HX7.out.below hb8))
    have HC8 := Lib.hid (HC7.out.below hb8).lc
    have HE8 := Lib.hid (HE7.out.below hb8)
    have HC8' := Lib.hid hc8.lc
    have HE8' := Lib.hid he8
    have z4 : w8.cell? ⟨b10, 4, none⟩ = some (.int .i64 er) := HE8.out.c 4
    have hceq := ceq_self x.c HLN.out
    have hne : (er != 0) = true := by simpa using her
    clear hb8 hc8 he8 HCI HEI HW7 HX7 HC7 HE7 HW6 HX6 HC6 HE6 HRG6 y0 y4
    generalize w7.heap.size + 1 = b12 at *
    generalize w7.heap.size = b11 at *
    go_upto_region 99 with (first
      | ((with_reducible refine load_co (by rfl) ?_ HRG8.out HLN.out ?_); (· rfl))
      | ((with_reducible refine load_c (by rfl) ?_ HC8.out ?_); (· rfl))
      | ((with_reducible refine load_c (by rfl) ?_ HC8'.out ?_); (· rfl); refine ‹∀ (a : Act) (w : World), wpList Tryd.prog _ _ _ a w → _› _ _ ?_; refine BigFrame.wpList_want (by kernel_rfl) ?_; intro K hK; (with_reducible refine load_c (by rfl) ?_ HC8.out ?_); (· rfl))
      | ((with_reducible refine load_e (by rfl) ?_ HE8.out ?_); (· rfl))
      | ((with_reducible refine load_e (by rfl) ?_ HE8'.out ?_); (· rfl); refine ‹∀ (a : Act) (w : World), wpList Tryd.prog _ _ _ a w → _› _ _ ?_; refine BigFrame.wpList_want (by kernel_rfl) ?_; intro K hK; (with_reducible refine load_e (by rfl) ?_ HE8.out ?_); (· rfl))
      | (go_at_call 14; refine (HAL.out).mono ?_; rintro en w10 ⟨rfl, hb10⟩; have HB10 := Lib.hid hb10; clear hb10))
    first | go_ret | skip
    exact ⟨rfl, hbx ▸ HB10.out⟩
  · have hf := HF.out hk
    have HB6 := Lib.hid HW6.out.1
    clear HF HT HW6 HX6 HE6 HC6 hst
    go_upto_region 99 with (fail)
    first | go_ret | skip
    exact ⟨rfl, hbx ▸ HB6.out⟩
end Go.Proofs.YtfkhfjefddgkoaaDoor
