/-
  CpuParts, walked.
-/
import Derived.Test.YtfkhfjefddgkoaaDoorZQt
namespace Go.Proofs.YtfkhfjefddgkoaaDoor
open Go.RowKit

theorem step_kind (ss : List Seg) (c : Cx) : (stepM ss c).1.kind ≠ 6 := by
  unfold stepM
  split
  · intro h; cases h
  · split
    · intro h; cases h
    · split
      · exact (exec_kind _ _ _).2.2.1
      · intro h; cases h
theorem run_shift : ∀ (k : Nat) (n : Int) (ss : List Seg) (c : Cx), runM k n ss c = ((runM k 0 ss c).1, n + (runM k 0 ss c).2.1, (runM k 0 ss c).2.2)
  | 0, n, ss, c => by simp [runM]
  | k + 1, n, ss, c => by
    unfold runM
    split
    · rw [run_shift k (n + 1), run_shift k (0 + 1)]
      simp only [Prod.mk.injEq, true_and]
      refine ⟨by omega, trivial⟩
    · split
      · simp
      · simp
theorem run_count : ∀ (k : Nat) (ss : List Seg) (c : Cx), 0 ≤ (runM k 0 ss c).2.1 ∧ (runM k 0 ss c).2.1 ≤ k
  | 0, ss, c => by simp [runM]
  | k + 1, ss, c => by
    unfold runM
    split
    · rw [run_shift k (0 + 1)]
      have := run_count k (stepM ss c).2.2 (stepM ss c).2.1
      simp only
      omega
    · split
      · simp; omega
      · simp; omega
theorem runM_succ (k : Nat) (n : Int) (ss : List Seg) (c : Cx) : runM (k + 1) n ss c = if (stepM ss c).1.kind = 0 then runM k (n + 1) (stepM ss c).2.2 (stepM ss c).2.1
    else if (stepM ss c).1.kind = 1 ∨ (stepM ss c).1.kind = 5 then ((stepM ss c).1, n, (stepM ss c).2.1, (stepM ss c).2.2)
    else ((stepM ss c).1, n + 1, (stepM ss c).2.1, (stepM ss c).2.2) := rfl
/-- A run whose steps are spent, and what follows it. -/
theorem run_add (q : Nat) : ∀ (p : Nat) (ss : List Seg) (c : Cx), (runM p 0 ss c).1.kind = 6 → (runM p 0 ss c).2.1 = p ∧
    runM (p + q) 0 ss c = ((runM q 0 (runM p 0 ss c).2.2.2 (runM p 0 ss c).2.2.1).1, p + (runM q 0 (runM p 0 ss c).2.2.2 (runM p 0 ss c).2.2.1).2.1, (runM q 0 (runM p 0 ss c).2.2.2 (runM p 0 ss c).2.2.1).2.2)
  | 0, ss, c, _ => by simp [runM]
  | p + 1, ss, c, h => by
    rw [show p + 1 + q = (p + q) + 1 by omega]
    rw [runM_succ p] at h
    rw [runM_succ (p + q), runM_succ p]
    by_cases h0 : (stepM ss c).1.kind = 0
    · rw [if_pos h0] at h
      rw [if_pos h0, if_pos h0]
      rw [run_shift p (0 + 1)] at h ⊢
      rw [run_shift (p + q) (0 + 1)]
      obtain ⟨e1, e2⟩ := run_add q p _ _ h
      rw [e2]
      refine ⟨by simp only [e1]; omega, ?_⟩
      simp only [Prod.mk.injEq, true_and, and_true]
      omega
    · rw [if_neg h0] at h
      split at h
      · rename_i h1
        rcases h1 with h1 | h1 <;> simp only [h1] at h <;> cases h
      · exact absurd h (step_kind _ _)
theorem Wm.moreR {w0 w w' : World} {Q : Nat → Prop} {g gm : Nat} {ss sm : List Seg} (h : Wm w0 w Q g ss gm sm) (hb' : Below w.heap.size w w') : Wm w0 w' (fun k => Q k ∨ (w.heap.size ≤ k ∧ k < w'.heap.size)) g ss gm sm := by
  obtain ⟨hb, F, F', p1, p2, p3, p4⟩ := h
  refine ⟨hb.trans (hb'.mono hb.size), F, F', p1.below hb', p2.below hb', p3, fun k hk => ?_⟩
  rcases hk with hk | hk
  · exact ⟨Nat.lt_of_lt_of_le (p4 k hk).1 hb'.size, (p4 k hk).2⟩
  · refine ⟨hk.2, fun hf => ?_, fun hf => ?_⟩
    · have := (p1.lt hf).2
      omega
    · have := (p2.lt hf).2
      omega
theorem Wm.run2 {w0 w : World} {Q : Nat → Prop} {g gm : Nat} {ss sm : List Seg} {c : Cx} {most : Int} (h : Wm w0 w Q g ss gm sm) (hok : Okc c) (hs : Cod.Shps w0) (hm : I64 most) :
    Calls Tryd.prog 15 #[cxV c, .pointer (some ⟨g, 0, none⟩), .int .i64 most] w fun en w' => en = .returned (.tuple #[cxV (runM most.toNat 0 ss c).2.2.1, .agg (evA (runM most.toNat 0 ss c).1), .int .i64 (runM most.toNat 0 ss c).2.1]) ∧ Wm w0 w' Q g (runM most.toNat 0 ss c).2.2.2 gm sm ∧ Kept Q w w' ∧ w.heap.size ≤ w'.heap.size := by
  obtain ⟨hb, F, F', h1, h2, h3, h4⟩ := h
  exact (Run_any most h1 hok (hs.below hb) hs.pos hm).mono fun e w' hw => ⟨hw.1, (Wm.went hb h1 h2 h3 h4 hw.2).1, (Wm.went hb h1 h2 h3 h4 hw.2).2, by
    obtain ⟨_, _, p2, _⟩ := hw.2
    exact p2.size⟩
theorem run_ok : ∀ (k : Nat) (n : Int) (ss : List Seg) (c : Cx), Okc c → Okc (runM k n ss c).2.2.1
  | 0, _, _, _, h => h
  | k + 1, n, ss, c, h => by
    rw [runM_succ]
    split
    · exact run_ok k _ _ _ (step_ok h)
    · split
      · exact step_ok h
      · exact step_ok h
/-- A context and an event are laid into boxes that are there. -/
theorem laid_old {w : World} {b d : Nat} {c : Cx} {e : Ev} (hc : Cb w b c) (he : Bx w d (evA e) 37) (hbd : b ≠ d) (c2 : Cx) (e2 : Ev) (hl : c2.rs.length = 16) :
    ctxIn w b ∧ evIn (w.setRow b (cxA c2)) d ∧ Cb ((w.setRow b (cxA c2)).setRow d (evA e2)) b c2 ∧ Bx ((w.setRow b (cxA c2)).setRow d (evA e2)) d (evA e2) 37 ∧ Beside w ((w.setRow b (cxA c2)).setRow d (evA e2)) (fun k => k = b ∨ k = d) := by
  have b1 := row_beside w b (cxA c2)
  have c1 := hc.isIn.row c2 hl
  have e1 : Bx (w.setRow b (cxA c2)) d (evA e) 37 := he.beside b1 fun z => hbd z.symm
  generalize w.setRow b (cxA c2) = w1 at *
  have b2 := row_beside w1 d (evA e2)
  refine ⟨hc.isIn, ⟨_, e1⟩, c1.beside b2 hbd, setRow_heap w1 d _ _ 37 (0, 0) e1, b2.os.trans b1.os, b2.tape.trans b1.tape, b2.output.trans b1.output, Nat.le_trans b1.size b2.size, fun k hk hp => ?_⟩
  exact (b2.block k (Nat.lt_of_lt_of_le hk b1.size) fun z => hp (.inr z)).trans (b1.block k hk fun z => hp (.inl z))
/-- Both memories that nothing has touched, later. -/
theorem Wm.later {w0 w4 wz : World} {n g gm : Nat} {ss sm : List Seg} {Q : Nat → Prop} (h : Wm w0 w4 (fun k => k < n) g ss gm sm) (hz : Below w0.heap.size w0 wz) (hs : w4.heap.size ≤ wz.heap.size) (hk : Kept (fun k => n ≤ k ∧ k < w4.heap.size) w4 wz)
    (hq : ∀ k, Q k → k < wz.heap.size ∧ (k < n ∨ w4.heap.size ≤ k)) : Wm w0 wz Q g ss gm sm := by
  obtain ⟨hb, F, F', p1, p2, p3, p4⟩ := h
  have f1 : ∀ k, F k → n ≤ k ∧ k < w4.heap.size := fun k hf => ⟨Nat.le_of_not_lt fun hlt => (p4 k hlt).2.1 hf, (p1.lt hf).2⟩
  have f2 : ∀ k, F' k → n ≤ k ∧ k < w4.heap.size := fun k hf => ⟨Nat.le_of_not_lt fun hlt => (p4 k hlt).2.2 hf, (p2.lt hf).2⟩
  have bes : Beside w4 wz (fun k => ¬ (n ≤ k ∧ k < w4.heap.size)) := ⟨hz.os.trans hb.os.symm, hz.tape.trans hb.tape.symm, hz.output.trans hb.output.symm, hs, fun k _ hn => hk k (Classical.not_not.1 hn)⟩
  refine ⟨hz, F, F', p1.beside bes fun k hf hn => hn (f1 k hf), p2.beside bes fun k hf hn => hn (f2 k hf), p3, fun k hQ => ?_⟩
  obtain ⟨q1, q2⟩ := hq k hQ
  refine ⟨q1, fun hf => ?_, fun hf => ?_⟩
  · have := f1 k hf
    omega
  · have := f2 k hf
    omega
set_option maxRecDepth 100000 in
set_option maxHeartbeats 8000000 in
theorem partsL_any (x : Cs) (A : Option Addr) (a : Nat) (B : Option Addr) (e : Nat) (w : World) (h : CsV w (fun k => k < w.heap.size) x A a B e) (b1 b2 : UInt8) (hs : Cod.Shps w) :
    Calls Tryd.prog 5 #[caseV x A a B e, .int .u8 (b1.toNat : Int), .int .u8 (b2.toNat : Int)] w fun en w' => en = .returned (.bool true) ∧ Below w.heap.size w w' := by
  have HS := Lib.hid hs
  have HLN := Lib.hid h.ok.len
  have HOK := Lib.hid h.ok
  have HLB := Lib.hid (fun (w2 : World) (hb : Below w.heap.size w w2) => law_both h hs hb)
  clear h hs
  go_enter Tryd.func5, Tryd.ntmps5
  go_upto_region 1 with (fail)
  have hb1 : Below w.heap.size w (w.alloc (.cells (caseA x A a B e) 28)) := (Below.refl _ _).alloc (Nat.le_refl _) _
  have hx1 := Bx.new w (caseA x A a B e) 28
  change Code.wp _ _ _ _ (w.alloc (.cells (caseA x A a B e) 28))
  generalize w.alloc (.cells (caseA x A a B e) 28) = w1 at *
  have HA := Lib.hid (awake6_any w1 (HS.out.below hb1))
  have HX1 := Lib.hid hx1
  have HB1 := Lib.hid hb1
  clear hx1 hb1
  go_upto_region 2 with (fail)
  refine HA.out.mono ?_
  rintro en w2 ⟨rfl, hb2⟩
  have HX2 := Lib.hid (HX1.out.below hb2)
  have HB2 := Lib.hid (HB1.out.trans (hb2.mono HB1.out.size))
  have hlt2 : w.heap.size < w2.heap.size := HX2.out.lt
  clear hb2 HA HX1 HB1
  have HC := Lib.hid (HLB.out w2 HB2.out)
  go_upto_region 3 with (first
    | ((with_reducible refine load_case (by rfl) ?_ HX2.out HLN.out ?_); (· rfl))
    | (go_at_call 11; refine (HC.out).mono ?_; rintro en w3 ⟨g, gm, rfl, hw3, hb3⟩; have HW3 := Lib.hid (hw3.less (Q' := fun k => k = w.heap.size) fun k hk => by subst hk; exact hlt2); have HX3 := Lib.hid (HX2.out.below hb3); clear hw3 hb3 HC))
  have HC2 := Lib.hid (HLB.out w3 HW3.out.1)
  clear HX2 HB2
  go_upto_region 7 with (first
    | ((with_reducible refine load_case (by rfl) ?_ HX3.out HLN.out ?_); (· rfl))
    | (go_at_call 11; refine (HC2.out).mono ?_; rintro en w4 ⟨g2, gm2, rfl, hw4, hb4⟩; have HW4 := Lib.hid (HW3.out.moreR hb4); have HV4 := Lib.hid hw4; have HX4 := Lib.hid (HX3.out.below hb4); clear hw4 hb4 HC2))
  rw [show ((b1.toNat : Int) % 100) = ((b1.toNat % 100 : Nat) : Int) by omega, show ((b2.toNat : Int) % 100) = ((b2.toNat % 100 : Nat) : Int) by omega]
  have hp : b1.toNat % 100 < 100 := Nat.mod_lt _ (by omega)
  have hq : b2.toNat % 100 < 100 := Nat.mod_lt _ (by omega)
  generalize b1.toNat % 100 = p at *
  generalize b2.toNat % 100 = q at *
  generalize caseS x = S at *
  have hbn : w.heap.size < w3.heap.size := HX3.out.lt
  clear HW3 HX3 HLB hlt2
  have HRG := Lib.hid (case_ctx HX4.out)
  have HS0 := Lib.hid HS.out
  have HRU := Lib.hid (HW4.out.run2 (c := x.c) (most := (p : Int)) HOK.out HS.out (by unfold I64; omega))
  rw [Int.toNat_natCast] at HRU
  have HO1 := Lib.hid (run_ok p 0 S x.c HOK.out)
  have HAD := Lib.hid (run_add q p S x.c)
  generalize hr1 : runM p 0 S x.c = r1 at *
  obtain ⟨E, k1, C, S1⟩ := r1
  simp only at HRU HO1 HAD
  have HL1 := Lib.hid HO1.out.len
  generalize hbx : w.heap.size = bx at *
  generalize hn : w3.heap.size = n at *
  go_upto_region 8 with (first
    | ((with_reducible refine load_co (by rfl) ?_ HRG.out HLN.out ?_); (· rfl))
    | (go_at_call 15; refine (HRU.out).mono ?_; rintro en w5 ⟨rfl, hw5, hk5, hs45⟩; have HW5 := Lib.hid hw5; have HK5 := Lib.hid hk5; have HX5 := Lib.hid (HX4.out.kept hk5 (.inl rfl)); have HCI := Lib.hid (laid_two w5 C E HL1.out).1; have HEI := Lib.hid (laid_two w5 C E HL1.out).2.1; clear hw5 hk5 HRU)
    | ((with_reducible refine store_c (c := C) (by rfl) ?_ ?_ HCI.out HL1.out ?_); (· rfl); (· rfl))
    | ((with_reducible refine store_e (e := E) (by rfl) ?_ ?_ HEI.out ?_); (· rfl); (· rfl)))
  obtain ⟨_, _, hc6, he6, hb6⟩ := laid_two w5 C E HL1.out
  change Code.wp _ _ _ _ ((((w5.alloc (.cells z18 26)).alloc (.cells (evA ⟨0, 0, 0, 0, 0⟩) 37)).setRow w5.heap.size (cxA C)).setRow (w5.heap.size + 1) (evA E))
  generalize (((w5.alloc (.cells z18 26)).alloc (.cells (evA ⟨0, 0, 0, 0, 0⟩) 37)).setRow w5.heap.size (cxA C)).setRow (w5.heap.size + 1) (evA E) = w6 at *
  have HW6 := Lib.hid (HW5.out.more2 hb6 (b := w5.heap.size) (d := w5.heap.size + 1) (Nat.le_refl _) hc6.lt (Nat.le_succ _) he6.lt).1
  have HX6 := Lib.hid (HX5.out.below hb6)
  have HK6 := Lib.hid (show Kept (fun k => n ≤ k ∧ k < w4.heap.size) w4 w6 from fun k hk => (hb6.block k (Nat.lt_of_lt_of_le hk.2 hs45)).trans (HK5.out k (.inr hk)))
  have h94 : w4.heap.size ≤ w5.heap.size := hs45
  have h9b : bx < w5.heap.size := HX5.out.lt
  have h46 : w4.heap.size ≤ w6.heap.size := Nat.le_trans hs45 hb6.size
  have HC6 := Lib.hid hc6
  have HE6 := Lib.hid he6
  clear hb6 hc6 he6 HCI HEI HW5 HX5 HW4 HX4 HRG HK5 hs45
  generalize hb10 : w5.heap.size + 1 = b10 at *
  generalize w5.heap.size = b9 at *
  have y0 : w6.cell? ⟨b10, 0, none⟩ = some (.int .i64 E.kind) := HE6.out.c 0
  by_cases hk : E.kind = 6
  · obtain ⟨hk1, hadd⟩ := HAD.out hk
    subst hk1
    clear HAD
    have HRU := Lib.hid (HW6.out.run2 (c := C) (most := (q : Int)) HO1.out HS0.out (by unfold I64; omega))
    rw [Int.toNat_natCast] at HRU
    have HL2 := Lib.hid (run_ok q 0 S1 C HO1.out).len
    have hcnt := run_count q S1 C
    generalize hr2 : runM q 0 S1 C = r2 at *
    obtain ⟨E2, k2, C2, S2⟩ := r2
    simp only at HRU HL2 hcnt hadd
    go_upto_region 11 with (first
      | ((with_reducible refine load_c (by rfl) ?_ HC6.out.lc ?_); (· rfl))
      | (go_at_call 15; refine (HRU.out).mono ?_; rintro en w7 ⟨rfl, hw7, hk7, hs67⟩; have HW7 := Lib.hid hw7; have HK7 := Lib.hid hk7; have HX7 := Lib.hid (HX6.out.kept hk7 (.inl (.inl (.inl rfl)))); have HC7 := Lib.hid (HC6.out.keep (hk7 b9 (.inl (.inr rfl)))); have HE7 := Lib.hid (HE6.out.kept hk7 (.inr rfl)); have HCI := Lib.hid (laid_old HC7.out HE7.out (by omega) C2 E2 HL2.out).1; have HEI := Lib.hid (laid_old HC7.out HE7.out (by omega) C2 E2 HL2.out).2.1; clear hw7 hk7 HRU)
      | ((with_reducible refine store_c (c := C2) (by rfl) ?_ ?_ HCI.out HL2.out ?_); (· rfl); (· rfl))
      | ((with_reducible refine store_e (e := E2) (by rfl) ?_ ?_ HEI.out ?_); (· rfl); (· rfl)))
    obtain ⟨_, _, hc8, he8, hb8⟩ := laid_old HC7.out HE7.out (show b9 ≠ b10 by omega) C2 E2 HL2.out
    change Code.wp _ _ _ _ ((w7.setRow b9 (cxA C2)).setRow b10 (evA E2))
    generalize (w7.setRow b9 (cxA C2)).setRow b10 (evA E2) = w8 at *
    have HW8 := Lib.hid (HW7.out.stir hb8 fun k hk => ⟨by rcases hk with rfl | rfl; exact .inl (.inr rfl); exact .inr rfl, by rcases hk with rfl | rfl <;> omega⟩)
    have HX8 := Lib.hid (HX7.out.beside hb8 (by omega))
    have h48 : w4.heap.size ≤ w8.heap.size := Nat.le_trans h46 (Nat.le_trans hs67 hb8.size)
    have HK8 := Lib.hid (show Kept (fun k => n ≤ k ∧ k < w4.heap.size) w4 w8 from fun k hk => ((hb8.block k (Nat.lt_of_lt_of_le hk.2 (Nat.le_trans h46 hs67)) (by omega)).trans (HK7.out k (.inl (.inl (.inr hk))))).trans (HK6.out k hk))
    have HC8 := Lib.hid hc8
    have HE8 := Lib.hid he8
    have HV8 := Lib.hid (HV4.out.later (hbx ▸ HW8.out.1) h48 HK8.out (Q := fun k => (k = bx ∨ k = b9) ∨ k = b10) fun k hk => by
      rcases hk with (rfl | rfl) | rfl
      · exact ⟨HX8.out.lt, .inl hbn⟩
      · exact ⟨HC8.out.lt, .inr h94⟩
      · exact ⟨HE8.out.lt, .inr (by omega)⟩)
    clear hb8 hc8 he8 HCI HEI HW7 HX7 HC7 HE7 HW8 HK8 HK7 HK6 HV4 HW6 HX6 HC6 HE6 y0 hs67
    have HRG := Lib.hid (case_ctx HX8.out)
    have HRU := Lib.hid (HV8.out.run2 (c := x.c) (most := (p : Int) + (q : Int)) HOK.out HS0.out (by unfold I64; omega))
    rw [show ((p : Int) + (q : Int)).toNat = p + q by omega, hadd] at HRU
    clear HV8
    obtain ⟨hc1, hc2⟩ := hcnt
    go_upto_region 12 with (first
      | ((with_reducible refine load_co (by rfl) ?_ HRG.out HLN.out ?_); (· rfl))
      | (go_at_call 15; refine (HRU.out).mono ?_; rintro en w9 ⟨rfl, hw9, hk9, hs89⟩; have HW9 := Lib.hid hw9; have HX9 := Lib.hid (HX8.out.kept hk9 (.inl (.inl rfl))); have HC9 := Lib.hid (HC8.out.keep (hk9 b9 (.inl (.inr rfl)))); have HE9 := Lib.hid (HE8.out.kept hk9 (.inr rfl)); have HCI := Lib.hid (laid_two w9 C2 E2 HL2.out).1; have HEI := Lib.hid (laid_two w9 C2 E2 HL2.out).2.1; clear hw9 hk9 HRU)
      | ((with_reducible refine store_c (c := C2) (by rfl) ?_ ?_ HCI.out HL2.out ?_); (· rfl); (· rfl))
      | ((with_reducible refine store_e (e := E2) (by rfl) ?_ ?_ HEI.out ?_); (· rfl); (· rfl)))
    obtain ⟨_, _, hc10, he10, hb10'⟩ := laid_two w9 C2 E2 HL2.out
    change Code.wp _ _ _ _ ((((w9.alloc (.cells z18 26)).alloc (.cells (evA ⟨0, 0, 0, 0, 0⟩) 37)).setRow w9.heap.size (cxA C2)).setRow (w9.heap.size + 1) (evA E2))
    generalize (((w9.alloc (.cells z18 26)).alloc (.cells (evA ⟨0, 0, 0, 0, 0⟩) 37)).setRow w9.heap.size (cxA C2)).setRow (w9.heap.size + 1) (evA E2) = w10 at *
    have HBZ := Lib.hid (HW9.out.quiet hb10').1.1
    have HC10 := Lib.hid (HC9.out.below hb10').lc
    have HE10 := Lib.hid (HE9.out.below hb10')
    have HC10' := Lib.hid hc10.lc
    have HE10' := Lib.hid he10
    have hceq := ceq_self C2 HL2.out
    clear hb10' hc10 he10 HCI HEI HW9 HX9 HC9 HE9 HX8 HC8 HE8 HRG hs89 h48 h46 h94 h9b hb10
    generalize w9.heap.size + 1 = b21 at *
    generalize w9.heap.size = b20 at *
    go_upto_region 99 with (first
      | ((with_reducible refine load_c (by rfl) ?_ HC10.out ?_); (· rfl))
      | ((with_reducible refine load_c (by rfl) ?_ HC10'.out ?_); (· rfl))
      | ((with_reducible refine load_e (by rfl) ?_ HE10.out ?_); (· rfl); refine ‹∀ (a : Act) (w : World), wpList Tryd.prog _ _ _ a w → _› _ _ ?_; refine BigFrame.wpList_want (by kernel_rfl) ?_; intro K hK; (with_reducible refine load_e (by rfl) ?_ HE10'.out ?_); (· rfl)))
    first | go_ret | skip
    exact ⟨rfl, hbx ▸ HBZ.out⟩
  · go_upto_region 99 with (fail)
    first | go_ret | skip
    exact ⟨rfl, hbx ▸ HW6.out.1⟩
end Go.Proofs.YtfkhfjefddgkoaaDoor
