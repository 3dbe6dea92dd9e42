/-
  Run.
-/
import Derived.Test.YtfkhfjefddgkoaaDoorZK
namespace Go.Proofs.YtfkhfjefddgkoaaDoor
open Go.RowKit

theorem step_ran {w w1 : World} {B g s : Nat} {F : Nat → Prop} {c : Cx} {ss : List Seg} (h : Ran w w1 B g s F c ss) (hok : Okc c) (hs : Cod.Shps w1) :
    Calls Tryd.prog 26 #[.pointer (some ⟨g, 0, none⟩)] w1 fun en w' => en = .returned (.agg (evA (stepM ss c).1)) ∧ Ran w w' B g s F (stepM ss c).2.1 (stepM ss c).2.2 := by
  obtain ⟨F1, l1, m1, n1, b1, k1⟩ := h
  exact (step_any l1 m1 n1 hok.pc (hok.reg 15) hs).mono fun _ _ hh => ⟨hh.1, Ran.join b1 k1 hh.2⟩
theorem Shps.block {w w' : World} (h : Cod.Shps w) (hk : w'.heap[0]? = w.heap[0]?) : Cod.Shps w' := fun j v hv => by
  have h1 := h j v hv
  rw [World.cell?_of_block hk]
  exact h1
theorem Shps.ran {w w1 : World} {B g s : Nat} {F : Nat → Prop} {c : Cx} {ss : List Seg} (h : Ran w w1 B g s F c ss) (hs : Cod.Shps w) (hF : ¬ F 0) (hg : 0 ≠ g) : Cod.Shps w1 := Shps.block hs (h.keep hs.pos hF hg)
theorem results_cell_cell_tmp {fn : Func} {p q r : Tmp} {t u : TypeId} (h : fn.results = #[.cell p t, .cell q u, .tmp r]) (tmps : Array Value) (P : Program) (w : World) :
    (results fn tmps).run P w =
      ((asAddr (tmps.getD p undef)).run P w).andThen fun a w₁ => ((loadVar t a).run P w₁).andThen fun v w₂ => ((asAddr (tmps.getD q undef)).run P w₂).andThen fun a' w₃ => ((loadVar u a').run P w₃).andThen fun v' w₄ => .ok (.tuple #[v, v', tmps.getD r undef]) w₄ := by
  simp only [results, h]
  simp [Sem.run_bind, Result.andThen]
/-- What a function hands back that hands back a context, an event and something else. -/
theorem back_cex {fn : Func} {p q r : Tmp} (hf : fn.results = #[.cell p 26, .cell q 37, .tmp r]) {tmps : Array Value} {w : World} {b d : Nat} {c : Cx} {e : Ev} {x : Value} (hp : tmps.getD p undef = .pointer (some ⟨b, 0, none⟩)) (hq : tmps.getD q undef = .pointer (some ⟨d, 0, none⟩)) (hr : tmps.getD r undef = x)
    (hb : Cb w b c) (hd : Bx w d (evA e) 37) : (results fn tmps).run Tryd.prog w = .ok (.tuple #[cxV c, .agg (evA e), x]) w := by
  rw [results_cell_cell_tmp hf, hp, hq, hr]
  simp [asAddr, hb.value, ev_value hd]
theorem wp_call1 {a : Act} {w : World} {f : FuncId} {x t : Tmp} {q : TypeId} {p : String} {af : Array Edge} {ts : Array TypeId} {v r : Value} {K : Act → World → Prop} {Q : Exit → Act → World → Prop} (hx : a.eval (.tmp x) = v)
    (hi : ∀ w, (invoke (.fn (.func f) #[]) #[v]).run Tryd.prog w = .ok (.enter f #[v]) w)
    (hc : Calls Tryd.prog f #[v] w fun e w' => e = .returned r ∧ Below w.heap.size w w') (hK : ∀ w', Below w.heap.size w w' → K (a.put (some t) r) w') :
    Oper.wp Tryd.prog ⟨some t, .call { callee := .value (.func f), args := #[.tmp x], argTypes := ts }, q, p, af, none⟩ a w K Q := by
  have h : (execOp a.eval ⟨some t, .call { callee := .value (.func f), args := #[.tmp x], argTypes := ts }, q, p, af, none⟩).run Tryd.prog w = .ok (.enter f #[v]) w := by
    subst hx
    have := hi w
    simp [execOp, resolve, Act.eval, Deferred.ofValue] at this ⊢
    exact this
  unfold Oper.wp
  rw [h, Oper.upon_enter]
  refine hc.mono ?_
  rintro e w' ⟨rfl, hb⟩
  exact hK w' hb
theorem inv_rest (v : Value) (w : World) : (invoke (.fn (.func 39) #[]) #[v]).run Tryd.prog w = .ok (.enter 39 #[v]) w := by
  go_simp
/-- Behind j steps of a run. -/
structure RunAt (w2 wr : World) (B g s : Nat) (F : Nat → Prop) (m : Nat) (ss : List Seg) (c : Cx) (j : Nat) (ci : Cx) (si : List Seg) : Prop where
  ran : Ran w2 wr B g s F ci si
  ok : Okc ci
  eq : runM m 0 ss c = runM (m - j) (j : Int) si ci
theorem runM_step {m j : Nat} {n : Int} {ss : List Seg} {c : Cx} (h : j < m) (hk : (stepM ss c).1.kind = 0) : runM (m - j) n ss c = runM (m - (j + 1)) (n + 1) (stepM ss c).2.2 (stepM ss c).2.1 := by
  rw [show m - j = (m - (j + 1)) + 1 by omega, runM, if_pos hk]
theorem runM_done {m j : Nat} {n : Int} {ss : List Seg} {c : Cx} (h : j < m) (hk : (stepM ss c).1.kind = 1 ∨ (stepM ss c).1.kind = 5) : runM (m - j) n ss c = ((stepM ss c).1, n, (stepM ss c).2.1, (stepM ss c).2.2) := by
  rw [show m - j = (m - (j + 1)) + 1 by omega, runM, if_neg (by omega), if_pos hk]
theorem runM_told {m j : Nat} {n : Int} {ss : List Seg} {c : Cx} (h : j < m) (h0 : (stepM ss c).1.kind ≠ 0) (hk : ¬ ((stepM ss c).1.kind = 1 ∨ (stepM ss c).1.kind = 5)) : runM (m - j) n ss c = ((stepM ss c).1, n + 1, (stepM ss c).2.1, (stepM ss c).2.2) := by
  rw [show m - j = (m - (j + 1)) + 1 by omega, runM, if_neg h0, if_neg hk]
set_option maxRecDepth 100000 in
set_option maxHeartbeats 4000000 in
theorem Run_any {w : World} {B s : Nat} {F : Nat → Prop} {c : Cx} {ss : List Seg} (most : Int) (h : Lies w B s F ss) (hok : Okc c) (hs : Cod.Shps w) (hB : 0 < B) (hm : I64 most) :
    Calls Tryd.prog 15 #[cxV c, .pointer (some ⟨s, 0, none⟩), .int .i64 most] w fun en w' => en = .returned (.tuple #[cxV (runM most.toNat 0 ss c).2.2.1, .agg (evA (runM most.toNat 0 ss c).1), .int .i64 (runM most.toNat 0 ss c).2.1]) ∧ Went w w' B s F (runM most.toNat 0 ss c).2.2.2 := by
  go_enter Tryd.func15, Tryd.ntmps15
  go_upto_region 1 with (fail)
  obtain ⟨h0, h1, h2, hb⟩ := al_three w (cxA c) z18 (evA ⟨0, 0, 0, 0, 0⟩) 26 26 37
  have l1 := h.below hb
  have s1 := hs.below hb
  have hF : ∀ b, w.heap.size ≤ b → ¬ F b := fun b hbz hf => Nat.lt_irrefl _ (Nat.lt_of_lt_of_le (h.lt hf).2 hbz)
  have hFs : ¬ F 0 := fun hf => Nat.lt_irrefl _ (Nat.lt_of_lt_of_le hB (h.lt hf).1)
  have hsw := hs.pos
  change Code.wp _ _ _ _ (al (al (al w (cxA c) 26) z18 26) (evA ⟨0, 0, 0, 0, 0⟩) 37)
  generalize al (al (al w (cxA c) 26) z18 26) (evA ⟨0, 0, 0, 0, 0⟩) 37 = w1 at *
  have HLC := Lib.hid (show Cb w1 w.heap.size c from ⟨h0, hok.len⟩).lc
  have HLN := Lib.hid hok.len
  have HMI := Lib.hid (show mIn (w1.alloc (.cells #[.int .i64 0, .int .i64 0, .int .i64 0, .int .i64 0, .int .i64 0, .int .i64 0, .int .i64 0, .int .i64 0, .int .i64 0, .int .i64 0, .int .i64 0, .int .i64 0, .int .i64 0, .int .i64 0, .int .i64 0, .int .i64 0, .int .i64 0, .int .i64 0, .pointer none] 71)) w1.heap.size from mIn.new w1)
  go_upto_region 2 with (first
    | ((with_reducible refine wpl_load_c HLC.out ?_ ?_); (· rfl))
    | ((with_reducible refine wpl_build_m (s := s) HLN.out ?_ ?_ ?_); (· rfl); (· rfl))
    | ((with_reducible refine wpl_store_mach (s := s) HMI.out HLN.out ?_ ?_ ?_); (· rfl); (· rfl)))
  obtain ⟨m2, b12⟩ := mach_new w1 c s hok.len
  generalize (w1.alloc (.cells #[.int .i64 0, .int .i64 0, .int .i64 0, .int .i64 0, .int .i64 0, .int .i64 0, .int .i64 0, .int .i64 0, .int .i64 0, .int .i64 0, .int .i64 0, .int .i64 0, .int .i64 0, .int .i64 0, .int .i64 0, .int .i64 0, .int .i64 0, .int .i64 0, .pointer none] 71)).setRow w1.heap.size (mcC c s).toArray = w2 at *
  have hsz := hb.size
  have hg : ¬ F w1.heap.size := hF _ hsz
  have l2 := l1.below b12
  have s2 := s1.below b12
  have e2 : ctxIn w2 (w.heap.size + 1) := ⟨_, h1.below b12, rfl⟩
  have f2 : evIn w2 (w.heap.size + 1 + 1) := ⟨_, h2.below b12⟩
  have b02 := hb.trans (b12.mono hsz)
  have hz1 : w.heap.size + 1 + 1 < w1.heap.size := h2.lt
  have hz2 : w1.heap.size < w2.heap.size := m2.lt
  have HF := Lib.hid (fun k (hk : F k) => (h.lt hk).2)
  have HR2 := Lib.hid (Ran.refl l2 m2 hg)
  have HS2 := Lib.hid s2
  have HE2 := Lib.hid e2
  have HF2 := Lib.hid f2
  have HB02 := Lib.hid b02
  have hgs : 0 ≠ w1.heap.size := by omega
  have HFN := Lib.hid hF
  have HFS := Lib.hid hFs
  have HOK := Lib.hid hok
  have HMM := Lib.hid hm
  clear HLC HLN HMI h0 h1 h2 l1 s1 l2 s2 m2 hb h hs e2 f2 b02 b12 hF hFs hok hm
  generalize w1.heap.size = g at *
  go_upto_region 3 with (fail)
  go_loopw [16] (fun i wr => ∃ (j : Nat) (ci : Cx) (si : List Seg), j ≤ most.toNat ∧ i = .int .i64 (j : Int) ∧ RunAt w2 wr B g s F most.toNat ss c j ci si) (fun i _ => most.toNat - (intOf i).toNat)
  case atStart => exact ⟨0, c, ss, Nat.zero_le _, rfl, HR2.out, HOK.out, rfl⟩
  case round =>
    obtain ⟨j, ci, si, hj, rfl, hat⟩ := hrel
    have hmost := HMM.out
    unfold I64 at hmost
    have HRI := Lib.hid hat.ran
    have HOI := Lib.hid hat.ok
    have HEI := Lib.hid hat.eq
    have HST := Lib.hid (step_ran hat.ran hat.ok (Shps.ran hat.ran HS2.out HFS.out hgs))
    have hsz2 : w2.heap.size ≤ wr.heap.size := by
      obtain ⟨_, _, _, _, b3, _⟩ := hat.ran
      exact b3.size
    clear hat
    by_cases hlt : (j : Int) < most
    · have hjm : j < most.toNat := by omega
      go_wp2_with fail
      refine (HST.out).mono ?_
      rintro e w3 ⟨rfl, hr3⟩
      have HR3 := Lib.hid hr3
      have HO3 := Lib.hid (step_ok HOI.out (ss := si))
      have HQ0 := Lib.hid (fun hk => HEI.out.trans (runM_step (n := (j : Int)) hjm hk))
      have HQ1 := Lib.hid (fun hk => HEI.out.trans (runM_done (n := (j : Int)) hjm hk))
      have HQ2 := Lib.hid (fun h0 hk => HEI.out.trans (runM_told (n := (j : Int)) hjm h0 hk))
      clear hr3 HEI HST HOI HRI
      generalize stepM si ci = R at *
      obtain ⟨ev, c3, s3⟩ := R
      simp only at HR3 HO3 HQ0 HQ1 HQ2
      go_upto_region 6 with (fail)
      have hb4 : Below w3.heap.size w3 (w3.alloc (.cells (evA ev) 37)) := (Below.refl _ _).alloc (Nat.le_refl _) _
      have z4 := Bx.new w3 (evA ev) 37
      have HR4 := Lib.hid (HR3.out.quiet hb4)
      have r4 := HR3.out.quiet hb4
      change Code.wp _ _ _ _ (w3.alloc (.cells (evA ev) 37))
      generalize w3.alloc (.cells (evA ev) 37) = w4 at *
      have hsz3 : w2.heap.size ≤ w3.heap.size := by
        obtain ⟨_, _, _, _, b3, _⟩ := HR3.out
        exact b3.size
      generalize hbe : w3.heap.size = b4 at *
      have e4 := HE2.out.ran r4 (HFN.out _ (by omega)) (by omega)
      have f4 := HF2.out.ran r4 (HFN.out _ (by omega)) (by omega)
      have d4 : Bx w4.drew b4 (evA ev) 37 := z4
      have bd : Beside w4 w4.drew (fun _ => False) := Beside.of_below (drew_below w4) _
      have q0 : w4.cell? ⟨b4, 0, none⟩ = some (.int .i64 ev.kind) := z4.c 0
      by_cases h0 : ev.kind = 0
      · rw [h0] at q0
        have HN := Lib.hid (HQ0.out h0)
        clear e4 f4 d4 bd z4 r4 hb4 hbe h0
        go_wp2_with fail
        go_roundw
        case rel => exact ⟨j + 1, c3, s3, hjm, by go_num, HR4.out, HO3.out, HN.out⟩
        case measure => simp [intOf]; omega
      by_cases h1 : ev.kind = 1
      · rw [h1] at q0
        have HN := Lib.hid (HQ1.out (.inl h1))
        clear h0 h1
        go_upto_region 11 with (fail)
        refine wp_region_any (by kernel_rfl) ?_
        change wpAny _ _ _ _ (1 + 4 + 2) _ _ w4.drew
        refine wpAny_take (i := 0) (v := .pointer (some ⟨g, 0, none⟩)) rfl (by kernel_rfl) (by kernel_rfl) (by kernel_rfl) (fun _ _ _ h => h) (Or.inl ⟨by rfl, fun w => by go_simp⟩) ?_
        refine wpAny_take (i := 3) (v := .int .i64 (j : Int)) rfl (by kernel_rfl) (by kernel_rfl) (by kernel_rfl) (fun _ _ _ h => h) (Or.inl ⟨by rfl, fun w => by go_simp⟩) ?_
        refine ret_gen (L0 := #[true, false, false, true, false, false, false]) (L1 := #[true, true, false, true, false, false, false]) (L2 := #[true, false, true, true, false, false, false]) (L3 := #[true, true, true, true, false, false, false]) (L4 := #[true, true, false, true, true, false, false]) (L5 := #[true, true, true, true, true, false, false]) (L6 := #[true, true, true, true, true, true, false])
          (i0 := 1) (i1 := 2) (i2 := 4) (i3 := 5) (b := g) (e := w.heap.size + 1) (f := w.heap.size + 1 + 1) (c := c3) (ev := ev) rfl rfl rfl rfl
          ⟨by decide, by decide, by decide, by decide, by decide, by decide, (by decide : 33 < 42), (by decide : 34 < 42), rfl, rfl, rfl⟩ (r4.mach.lc.below (drew_below w4)) (e4.beside bd (fun h => h)) (f4.beside bd (fun h => h)) (by omega)
          (fun w' => Bx w' b4 (evA ev) 37) d4 (fun w' hw => hw.beside (row_beside w' _ _) (by omega))
          (fun a' w' K ha hw hK => load_e rfl ((ha 11 (by decide)).trans rfl) hw (hK _ (Below.refl _ _)))
          (.inl (by kernel_rfl)) (.inl (by kernel_rfl)) (by kernel_rfl) (by kernel_rfl) (fun _ => by kernel_rfl) (by kernel_rfl) rfl rfl rfl rfl rfl rfl rfl rfl ?_
        intro w5 k1 k2 k3
        refine wpAny_ready (rs := [6]) (by kernel_rfl) (by simp) (AllReady.cons rfl (fun K hK => ?_) AllReady.nil)
        rw [if_pos (by rfl)]
        have HW := Lib.hid (Ran.went_all HB02.out HF.out (by omega) HR3.out (h5 := (show Beside w3 w5 (fun k => k = w.heap.size + 1 ∨ k = w.heap.size + 1 + 1) from ⟨k3.os.trans hb4.os, k3.tape.trans hb4.tape, k3.output.trans hb4.output, Nat.le_trans hb4.size k3.size, fun k hk hp => (k3.block k (Nat.lt_of_lt_of_le hk hb4.size) hp).trans (hb4.block k (hbe ▸ hk))⟩)) (fun k hk => by omega))
        have K1 := Lib.hid k1
        have K2 := Lib.hid k2
        clear hbe k1 k2 k3 e4 f4 d4 bd z4 r4 HR4 HE2 HF2 hb4
        go_simp
        refine hK _ _ (wpAny_done (by kernel_rfl) ?_ _)
        clear hK K
        go_wp2_with fail
        refine bodyPost_ret (v := .tuple #[cxV c3, .agg (evA ev), .int .i64 (j : Int)]) (back_cex rfl (by rfl) (by rfl) (by rfl) K1.out K2.out) rfl ?_
        rw [HN.out]
        exact ⟨rfl, HW.out⟩
      by_cases h5 : ev.kind = 5
      · rw [h5] at q0
        have HN := Lib.hid (HQ1.out (.inr h5))
        clear h0 h1 h5
        go_upto_region 11 with (fail)
        refine wp_region_any (by kernel_rfl) ?_
        change wpAny _ _ _ _ (1 + 4 + 2) _ _ w4.drew
        refine wpAny_take (i := 0) (v := .pointer (some ⟨g, 0, none⟩)) rfl (by kernel_rfl) (by kernel_rfl) (by kernel_rfl) (fun _ _ _ h => h) (Or.inl ⟨by rfl, fun w => by go_simp⟩) ?_
        refine wpAny_take (i := 3) (v := .int .i64 (j : Int)) rfl (by kernel_rfl) (by kernel_rfl) (by kernel_rfl) (fun _ _ _ h => h) (Or.inl ⟨by rfl, fun w => by go_simp⟩) ?_
        refine ret_gen (L0 := #[true, false, false, true, false, false, false]) (L1 := #[true, true, false, true, false, false, false]) (L2 := #[true, false, true, true, false, false, false]) (L3 := #[true, true, true, true, false, false, false]) (L4 := #[true, true, false, true, true, false, false]) (L5 := #[true, true, true, true, true, false, false]) (L6 := #[true, true, true, true, true, true, false])
          (i0 := 1) (i1 := 2) (i2 := 4) (i3 := 5) (b := g) (e := w.heap.size + 1) (f := w.heap.size + 1 + 1) (c := c3) (ev := ev) rfl rfl rfl rfl
          ⟨by decide, by decide, by decide, by decide, by decide, by decide, (by decide : 33 < 42), (by decide : 34 < 42), rfl, rfl, rfl⟩ (r4.mach.lc.below (drew_below w4)) (e4.beside bd (fun h => h)) (f4.beside bd (fun h => h)) (by omega)
          (fun w' => Bx w' b4 (evA ev) 37) d4 (fun w' hw => hw.beside (row_beside w' _ _) (by omega))
          (fun a' w' K ha hw hK => load_e rfl ((ha 11 (by decide)).trans rfl) hw (hK _ (Below.refl _ _)))
          (.inl (by kernel_rfl)) (.inl (by kernel_rfl)) (by kernel_rfl) (by kernel_rfl) (fun _ => by kernel_rfl) (by kernel_rfl) rfl rfl rfl rfl rfl rfl rfl rfl ?_
        intro w5 k1 k2 k3
        refine wpAny_ready (rs := [6]) (by kernel_rfl) (by simp) (AllReady.cons rfl (fun K hK => ?_) AllReady.nil)
        rw [if_pos (by rfl)]
        have HW := Lib.hid (Ran.went_all HB02.out HF.out (by omega) HR3.out (h5 := (show Beside w3 w5 (fun k => k = w.heap.size + 1 ∨ k = w.heap.size + 1 + 1) from ⟨k3.os.trans hb4.os, k3.tape.trans hb4.tape, k3.output.trans hb4.output, Nat.le_trans hb4.size k3.size, fun k hk hp => (k3.block k (Nat.lt_of_lt_of_le hk hb4.size) hp).trans (hb4.block k (hbe ▸ hk))⟩)) (fun k hk => by omega))
        have K1 := Lib.hid k1
        have K2 := Lib.hid k2
        clear hbe k1 k2 k3 e4 f4 d4 bd z4 r4 HR4 HE2 HF2 hb4
        go_simp
        refine hK _ _ (wpAny_done (by kernel_rfl) ?_ _)
        clear hK K
        go_wp2_with fail
        refine bodyPost_ret (v := .tuple #[cxV c3, .agg (evA ev), .int .i64 (j : Int)]) (back_cex rfl (by rfl) (by rfl) (by rfl) K1.out K2.out) rfl ?_
        rw [HN.out]
        exact ⟨rfl, HW.out⟩
      · have HN := Lib.hid (HQ2.out h0 (by omega))
        have g0 : (ev.kind == 0) = false := by simpa using h0
        have g1 : (ev.kind == 1) = false := by simpa using h1
        have g5 : (ev.kind == 5) = false := by simpa using h5
        have hj1 : IntKind.i64.wrap ((j : Int) + 1) = (j : Int) + 1 := by rw [w64_kind]; unfold w64 wrap64; omega
        clear h0 h1 h5
        go_upto_region 7 with (fail)
        refine wp_region_any (by kernel_rfl) ?_
        change wpAny _ _ _ _ (1 + 4 + 3) _ _ w4.drew
        refine wpAny_take (i := 0) (v := .pointer (some ⟨g, 0, none⟩)) rfl (by kernel_rfl) (by kernel_rfl) (by kernel_rfl) (fun _ _ _ h => h) (Or.inl ⟨by rfl, fun w => by go_simp⟩) ?_
        refine wpAny_take (i := 3) (v := .int .i64 (j : Int)) rfl (by kernel_rfl) (by kernel_rfl) (by kernel_rfl) (fun _ _ _ h => h) (Or.inl ⟨by rfl, fun w => by go_simp⟩) ?_
        refine wpAny_take (i := 4) (v := .int .i64 ((j : Int) + 1)) rfl (by kernel_rfl) (by kernel_rfl) (by kernel_rfl) (fun _ _ _ h => h) (Or.inl ⟨by rfl, fun w => by go_simp⟩) ?_
        refine ret_gen (L0 := #[true, false, false, true, true, false, false, false]) (L1 := #[true, true, false, true, true, false, false, false]) (L2 := #[true, false, true, true, true, false, false, false]) (L3 := #[true, true, true, true, true, false, false, false]) (L4 := #[true, true, false, true, true, true, false, false]) (L5 := #[true, true, true, true, true, true, false, false]) (L6 := #[true, true, true, true, true, true, true, false])
          (i0 := 1) (i1 := 2) (i2 := 5) (i3 := 6) (b := g) (e := w.heap.size + 1) (f := w.heap.size + 1 + 1) (c := c3) (ev := ev) rfl rfl rfl rfl
          ⟨by decide, by decide, by decide, by decide, by decide, by decide, (by decide : 23 < 42), (by decide : 24 < 42), rfl, rfl, rfl⟩ (r4.mach.lc.below (drew_below w4)) (e4.beside bd (fun h => h)) (f4.beside bd (fun h => h)) (by omega)
          (fun w' => Bx w' b4 (evA ev) 37) d4 (fun w' hw => hw.beside (row_beside w' _ _) (by omega))
          (fun a' w' K ha hw hK => load_e rfl ((ha 11 (by decide)).trans rfl) hw (hK _ (Below.refl _ _)))
          (.inl (by kernel_rfl)) (.inl (by kernel_rfl)) (by kernel_rfl) (by kernel_rfl) (fun _ => by kernel_rfl) (by kernel_rfl) rfl rfl rfl rfl rfl rfl rfl rfl ?_
        intro w5 k1 k2 k3
        refine wpAny_ready (rs := [7]) (by kernel_rfl) (by simp) (AllReady.cons rfl (fun K hK => ?_) AllReady.nil)
        rw [if_pos (by rfl)]
        have HW := Lib.hid (Ran.went_all HB02.out HF.out (by omega) HR3.out (h5 := (show Beside w3 w5 (fun k => k = w.heap.size + 1 ∨ k = w.heap.size + 1 + 1) from ⟨k3.os.trans hb4.os, k3.tape.trans hb4.tape, k3.output.trans hb4.output, Nat.le_trans hb4.size k3.size, fun k hk hp => (k3.block k (Nat.lt_of_lt_of_le hk hb4.size) hp).trans (hb4.block k (hbe ▸ hk))⟩)) (fun k hk => by omega))
        have K1 := Lib.hid k1
        have K2 := Lib.hid k2
        clear hbe k1 k2 k3 e4 f4 d4 bd z4 r4 HR4 HE2 HF2 hb4
        go_simp
        refine hK _ _ (wpAny_done (by kernel_rfl) ?_ _)
        clear hK K
        go_wp2_with fail
        refine bodyPost_ret (v := .tuple #[cxV c3, .agg (evA ev), .int .i64 ((j : Int) + 1)]) (back_cex rfl (by rfl) (by rfl) (by rfl) K1.out K2.out) rfl ?_
        rw [HN.out]
        exact ⟨rfl, HW.out⟩
    · have hje : j = most.toNat := by omega
      have HN := Lib.hid (show runM most.toNat 0 ss c = (restE ci, (j : Int), ci, si) by rw [HEI.out, hje, Nat.sub_self]; rfl)
      have HRE := Lib.hid (show ∀ X, Mc X g ci s → Calls Tryd.prog 39 #[.pointer (some ⟨g, 0, none⟩)] X fun en w' => en = .returned (.agg (evA (restE ci))) ∧ Below X.heap.size X w' from fun X hX => rest_any g s ci X hX)
      have hmx : (if most < 0 then (0 : Int) else most) = (j : Int) := by split <;> omega
      clear hje HEI
      go_upto_region 13 with (fail)
      have r4 := HRI.out
      have e4 := HE2.out.ran r4 (HFN.out _ (by omega)) (by omega)
      have f4 := HF2.out.ran r4 (HFN.out _ (by omega)) (by omega)
      have bd : Beside wr wr.drew (fun _ => False) := Beside.of_below (drew_below wr) _
      refine wp_region_any (by kernel_rfl) ?_
      change wpAny _ _ _ _ (1 + 4 + 3) _ _ wr.drew
      refine wpAny_take (i := 0) (v := .pointer (some ⟨g, 0, none⟩)) rfl (by kernel_rfl) (by kernel_rfl) (by kernel_rfl) (fun _ _ _ h => h) (Or.inl ⟨by rfl, fun w => by go_simp⟩) ?_
      refine wpAny_take (i := 3) (v := .int .i64 most) rfl (by kernel_rfl) (by kernel_rfl) (by kernel_rfl) (fun _ _ _ h => h) (Or.inl ⟨by rfl, fun w => by go_simp⟩) ?_
      refine wpAny_take (i := 4) (v := .int .i64 (j : Int)) rfl (by kernel_rfl) (by kernel_rfl) (by kernel_rfl) (fun _ _ _ h => h) (Or.inl ⟨by rfl, fun w => by go_simp⟩) ?_
      refine ret_gen (L0 := #[true, false, false, true, true, false, false, false]) (L1 := #[true, true, false, true, true, false, false, false]) (L2 := #[true, false, true, true, true, false, false, false]) (L3 := #[true, true, true, true, true, false, false, false]) (L4 := #[true, true, false, true, true, true, false, false]) (L5 := #[true, true, true, true, true, true, false, false]) (L6 := #[true, true, true, true, true, true, true, false])
        (i0 := 1) (i1 := 2) (i2 := 5) (i3 := 6) (b := g) (e := w.heap.size + 1) (f := w.heap.size + 1 + 1) (c := ci) (ev := restE ci) rfl rfl rfl rfl
        ⟨by decide, by decide, by decide, by decide, by decide, by decide, (by decide : 38 < 42), (by decide : 39 < 42), rfl, rfl, rfl⟩ (r4.mach.lc.below (drew_below wr)) (e4.beside bd (fun h => h)) (f4.beside bd (fun h => h)) (by omega)
        (fun w' => Mc w' g ci s) (r4.mach.below (drew_below wr)) (fun w' hw => hw.beside (row_beside w' _ _) (by omega))
        ?_
        (.inl (by kernel_rfl)) (.inr (by kernel_rfl)) (by kernel_rfl) (by kernel_rfl) (fun hno => absurd (hno.symm.trans (show Region.ready .any _ _ = [2] by kernel_rfl)) (by decide)) (by kernel_rfl) rfl rfl rfl rfl rfl rfl rfl rfl ?_
      · intro a' w' K ha hw hK
        exact wp_call1 ((ha 9 (by decide)).trans rfl) (inv_rest _) (HRE.out _ hw) hK
      · intro w5 k1 k2 k3
        refine wpAny_ready (rs := [7]) (by kernel_rfl) (by simp) (AllReady.cons rfl (fun K hK => ?_) AllReady.nil)
        rw [if_pos (by rfl)]
        have HW := Lib.hid (Ran.went_all HB02.out HF.out (by omega) HRI.out (h5 := (show Beside wr w5 (fun k => k = w.heap.size + 1 ∨ k = w.heap.size + 1 + 1) from ⟨k3.os, k3.tape, k3.output, k3.size, fun k hk hp => k3.block k hk hp⟩)) (fun k hk => by omega))
        have K1 := Lib.hid k1
        have K2 := Lib.hid k2
        clear k1 k2 k3 e4 f4 bd r4 HE2 HF2
        go_simp
        refine hK _ _ (wpAny_done (by kernel_rfl) ?_ _)
        clear hK K
        go_wp2_with fail
        refine bodyPost_ret (v := .tuple #[cxV ci, .agg (evA (restE ci)), .int .i64 (j : Int)]) (back_cex rfl (by rfl) (by rfl) (by rfl) K1.out K2.out) rfl ?_
        rw [HN.out]
        exact ⟨rfl, HW.out⟩
end Go.Proofs.YtfkhfjefddgkoaaDoor
