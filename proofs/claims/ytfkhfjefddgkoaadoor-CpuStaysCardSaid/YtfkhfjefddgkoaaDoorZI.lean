/-
  One step of the machine.
-/
import Derived.Test.YtfkhfjefddgkoaaDoorZHb
import Derived.Test.YtfkhfjefddgkoaaDoorZRt
namespace Go.Proofs.YtfkhfjefddgkoaaDoor
open Go.RowKit

theorem results_cell_one {fn : Func} {p : Tmp} {ty : TypeId} (h : fn.results = #[.cell p ty]) (tmps : Array Value) (P : Program) (w : World) :
    (results fn tmps).run P w = ((asAddr (tmps.getD p undef)).run P w).andThen fun a w₁ => (loadVar ty a).run P w₁ := by
  simp only [results, h]
  simp [Sem.run_bind, Result.andThen]
theorem Bx.keep {w w' : World} {b : Nat} {cs : Array Value} {t : TypeId} (h : Bx w b cs t) (hk : w'.heap[b]? = w.heap[b]?) : Bx w' b cs t := hk.trans h
theorem setL_cells (g : Nat) : ∀ (vs : List Value) (k : Nat) (w : World), setL w g k vs = w.setCells g k vs
  | [], _, _ => rfl
  | _ :: vs, k, _ => setL_cells g vs (k + 1) _
theorem setCells_beside (g : Nat) (vs : List Value) (k : Nat) (w : World) : Beside w (w.setCells g k vs) (fun j => j = g) := by
  rw [← setL_cells]
  exact setL_beside g vs k w
theorem Ran.restore' {w w1 : World} {B g s : Nat} {F : Nat → Prop} {c d : Cx} {ss : List Seg} (h : Ran w w1 B g s F d ss) (hc : c.rs.length = 16) : Ran w (w1.setCells g 0 (cxC c)) B g s F c ss := by
  rw [← setL_cells]
  exact h.restore hc
theorem wpl_store_m {ops : Array Oper} {rest : List Oper} {u v : Tmp} {q : TypeId} {p : String} {af : Array Edge} {a : Act} {w : World} {Q : Exit → Act → World → Prop} {g s : Nat} {c d : Cx} (hm : Mc w g d s) (hl : c.rs.length = 16) (hu : a.eval (.tmp u) = .pointer (some ⟨g, 0, none⟩)) (hv : a.eval (.tmp v) = cxV c)
    (h : wpList Tryd.prog ops Q rest a (w.setCells g 0 (cxC c))) : wpList Tryd.prog ops Q (⟨none, .store 26 (.tmp u) (.tmp v), q, p, af, none⟩ :: rest) a w := by
  have n : (cxA c).size = 18 := by simpa using cxC_len hl
  refine wpList_store_mid rfl 26 _ _ rfl g 0 (cxA c) hu hv (fun j hj => ?_) (by rw [n]; exact Tryd.info_ctx) (cxC_one c) h
  rw [n] at hj
  have hk := (hm.lc.at_).isSome j (by rw [cxC_len hm.len]; exact hj)
  exact ⟨hk, hm.fro _⟩
theorem may_regs {op a b c n : Int} (h : Cod.mayB ⟨op, a, b, c, n⟩ = true) : (0 ≤ a ∧ a < 16) ∧ (0 ≤ b ∧ b < 16) ∧ (0 ≤ c ∧ c < 16) := by
  unfold Cod.mayB at h
  split at h
  · cases h
  · simp only [Cod.regsOk, Cod.regOk, Bool.and_eq_true, decide_eq_true_eq] at h
    exact ⟨h.1.1.2, h.1.2.1.2, h.1.2.2.2⟩
theorem instM_none {ss : List Seg} {c : Cx} {e : Int} (h : instM ss c = (e, none)) : e ≠ 0 := by
  unfold instM at h
  split at h
  · split at h
    · split at h
      · cases h
      · cases h; decide
    · cases h; decide
  · cases h; assumption
theorem instM_some {ss : List Seg} {c : Cx} {e : Int} {i : Ins} (h : instM ss c = (e, some i)) : e = 0 ∧ Cod.mayB i = true := by
  unfold instM at h
  split at h
  · split at h
    · split at h
      · cases h; exact ⟨rfl, by assumption⟩
      · cases h
    · cases h
  · cases h
set_option maxRecDepth 100000 in
set_option maxHeartbeats 4000000 in
theorem step_any {w : World} {B g s : Nat} {F : Nat → Prop} {c : Cx} {ss : List Seg} (h : Lies w B s F ss) (hm : Mc w g c s) (hg : ¬ F g) (hp : I64 c.pc) (h15 : I64 (c.reg 15)) (hs : Cod.Shps w) :
    Calls Tryd.prog 26 #[.pointer (some ⟨g, 0, none⟩)] w fun en w' => en = .returned (.agg (evA (stepM ss c).1)) ∧ Ran w w' B g s F (stepM ss c).2.1 (stepM ss c).2.2 := by
  go_enter Tryd.func26, Tryd.ntmps26
  go_upto_region 1 with (fail)
  have HB1 := Lib.hid (show Below w.heap.size w (w.alloc (.cells #[.int .i64 0, .int .i64 0, .int .i64 0, .int .i64 0, .int .i64 0] 37)) from (Below.refl _ _).alloc (Nat.le_refl _) _)
  have HX := Lib.hid (Bx.new w #[.int .i64 0, .int .i64 0, .int .i64 0, .int .i64 0, .int .i64 0] 37)
  have h1 := h.below HB1.out
  have hm1 := hm.below HB1.out
  have hs1 : Cod.Shps (w.alloc (.cells #[.int .i64 0, .int .i64 0, .int .i64 0, .int .i64 0, .int .i64 0] 37)) := Cod.Shps.keep hs fun k hk => HB1.out.block k hk
  have hnF : ¬ F w.heap.size := fun hf => Nat.lt_irrefl _ (h.lt hf).2
  have hng : w.heap.size ≠ g := Nat.ne_of_gt hm.lt
  generalize w.alloc (.cells #[.int .i64 0, .int .i64 0, .int .i64 0, .int .i64 0, .int .i64 0] 37) = w1 at *
  have HBX := Lib.hid (fun (X : World) (i : Nat) (v : Value) (c2 : Cx) (s2 : List Seg) (hx : Rn w w1 X B g s F c2 s2) => hx.box i v HX.out.lt (Nat.le_refl _) hnF hng)
  have HEN := Lib.hid (fun (X : World) (c2 : Cx) (s2 : List Seg) (hx : Rn w w1 X B g s F c2 s2) => Rn.ran HB1.out hx)
  have HOF := Lib.hid (fun (X : World) (c2 : Cx) (s2 : List Seg) (hx : Ran w1 X B g s F c2 s2) => Rn.of HB1.out hx)
  have HR1 := Lib.hid (Ran.refl h1 hm1 hg)
  have q0 := hm1.pc
  have f0 := hm1.fro 0
  clear h hm hs
  by_cases h0 : c.pc = 0
  · have HM := Lib.hid (show stepM ss c = (⟨1, 0, 0, 0, 0⟩, c, ss) by simp [stepM, h0])
    rw [h0] at q0
    have hy := HX.out
    have e0 := hy.c 0
    have u0 := hy.f 0
    have e1 := hy.c 1
    have u1 := hy.f 1
    have e2 := hy.c 2
    have u2 := hy.f 2
    have e3 := hy.c 3
    have u3 := hy.f 3
    have e4 := hy.c 4
    have u4 := hy.f 4
    simp only [List.getElem?_toArray, List.getElem?_cons_succ, List.getElem?_cons_zero] at e0 e1 e2 e3 e4
    clear hy
    go_wp2_with fail
    (try simp only [Exit.inBlock, Exit.then])
    rw [HM.out]
    refine bodyPost_ret (v := .agg (evA ⟨1, 0, 0, 0, 0⟩)) ?_ rfl ⟨rfl, ?_⟩
    · rw [results_cell_one rfl]
      go_simp
    · (with_reducible refine HEN.out _ _ _ ?_)
      repeat (with_reducible refine HBX.out _ _ _ _ _ ?_)
      with_reducible exact HOF.out _ _ _ HR1.out
  · have h02 : (c.pc == 0) = false := by simpa using h0
    have HIN := Lib.hid (instruction_any h1 hm1 hp hs1)
    have HL1 := Lib.hid h1
    have HM1 := Lib.hid hm1
    clear h1 hm1 hs1
    go_wp2_with fail
    refine (HIN.out).mono ?_
    rintro e w2 ⟨rfl, hb2⟩
    rcases hin : instM ss c with ⟨er, _ | i⟩
    · have hne : (er == 0) = false := by simpa using instM_none hin
      have HM := Lib.hid (show stepM ss c = (trapE er, c, ss) by simp [stepM, h0, hin])
      have HTR := Lib.hid (fun w => trap_any er w)
      have HR2 := Lib.hid (HR1.out.quiet hb2)
      have HA2 := Lib.hid (show Below w2.heap.size w2 (w2.alloc (.cells #[.int .i64 0, .int .i64 0, .int .i64 0, .int .i64 0, .int .i64 0] 51)) from (Below.refl _ _).alloc (Nat.le_refl _) _)
      clear q0 f0 hin
      simp only [insO]
      go_wp2_with fail
      refine (HTR.out _).mono ?_
      rintro e w3 ⟨rfl, hb3⟩
      have hb23 := HA2.out.trans (hb3.mono HA2.out.size)
      have HR3 := Lib.hid (HR2.out.quiet hb23)
      have hy := HX.out.below (hb2.trans (hb23.mono hb2.size))
      have e0 := hy.c 0
      have u0 := hy.f 0
      have e1 := hy.c 1
      have u1 := hy.f 1
      have e2 := hy.c 2
      have u2 := hy.f 2
      have e3 := hy.c 3
      have u3 := hy.f 3
      have e4 := hy.c 4
      have u4 := hy.f 4
      simp only [List.getElem?_toArray, List.getElem?_cons_succ, List.getElem?_cons_zero] at e0 e1 e2 e3 e4
      clear hy hb2 hb3 hb23 HA2
      go_wp2_with fail
      (try simp only [Exit.inBlock, Exit.then])
      rw [HM.out]
      refine bodyPost_ret (v := .agg (evA (trapE er))) ?_ rfl ⟨rfl, ?_⟩
      · rw [results_cell_one rfl]
        go_simp
      · (with_reducible refine HEN.out _ _ _ ?_)
        repeat (with_reducible refine HBX.out _ _ _ _ _ ?_)
        with_reducible exact HOF.out _ _ _ HR3.out
    · obtain ⟨rfl, hmay⟩ := instM_some hin
      obtain ⟨op, ia, ib, ic, n⟩ := i
      obtain ⟨ra, rb, rc⟩ := may_regs hmay
      obtain ⟨a, rfl⟩ : ∃ a : Nat, ia = a := ⟨ia.toNat, by omega⟩
      obtain ⟨b, rfl⟩ : ∃ b : Nat, ib = b := ⟨ib.toNat, by omega⟩
      obtain ⟨k, rfl⟩ : ∃ k : Nat, ic = k := ⟨ic.toNat, by omega⟩
      have ha : a < 16 := by omega
      have hb : b < 16 := by omega
      have hk : k < 16 := by omega
      have HM := Lib.hid (show stepM ss c = (if (execM ss (c.to (w64 (c.pc + 8))) ⟨op, a, b, k, n⟩).2.1 = 0 then ((execM ss (c.to (w64 (c.pc + 8))) ⟨op, a, b, k, n⟩).1, (execM ss (c.to (w64 (c.pc + 8))) ⟨op, a, b, k, n⟩).2.2.1, (execM ss (c.to (w64 (c.pc + 8))) ⟨op, a, b, k, n⟩).2.2.2)
        else (trapE (execM ss (c.to (w64 (c.pc + 8))) ⟨op, a, b, k, n⟩).2.1, c, (execM ss (c.to (w64 (c.pc + 8))) ⟨op, a, b, k, n⟩).2.2.2)) by simp [stepM, h0, hin])
      clear q0 f0 ra rb rc hmay hin
      simp only [insO]
      go_upto_region 6 with (fail)
      have hA2 : Below w2.heap.size w2 (w2.alloc (.cells (insA op a b k n) 51)) := (Below.refl _ _).alloc (Nat.le_refl _) _
      have hB3 := Bx.new w2 (insA op a b k n) 51
      have l2 := HL1.out.below hb2
      have m2 := HM1.out.below hb2
      have l3 := l2.below hA2
      have m3 := m2.below hA2
      have b13 := hb2.trans (hA2.mono hb2.size)
      have hF3 : ¬ F w2.heap.size := fun hf => Nat.lt_irrefl _ (l2.lt hf).2
      have hg3 : w2.heap.size ≠ g := Nat.ne_of_gt m2.lt
      have hlt3 := hB3.lt
      change Code.wp _ _ _ _ (w2.alloc (.cells (insA op a b k n) 51))
      generalize w2.alloc (.cells (insA op a b k n) 51) = w3 at *
      generalize w2.heap.size = b3 at *
      clear hA2 hb2 l2 m2 w2
      have HLC := Lib.hid m3.lc
      have HLN := Lib.hid m3.len
      have HZ := Lib.hid (show ctxIn (w3.alloc (.cells #[.int .i64 0, .int .i64 0, .int .i64 0, .int .i64 0, .int .i64 0, .int .i64 0, .int .i64 0, .int .i64 0, .int .i64 0, .int .i64 0, .int .i64 0, .int .i64 0, .int .i64 0, .int .i64 0, .int .i64 0, .int .i64 0, .int .i64 0, .int .i64 0] 26)) w3.heap.size from ctxIn.new w3)
      have HB3 := Lib.hid hB3
      have HL3 := Lib.hid l3
      have HM3 := Lib.hid m3
      have HB13 := Lib.hid b13
      clear hB3 l3 m3 b13
      go_upto_region 7 with (first
        | ((with_reducible refine wpl_load_c HLC.out ?_ ?_); (· rfl))
        | ((with_reducible refine wpl_store_c HZ.out HLN.out ?_ ?_ ?_); (· rfl); (· rfl)))
      have hb4 := (Below.refl w3.heap.size w3).alloc (Nat.le_refl _) (.cells z18 26)
      have hbs := row_beside (w3.alloc (.cells z18 26)) w3.heap.size (cxA c)
      have b34 : Below w3.heap.size w3 ((w3.alloc (.cells z18 26)).setRow w3.heap.size (cxA c)) := ⟨hbs.os.trans hb4.os, hbs.tape.trans hb4.tape, hbs.output.trans hb4.output, Nat.le_trans hb4.size hbs.size, fun k hk => (hbs.block k (Nat.lt_of_lt_of_le hk hb4.size) (Nat.ne_of_lt hk)).trans (hb4.block k hk)⟩
      have c4 := (ctxIn.new w3).row c HLN.out
      change Code.wp _ _ _ _ ((w3.alloc (.cells z18 26)).setRow w3.heap.size (cxA c))
      generalize (w3.alloc (.cells z18 26)).setRow w3.heap.size (cxA c) = w4 at *
      have l4 := HL3.out.below b34
      have m4 := HM3.out.below b34
      have hF4 : ¬ F w3.heap.size := fun hf => Nat.lt_irrefl _ (HL3.out.lt hf).2
      have hg4 : w3.heap.size ≠ g := Nat.ne_of_gt HM3.out.lt
      have h34 : b3 < w3.heap.size := hlt3
      have HB4 := Lib.hid (HB3.out.below b34)
      have b14 := HB13.out.trans (b34.mono HB13.out.size)
      generalize w3.heap.size = b4 at *
      have p0 := m4.pc
      have f0 := m4.fro 0
      clear hb4 hbs b34 HLC HZ HL3 HM3 HB3 HB13
      have HL4 := Lib.hid l4
      have HM4 := Lib.hid m4
      have HB14 := Lib.hid b14
      have HC4 := Lib.hid c4
      clear l4 m4 b14 c4
      go_upto_region 8 with (fail)
      have bc := beside_cell w4 g 0 (.int .i64 (w64 (c.pc + 8)))
      have l5 := HL4.out.beside bc (fun _ hk e => hg (e ▸ hk))
      have m5 := HM4.out.jump (w64 (c.pc + 8))
      have y3 := HB4.out.beside bc hg3
      have c5 := HC4.out.beside bc hg4
      have x4 := (HX.out.below HB14.out).beside bc hng
      have hj : ∀ (X : World) (cx : Cx) (sx : List Seg), Ran (w4.setCell ⟨g, 0, none⟩ (.int .i64 (w64 (c.pc + 8)))) X B g s F cx sx → Ran w1 X B g s F cx sx := fun X cx sx hx =>
        Ran.pre HB14.out (Ran.join (bc.weak fun _ _ hk => .inr hk) (fun _ hk => .inl hk) hx)
      change Code.wp _ _ _ _ (w4.setCell ⟨g, 0, none⟩ (.int .i64 (w64 (c.pc + 8))))
      generalize w4.setCell ⟨g, 0, none⟩ (.int .i64 (w64 (c.pc + 8))) = w5 at *
      have HEX := Lib.hid (execute_any op n a b k l5 m5 hg (show I64 ((c.to (w64 (c.pc + 8))).reg 15) from h15) ha hb hk)
      have q0 := y3.c 0
      have q1 := y3.c 1
      have q2 := y3.c 2
      have q3 := y3.c 3
      have q4 := y3.c 4
      simp only [List.getElem?_toArray, List.getElem?_cons_succ, List.getElem?_cons_zero] at q0 q1 q2 q3 q4
      have hx5 := x4.lt
      have hc5 := c5.lt
      have HJ := Lib.hid hj
      have HX5 := Lib.hid x4
      have HC5 := Lib.hid c5
      clear p0 f0 bc l5 m5 y3 c5 x4 hj HL4 HM4 HB4 HC4 HB14
      go_wp2_with fail
      refine (HEX.out).mono ?_
      rintro e w6 ⟨rfl, hr6⟩
      generalize execM ss (c.to (w64 (c.pc + 8))) ⟨op, a, b, k, n⟩ = X at *
      obtain ⟨ev, er, c2, s2⟩ := X
      simp only at hr6 HM
      have HR6 := Lib.hid (HJ.out _ _ _ hr6)
      have hy := Bx.keep HX5.out (hr6.keep hx5 hnF hng)
      have HC6 := Lib.hid (HC5.out.keep (hr6.keep hc5 hF4 hg4))
      clear q0 q1 q2 q3 q4 hr6 HEX HJ HX5 HC5
      go_upto_region 9 with (fail)
      have hb7 : Below w6.heap.size w6 (w6.alloc (.cells (evA ev) 37)) := (Below.refl _ _).alloc (Nat.le_refl _) _
      have hr7 := HR6.out.quiet hb7
      have hy7 := hy.below hb7
      have hc7 := HC6.out.below hb7
      have z7 := Bx.new w6 (evA ev) 37
      change Code.wp _ _ _ _ (w6.alloc (.cells (evA ev) 37))
      generalize w6.alloc (.cells (evA ev) 37) = w7 at *
      generalize w6.heap.size = b6 at *
      have HR7 := Lib.hid hr7
      have HC7 := Lib.hid hc7
      clear hb7 hy hr7 hc7 HR6 HC6
      by_cases her : er = 0
      · subst her
        have HMM := Lib.hid (show stepM ss c = (ev, c2, s2) by rw [HM.out]; rfl)
        have hy := hy7
        have e0 := hy.c 0
        have u0 := hy.f 0
        have e1 := hy.c 1
        have u1 := hy.f 1
        have e2 := hy.c 2
        have u2 := hy.f 2
        have e3 := hy.c 3
        have u3 := hy.f 3
        have e4 := hy.c 4
        have u4 := hy.f 4
        simp only [List.getElem?_toArray, List.getElem?_cons_succ, List.getElem?_cons_zero] at e0 e1 e2 e3 e4
        have d0 := z7.c 0
        have d1 := z7.c 1
        have d2 := z7.c 2
        have d3 := z7.c 3
        have d4 := z7.c 4
        simp only [List.getElem?_toArray, List.getElem?_cons_succ, List.getElem?_cons_zero] at d0 d1 d2 d3 d4
        clear hy hy7 z7
        go_wp2_with fail
        (try simp only [Exit.inBlock, Exit.then])
        rw [HMM.out]
        refine bodyPost_ret (v := .agg (evA ev)) ?_ rfl ⟨rfl, ?_⟩
        · rw [results_cell_one rfl]
          go_simp
        · (with_reducible refine HEN.out _ _ _ ?_)
          repeat (with_reducible refine HBX.out _ _ _ _ _ ?_)
          with_reducible exact HOF.out _ _ _ HR7.out
      · have her2 : (er == 0) = false := by simpa using her
        have HMM := Lib.hid (show stepM ss c = (trapE er, c, s2) by rw [HM.out]; exact if_neg her)
        have HLC := Lib.hid HC7.out.lc
        have HTR := Lib.hid (fun X => trap_any er X)
        have HLN := Lib.hid HC7.out.len
        clear her
        go_upto_region 11 with (first
          | ((with_reducible refine wpl_load_c HLC.out ?_ ?_); (· rfl))
          | ((with_reducible refine wpl_store_m HR7.out.mach HLN.out ?_ ?_ ?_); (· rfl); (· rfl)))
        have HR8 := Lib.hid (HR7.out.restore' HLN.out)
        have bs8 := setCells_beside g (cxC c) 0 w7
        have hy8 := hy7.beside bs8 hng
        generalize w7.setCells g 0 (cxC c) = w8 at *
        clear bs8 hy7 z7
        go_wp2_with fail
        refine (HTR.out _).mono ?_
        rintro e w9 ⟨rfl, hb9⟩
        have HR9 := Lib.hid (HR8.out.quiet hb9)
        have hy := hy8.below hb9
        have e0 := hy.c 0
        have u0 := hy.f 0
        have e1 := hy.c 1
        have u1 := hy.f 1
        have e2 := hy.c 2
        have u2 := hy.f 2
        have e3 := hy.c 3
        have u3 := hy.f 3
        have e4 := hy.c 4
        have u4 := hy.f 4
        simp only [List.getElem?_toArray, List.getElem?_cons_succ, List.getElem?_cons_zero] at e0 e1 e2 e3 e4
        clear hy hy8 hb9
        go_wp2_with fail
        (try simp only [Exit.inBlock, Exit.then])
        rw [HMM.out]
        refine bodyPost_ret (v := .agg (evA (trapE er))) ?_ rfl ⟨rfl, ?_⟩
        · rw [results_cell_one rfl]
          go_simp
        · (with_reducible refine HEN.out _ _ _ ?_)
          repeat (with_reducible refine HBX.out _ _ _ _ _ ?_)
          with_reducible exact HOF.out _ _ _ HR9.out
end Go.Proofs.YtfkhfjefddgkoaaDoor
