/-
  What the laws of stage 6 share: contexts held against each other, loaded out of a case's box; steps and runs beside both memories.
  CpuEnds, walked.
-/
import Derived.Test.YtfkhfjefddgkoaaDoorZP
import Derived.Test.YtfkhfjefddgkoaaDoorZSBs
import Derived.Laws.StructEq
import Derived.ChangeKeysEq
namespace Go.Proofs.YtfkhfjefddgkoaaDoor
open Go.RowKit

set_option maxRecDepth 100000 in
set_option maxHeartbeats 4000000 in
theorem req_16 (r0 r1 r2 r3 r4 r5 r6 r7 r8 r9 r10 r11 r12 r13 r14 r15 : Int) (w : World) : (Op.equalIn 9999 24 (.agg #[.int .i64 r0, .int .i64 r1, .int .i64 r2, .int .i64 r3, .int .i64 r4, .int .i64 r5, .int .i64 r6, .int .i64 r7, .int .i64 r8, .int .i64 r9, .int .i64 r10, .int .i64 r11, .int .i64 r12, .int .i64 r13, .int .i64 r14, .int .i64 r15]) (.agg #[.int .i64 r0, .int .i64 r1, .int .i64 r2, .int .i64 r3, .int .i64 r4, .int .i64 r5, .int .i64 r6, .int .i64 r7, .int .i64 r8, .int .i64 r9, .int .i64 r10, .int .i64 r11, .int .i64 r12, .int .i64 r13, .int .i64 r14, .int .i64 r15])).run Tryd.prog w = .ok true w := by
  obtain ⟨i, hi⟩ : ∃ i, Tryd.prog.info? 3 = some i := ⟨_, rfl⟩
  have hc : Tryd.prog.cellsOf 3 = 1 := by kernel_rfl
  have hint : ∀ (a : Int) (w : World), (Op.equalIn 9998 3 (.int .i64 a) (.int .i64 a)).run Tryd.prog w = .ok true w := fun a w => by
    rw [run_equalIn_int w 9997 3 .i64 .i64 a a Tryd.underlying3]
    simp
  rw [run_equalIn_array w 9998 _ _ Tryd.underlying24 hi, hc, show List.range 16 = [0, 1, 2, 3, 4, 5, 6, 7, 8, 9, 10, 11, 12, 13, 14, 15] from rfl]
  simp [Op.eqItems, part, hint, go_sem]
set_option maxRecDepth 100000 in
set_option maxHeartbeats 4000000 in
theorem ceq_16 (pc tp r0 r1 r2 r3 r4 r5 r6 r7 r8 r9 r10 r11 r12 r13 r14 r15 : Int) (w : World) : (Op.equalIn 10000 26 (.agg #[.int .i64 pc, .int .i64 tp, .int .i64 r0, .int .i64 r1, .int .i64 r2, .int .i64 r3, .int .i64 r4, .int .i64 r5, .int .i64 r6, .int .i64 r7, .int .i64 r8, .int .i64 r9, .int .i64 r10, .int .i64 r11, .int .i64 r12, .int .i64 r13, .int .i64 r14, .int .i64 r15]) (.agg #[.int .i64 pc, .int .i64 tp, .int .i64 r0, .int .i64 r1, .int .i64 r2, .int .i64 r3, .int .i64 r4, .int .i64 r5, .int .i64 r6, .int .i64 r7, .int .i64 r8, .int .i64 r9, .int .i64 r10, .int .i64 r11, .int .i64 r12, .int .i64 r13, .int .i64 r14, .int .i64 r15])).run Tryd.prog w = .ok true w := by
  have ht : Tryd.prog.underlying 26 = some (.struct (Tryd.prog.fieldsOf 26)) := by kernel_rfl
  have hp : Tryd.prog.stoodInHeld 26 = false := by kernel_rfl
  rw [run_equalIn_agg w 9999 26 _ _ ht hp]
  simp [go_sem, req_16]
theorem ceq_in (c : Cx) (hl : c.rs.length = 16) (w : World) : (Op.equalIn 10000 26 (cxV c) (cxV c)).run Tryd.prog w = .ok true w := by
  obtain ⟨pc, tp, rs⟩ := c
  match rs, hl with
  | [r0, r1, r2, r3, r4, r5, r6, r7, r8, r9, r10, r11, r12, r13, r14, r15], _ => exact ceq_16 pc tp r0 r1 r2 r3 r4 r5 r6 r7 r8 r9 r10 r11 r12 r13 r14 r15 w
theorem ceq_self (c : Cx) (hl : c.rs.length = 16) (w : World) : (binOp .eql 26 (cxV c) (cxV c)).run Tryd.prog w = .ok (.bool true) w := by
  rw [run_eql_struct, ceq_in c hl]
  simp [Result.andThen]
theorem cne_self (c : Cx) (hl : c.rs.length = 16) (w : World) : (binOp .neq 26 (cxV c) (cxV c)).run Tryd.prog w = .ok (.bool false) w := by
  rw [run_neq_struct, ceq_in c hl]
  simp [Result.andThen]
theorem load_co {o : Oper} {a : Act} {w : World} {K : Act → World → Prop} {Q : Exit → Act → World → Prop} {x : Tmp} {b f : Nat} {c : Cx} (ho : o.op = .load 26 (.tmp x)) (hx : a.eval (.tmp x) = .pointer (some ⟨b, f, none⟩)) (hb : w.rangeAt b f (cxC c)) (hl : c.rs.length = 16)
    (h : K (a.put o.dst (cxV c)) w) : o.wp Tryd.prog a w K Q :=
  wp_load_mid 26 _ ho b f hx (cxC c) _ hb Tryd.underlying26 rfl (by rw [cxC_len hl]; exact Tryd.info_ctx) h
theorem Tryd.info_case : (Tryd.prog.info? 28).map (·.size) = some 21 := by kernel_rfl
theorem caseA_size {x : Cs} {A B : Option Addr} {a e : Nat} (hl : x.c.rs.length = 16) : (caseA x A a B e).size = 21 := by
  simp [caseC, cxC_len hl]
theorem load_case {o : Oper} {a : Act} {w : World} {K : Act → World → Prop} {Q : Exit → Act → World → Prop} {t : Tmp} {b : Nat} {x : Cs} {A B : Option Addr} {n e : Nat} (ho : o.op = .load 28 (.tmp t)) (hx : a.eval (.tmp t) = .pointer (some ⟨b, 0, none⟩)) (hb : Bx w b (caseA x A n B e) 28) (hl : x.c.rs.length = 16)
    (h : K (a.put o.dst (caseV x A n B e)) w) : o.wp Tryd.prog a w K Q :=
  wp_load_row 28 _ ho b hx 28 _ (0, 0) _ hb Tryd.underlying28 rfl (by rw [caseA_size hl]; exact Tryd.info_case) h
/-- The context within a case's box. -/
theorem case_ctx {w : World} {b : Nat} {x : Cs} {A B : Option Addr} {n e : Nat} (hb : Bx w b (caseA x A n B e) 28) : w.rangeAt b 3 (cxC x.c) := fun j v hv => by
  rw [hb.c (3 + j), List.getElem?_toArray, caseC, show 3 + j = j + 1 + 1 + 1 by omega, List.getElem?_cons_succ, List.getElem?_cons_succ, List.getElem?_cons_succ]
  exact hv
/-- A case's counter is set. -/
theorem case_jump {w : World} {b : Nat} {x : Cs} {A B : Option Addr} {n e : Nat} (hb : Bx w b (caseA x A n B e) 28) (v : Int) : Bx (w.setCell ⟨b, 3, none⟩ (.int .i64 v)) b (caseA { x with c := x.c.to v } A n B e) 28 := heap_setCell_same w b 3 _ _ (.int .i64 v) hb
/-- A context and an event are laid into new boxes. -/
theorem laid_two (w : World) (c : Cx) (e : Ev) (hl : c.rs.length = 16) :
    ctxIn ((w.alloc (.cells z18 26)).alloc (.cells (evA ⟨0, 0, 0, 0, 0⟩) 37)) w.heap.size ∧
    evIn (((w.alloc (.cells z18 26)).alloc (.cells (evA ⟨0, 0, 0, 0, 0⟩) 37)).setRow w.heap.size (cxA c)) (w.heap.size + 1) ∧
    Cb ((((w.alloc (.cells z18 26)).alloc (.cells (evA ⟨0, 0, 0, 0, 0⟩) 37)).setRow w.heap.size (cxA c)).setRow (w.heap.size + 1) (evA e)) w.heap.size c ∧
    Bx ((((w.alloc (.cells z18 26)).alloc (.cells (evA ⟨0, 0, 0, 0, 0⟩) 37)).setRow w.heap.size (cxA c)).setRow (w.heap.size + 1) (evA e)) (w.heap.size + 1) (evA e) 37 ∧
    Below w.heap.size w ((((w.alloc (.cells z18 26)).alloc (.cells (evA ⟨0, 0, 0, 0, 0⟩) 37)).setRow w.heap.size (cxA c)).setRow (w.heap.size + 1) (evA e)) := by
  obtain ⟨h1, h2, hb⟩ := al_two w z18 (evA ⟨0, 0, 0, 0, 0⟩) 26 37
  unfold al at h1 h2 hb
  have i1 : ctxIn ((w.alloc (.cells z18 26)).alloc (.cells (evA ⟨0, 0, 0, 0, 0⟩) 37)) w.heap.size := ⟨_, h1, rfl⟩
  generalize (w.alloc (.cells z18 26)).alloc (.cells (evA ⟨0, 0, 0, 0, 0⟩) 37) = w1 at *
  have b1 := row_beside w1 w.heap.size (cxA c)
  have c1 := i1.row c hl
  have e1 : Bx (w1.setRow w.heap.size (cxA c)) (w.heap.size + 1) (evA ⟨0, 0, 0, 0, 0⟩) 37 := h2.beside b1 (by omega)
  generalize w1.setRow w.heap.size (cxA c) = w2 at *
  have b2 := row_beside w2 (w.heap.size + 1) (evA e)
  refine ⟨i1, ⟨_, e1⟩, c1.beside b2 (by omega), setRow_heap w2 (w.heap.size + 1) _ _ 37 (0, 0) e1, b2.os.trans (b1.os.trans hb.os), b2.tape.trans (b1.tape.trans hb.tape), b2.output.trans (b1.output.trans hb.output), Nat.le_trans hb.size (Nat.le_trans b1.size b2.size), fun k hk => ?_⟩
  have s1 := hb.size
  have s2 := b1.size
  exact ((b2.block k (by omega) (by omega)).trans (b1.block k (by omega) (by omega))).trans (hb.block k hk)
theorem Lies.base {w : World} {B B' g : Nat} {F : Nat → Prop} {ss : List Seg} (h : Lies w B g F ss) (hB : B' ≤ B) : Lies w B' g F ss := by
  obtain ⟨A, c, rs, p1, p2, p3, p4⟩ := h
  exact ⟨A, c, rs, ⟨Nat.le_trans hB p1.hg, p1.box, own_more p1.own hB, fun r hr => own_more (p1.bytes r hr) hB, p1.short, p1.ne, p1.apart, p1.pair, p1.ord⟩, p2, p3, p4⟩
theorem Mies.base {w : World} {B B' g : Nat} {F : Nat → Prop} {ss : List Seg} (h : Mies w B g F ss) (hB : B' ≤ B) : Mies w B' g F ss := by
  obtain ⟨A, c, rs, p1, p2, p3, p4⟩ := h
  exact ⟨A, c, rs, ⟨Nat.le_trans hB p1.hg, p1.box, own_more p1.own hB, fun r hr => own_more (p1.bytes r hr) hB, p1.full, p1.ne, p1.apart, p1.pair⟩, p2, p3, p4⟩
/-- As seen from an older world: what was there in the younger one is kept. -/
theorem Wm.rebase {w0 w2 w3 : World} {Q : Nat → Prop} {g gm : Nat} {ss sm : List Seg} (hb : Below w0.heap.size w0 w2) (h : Wm w2 w3 Q g ss gm sm) : Wm w0 w3 (fun k => k < w2.heap.size) g ss gm sm := by
  obtain ⟨hb2, F, F', h1, h2, h3, h4⟩ := h
  refine ⟨hb.trans (hb2.mono hb.size), F, F', h1.base hb.size, h2.base hb.size, h3, fun k hk => ⟨Nat.lt_of_lt_of_le hk hb2.size, fun hf => ?_, fun hf => ?_⟩⟩
  · have := (h1.lt hf).1
    omega
  · have := (h2.lt hf).1
    omega
theorem Wm.step {w0 w : World} {Q : Nat → Prop} {g gm : Nat} {ss sm : List Seg} {c : Cx} (h : Wm w0 w Q g ss gm sm) (hok : Okc c) (hs : Cod.Shps w) :
    Calls Tryd.prog 12 #[cxV c, .pointer (some ⟨g, 0, none⟩)] w fun en w' => en = .returned (.tuple #[cxV (stepM ss c).2.1, .agg (evA (stepM ss c).1)]) ∧ Wm w0 w' Q g (stepM ss c).2.2 gm sm ∧ Kept Q w w' := by
  obtain ⟨hb, F, F', h1, h2, h3, h4⟩ := h
  exact (Step_any h1 hok.len hok.pc (hok.reg 15) hs).mono fun e w' hw => ⟨hw.1, Wm.went hb h1 h2 h3 h4 hw.2⟩
theorem Wm.run {w0 w : World} {Q : Nat → Prop} {g gm : Nat} {ss sm : List Seg} {c : Cx} {most : Int} (h : Wm w0 w Q g ss gm sm) (hok : Okc c) (hs : Cod.Shps w0) (hm : I64 most) :
    Calls Tryd.prog 15 #[cxV c, .pointer (some ⟨g, 0, none⟩), .int .i64 most] w fun en w' => en = .returned (.tuple #[cxV (runM most.toNat 0 ss c).2.2.1, .agg (evA (runM most.toNat 0 ss c).1), .int .i64 (runM most.toNat 0 ss c).2.1]) ∧ Wm w0 w' Q g (runM most.toNat 0 ss c).2.2.2 gm sm ∧ Kept Q w w' := by
  obtain ⟨hb, F, F', h1, h2, h3, h4⟩ := h
  exact (Run_any most h1 hok (hs.below hb) hs.pos hm).mono fun e w' hw => ⟨hw.1, Wm.went hb h1 h2 h3 h4 hw.2⟩
theorem Wm.alike6 {w0 w : World} {Q : Nat → Prop} {g gm : Nat} {ss : List Seg} (h : Wm w0 w Q g ss gm ss) :
    Calls Tryd.prog 14 #[.pointer (some ⟨g, 0, none⟩), .pointer (some ⟨gm, 0, none⟩)] w fun e w' => e = .returned (.bool true) ∧ Below w0.heap.size w0 w' := by
  obtain ⟨hb, F, F', h1, h2, _⟩ := h
  exact (alike6_any w0.heap.size g gm ss w ⟨⟨F, h1⟩, F', h2⟩).mono fun e w' hw => ⟨hw.1, hb.trans (hw.2.mono hb.size)⟩
end Go.Proofs.YtfkhfjefddgkoaaDoor

namespace Go.Proofs.YtfkhfjefddgkoaaDoor
open Go.RowKit

theorem Acs.weak {w : World} {P Q : Nat → Prop} {A : Option Addr} {n c : Nat} {xs : List Ac} (h : Acs w P A n c xs) (hk : ∀ k, P k → Q k) : Acs w Q A n c xs :=
  ⟨h.len, h.nil, h.cap, fun ad h1 h2 => hk _ (h.blk ad h1 h2), fun ad hA i hi => by
    obtain ⟨Ai, ci, h1, h2⟩ := h.at_ ad hA i hi
    exact ⟨Ai, ci, ⟨h1.src.weak hk, h1.len, h1.at_, h1.n⟩, h2⟩⟩
theorem CsV.weak {w : World} {P Q : Nat → Prop} {x : Cs} {A B : Option Addr} {a e : Nat} (h : CsV w P x A a B e) (hk : ∀ k, P k → Q k) : CsV w Q x A a B e :=
  ⟨h.acts.weak hk, h.code.weak hk, h.at_, h.ok, h.na, h.nc⟩
/-- Both memories of a law's case, made behind its beginning. -/
theorem law_both {x : Cs} {A : Option Addr} {a : Nat} {B : Option Addr} {e : Nat} {w w2 : World} (h : CsV w (fun k => k < w.heap.size) x A a B e) (hs : Cod.Shps w) (hb : Below w.heap.size w w2) :
    Calls Tryd.prog 11 #[caseV x A a B e] w2 fun en w' => ∃ g gm, en = .returned (.tuple #[.pointer (some ⟨g, 0, none⟩), .pointer (some ⟨gm, 0, none⟩), .bool true]) ∧ Wm w w' (fun k => k < w2.heap.size) g (caseS x) gm (caseS x) ∧ Below w2.heap.size w2 w' :=
  (both_any x A a B e w2 ((h.keep fun k hk _ => hb.block k hk).weak fun _ hk => Nat.lt_of_lt_of_le hk hb.size) (hs.below hb)).mono fun _ _ ⟨g, gm, h1, h2⟩ => ⟨g, gm, h1, h2.rebase hb, h2.1⟩
theorem Wm.more2 {w0 w w' : World} {Q : Nat → Prop} {g gm b d : Nat} {ss sm : List Seg} (h : Wm w0 w Q g ss gm sm) (hb' : Below w.heap.size w w') (h0 : w.heap.size ≤ b) (h1 : b < w'.heap.size) (h2 : w.heap.size ≤ d) (h3 : d < w'.heap.size) : Wm w0 w' (fun k => (Q k ∨ k = b) ∨ k = d) g ss gm sm ∧ Kept Q w w' := by
  obtain ⟨_, q2⟩ := h.more hb' h0 h1
  obtain ⟨hb, F, F', p1, p2, p3, p4⟩ := h
  refine ⟨⟨hb.trans (hb'.mono hb.size), F, F', p1.below hb', p2.below hb', p3, fun k hk => ?_⟩, q2⟩
  rcases hk with (hk | rfl) | rfl
  · exact ⟨Nat.lt_of_lt_of_le (p4 k hk).1 hb'.size, (p4 k hk).2⟩
  · exact ⟨h1, fun hf => by have := (p1.lt hf).2; omega, fun hf => by have := (p2.lt hf).2; omega⟩
  · exact ⟨h3, fun hf => by have := (p1.lt hf).2; omega, fun hf => by have := (p2.lt hf).2; omega⟩
theorem stepM_zero {ss : List Seg} {c : Cx} (h : c.pc = 0) : stepM ss c = (⟨1, 0, 0, 0, 0⟩, c, ss) := by simp [stepM, h]
theorem runM_zero {ss : List Seg} {c : Cx} (h : c.pc = 0) : ∀ k : Nat, runM k 0 ss c = (⟨1, 0, 0, 0, 0⟩, 0, c, ss)
  | 0 => by simp [runM, restE, h]
  | k + 1 => by simp [runM, stepM_zero h]
/-- A case whose counter is 0. -/
def Cs.rest (x : Cs) : Cs := { x with c := x.c.to 0 }
set_option maxRecDepth 100000 in
set_option maxHeartbeats 8000000 in
theorem ends_any (x : Cs) (A : Option Addr) (a : Nat) (B : Option Addr) (e : Nat) (w : World) (h : CsV w (fun k => k < w.heap.size) x A a B e) (most : Int) (hm : I64 most) (hs : Cod.Shps w) :
    Calls Tryd.prog 8 #[caseV x A a B e, .int .i64 most] w fun en w' => en = .returned (.bool true) ∧ Below w.heap.size w w' := by
  have HS := Lib.hid hs
  have HMO := Lib.hid hm
  have HLN := Lib.hid h.ok.len
  have HOK := Lib.hid (h.ok.to (v := 0) i64_zero)
  have HLB := Lib.hid (fun (w2 : World) (hb : Below w.heap.size w w2) => law_both h hs hb)
  clear h hs hm
  go_enter Tryd.func8, Tryd.ntmps8
  go_upto_region 1 with (fail)
  have hb1 : Below w.heap.size w (w.alloc (.cells (caseA x A a B e) 28)) := (Below.refl _ _).alloc (Nat.le_refl _) _
  have hx1 := Bx.new w (caseA x A a B e) 28
  change Code.wp _ _ _ _ (w.alloc (.cells (caseA x A a B e) 28))
  generalize w.alloc (.cells (caseA x A a B e) 28) = w1 at *
  have HA := Lib.hid (awake6_any w1 (HS.out.below hb1))
  have HX1 := Lib.hid hx1
  have HB1 := Lib.hid hb1
  clear hx1 hb1
  go_upto_region 2 with (fail)
  refine HA.out.mono ?_
  rintro en w2 ⟨rfl, hb2⟩
  have HX2 := Lib.hid (HX1.out.below hb2)
  have HB2 := Lib.hid (HB1.out.trans (hb2.mono HB1.out.size))
  have hlt2 : w.heap.size < w2.heap.size := HX2.out.lt
  clear hb2 HA HX1 HB1
  have HC := Lib.hid (HLB.out w2 HB2.out)
  go_upto_region 5 with (first
    | ((with_reducible refine load_case (by rfl) ?_ HX2.out HLN.out ?_); (· rfl))
    | (go_at_call 11; refine (HC.out).mono ?_; rintro en w3 ⟨g, gm, rfl, hw3, hb3⟩; have HW3 := Lib.hid (hw3.less (Q' := fun k => k = w.heap.size) fun k hk => by subst hk; exact hlt2); have HX3 := Lib.hid (HX2.out.below hb3); clear hw3 hb3 HC))
  generalize caseS x = S at *
  have q3 : w3.cell? ⟨w.heap.size, 3, none⟩ = some (.int .i64 x.c.pc) := HX3.out.c 3
  have f3 : w3.frozen? ⟨w.heap.size, 3, none⟩ = false := HX3.out.f 3
  go_upto_region 6 with (fail)
  have HW4 := Lib.hid (HW3.out.stir (beside_cell w3 w.heap.size 3 (.int .i64 0)) (fun q hq => ⟨hq, by subst hq; exact Nat.le_refl _⟩))
  have HX4 := Lib.hid (case_jump HX3.out 0)
  change Code.wp _ _ _ _ (w3.setCell ⟨w.heap.size, 3, none⟩ (.int .i64 0))
  generalize w3.setCell ⟨w.heap.size, 3, none⟩ (.int .i64 0) = w4 at *
  clear q3 f3 HW3 HX3 HX2 HB2 HLB hlt2
  generalize w.heap.size = bx at *
  have HRG := Lib.hid (case_ctx HX4.out)
  have HLC := Lib.hid (show (x.c.to 0).rs.length = 16 from HLN.out)
  generalize hc0 : x.c.to 0 = c0 at *
  have hpc : c0.pc = 0 := by rw [← hc0]; rfl
  have HST := Lib.hid (show Calls Tryd.prog 12 #[cxV c0, .pointer (some ⟨g, 0, none⟩)] w4 fun en w' => en = .returned (.tuple #[cxV c0, .agg (evA ⟨1, 0, 0, 0, 0⟩)]) ∧ Wm w w' (fun k => k = bx) g S gm S ∧ Kept (fun k => k = bx) w4 w' from by
    have := HW4.out.step (c := c0) HOK.out (HS.out.below HW4.out.1)
    rw [stepM_zero hpc] at this
    exact this)
  go_upto_region 7 with (first
    | ((with_reducible refine load_co (by rfl) ?_ HRG.out HLC.out ?_); (· rfl))
    | (go_at_call 12; refine (HST.out).mono ?_; rintro en w5 ⟨rfl, hw5, hk5⟩; have HW5 := Lib.hid hw5; have HX5 := Lib.hid (HX4.out.kept hk5 rfl); have HCI := Lib.hid (laid_two w5 c0 ⟨1, 0, 0, 0, 0⟩ HLC.out).1; have HEI := Lib.hid (laid_two w5 c0 ⟨1, 0, 0, 0, 0⟩ HLC.out).2.1; clear hw5 hk5 HST)
    | ((with_reducible refine store_c (c := c0) (by rfl) ?_ ?_ HCI.out HLC.out ?_); (· rfl); (· rfl))
    | ((with_reducible refine store_e (e := ⟨1, 0, 0, 0, 0⟩) (by rfl) ?_ ?_ HEI.out ?_); (· rfl); (· rfl)))
  obtain ⟨_, _, hc6, he6, hb6⟩ := laid_two w5 c0 ⟨1, 0, 0, 0, 0⟩ HLC.out
  change Code.wp _ _ _ _ ((((w5.alloc (.cells z18 26)).alloc (.cells (evA ⟨0, 0, 0, 0, 0⟩) 37)).setRow w5.heap.size (cxA c0)).setRow (w5.heap.size + 1) (evA ⟨1, 0, 0, 0, 0⟩))
  generalize (((w5.alloc (.cells z18 26)).alloc (.cells (evA ⟨0, 0, 0, 0, 0⟩) 37)).setRow w5.heap.size (cxA c0)).setRow (w5.heap.size + 1) (evA ⟨1, 0, 0, 0, 0⟩) = w6 at *
  have HW6 := Lib.hid (HW5.out.more2 hb6 (b := w5.heap.size) (d := w5.heap.size + 1) (Nat.le_refl _) hc6.lt (Nat.le_succ _) he6.lt).1
  have HX6 := Lib.hid (HX5.out.below hb6)
  have HC6 := Lib.hid hc6
  have HE6 := Lib.hid he6
  clear hb6 hc6 he6 HCI HEI HW5 HX5 HW4 HX4 HRG
  generalize w5.heap.size + 1 = b10 at *
  generalize w5.heap.size = b9 at *
  have HRG6 := Lib.hid (show w6.rangeAt bx 3 (cxC c0) from case_ctx HX6.out)
  have HRU := Lib.hid (show Calls Tryd.prog 15 #[cxV c0, .pointer (some ⟨g, 0, none⟩), .int .i64 most] w6 fun en w' => en = .returned (.tuple #[cxV c0, .agg (evA ⟨1, 0, 0, 0, 0⟩), .int .i64 0]) ∧ Wm w w' (fun k => (k = bx ∨ k = b9) ∨ k = b10) g S gm S ∧ Kept (fun k => (k = bx ∨ k = b9) ∨ k = b10) w6 w' from by
    have := HW6.out.run (c := c0) (most := most) HOK.out HS.out HMO.out
    rw [runM_zero hpc] at this
    exact this)
  go_upto_region 8 with (first
    | ((with_reducible refine load_co (by rfl) ?_ HRG6.out HLC.out ?_); (· rfl))
    | (go_at_call 15; refine (HRU.out).mono ?_; rintro en w7 ⟨rfl, hw7, hk7⟩; have HW7 := Lib.hid hw7; have HX7 := Lib.hid (HX6.out.kept hk7 (.inl (.inl rfl))); have HC7 := Lib.hid (HC6.out.keep (hk7 b9 (.inl (.inr rfl)))); have HE7 := Lib.hid (HE6.out.kept hk7 (.inr rfl)); have HCI := Lib.hid (laid_two w7 c0 ⟨1, 0, 0, 0, 0⟩ HLC.out).1; have HEI := Lib.hid (laid_two w7 c0 ⟨1, 0, 0, 0, 0⟩ HLC.out).2.1; clear hw7 hk7 HRU)
    | ((with_reducible refine store_c (c := c0) (by rfl) ?_ ?_ HCI.out HLC.out ?_); (· rfl); (· rfl))
    | ((with_reducible refine store_e (e := ⟨1, 0, 0, 0, 0⟩) (by rfl) ?_ ?_ HEI.out ?_); (· rfl); (· rfl)))
  obtain ⟨_, _, hc8, he8, hb8⟩ := laid_two w7 c0 ⟨1, 0, 0, 0, 0⟩ HLC.out
  change Code.wp _ _ _ _ ((((w7.alloc (.cells z18 26)).alloc (.cells (evA ⟨0, 0, 0, 0, 0⟩) 37)).setRow w7.heap.size (cxA c0)).setRow (w7.heap.size + 1) (evA ⟨1, 0, 0, 0, 0⟩))
  generalize (((w7.alloc (.cells z18 26)).alloc (.cells (evA ⟨0, 0, 0, 0, 0⟩) 37)).setRow w7.heap.size (cxA c0)).setRow (w7.heap.size + 1) (evA ⟨1, 0, 0, 0, 0⟩) = w8 at *
  have HW8 := Lib.hid ((HW7.out.quiet hb8).1.less (Q' := fun _ => False) fun _ hk => hk.elim)
  have HX8 := Lib.hid (HX7.out.below hb8)
  have HC8 := Lib.hid (HC7.out.below hb8)
  have HE8 := Lib.hid (HE7.out.below hb8)
  have HC8' := Lib.hid hc8
  have HE8' := Lib.hid he8
  clear hb8 hc8 he8 HCI HEI HW7 HX7 HC7 HE7 HW6 HX6 HC6 HE6 HRG6
  generalize w7.heap.size + 1 = b12 at *
  generalize w7.heap.size = b11 at *
  go_upto_region 9 with (fail)
  have hb9 : Below w8.heap.size w8 (w8.alloc (.cells (evA ⟨1, 0, 0, 0, 0⟩) 37)) := (Below.refl _ _).alloc (Nat.le_refl _) _
  have hz9 := Bx.new w8 (evA ⟨1, 0, 0, 0, 0⟩) 37
  change Code.wp _ _ _ _ (w8.alloc (.cells (evA ⟨1, 0, 0, 0, 0⟩) 37))
  generalize w8.alloc (.cells (evA ⟨1, 0, 0, 0, 0⟩) 37) = w9 at *
  have HAL := Lib.hid (HW8.out.quiet hb9).1.alike6
  have HRG9 := Lib.hid (show w9.rangeAt bx 3 (cxC c0) from case_ctx (HX8.out.below hb9))
  have HC9 := Lib.hid (HC8.out.below hb9).lc
  have HE9 := Lib.hid (HE8.out.below hb9)
  have HC9' := Lib.hid (HC8'.out.below hb9).lc
  have HE9' := Lib.hid (HE8'.out.below hb9)
  have hceq := ceq_self c0 HLC.out
  have z0 : w9.cell? ⟨w8.heap.size, 0, none⟩ = some (.int .i64 1) := hz9.c 0
  have z1 : w9.cell? ⟨w8.heap.size, 1, none⟩ = some (.int .i64 0) := hz9.c 1
  have z2 : w9.cell? ⟨w8.heap.size, 2, none⟩ = some (.int .i64 0) := hz9.c 2
  have z3 : w9.cell? ⟨w8.heap.size, 3, none⟩ = some (.int .i64 0) := hz9.c 3
  have z4 : w9.cell? ⟨w8.heap.size, 4, none⟩ = some (.int .i64 0) := hz9.c 4
  clear hb9 hz9 HW8 HX8 HC8 HE8 HC8' HE8'
  generalize w8.heap.size = b14 at *
  go_upto_region 99 with (first
    | ((with_reducible refine load_co (by rfl) ?_ HRG9.out HLC.out ?_); (· rfl))
    | ((with_reducible refine load_c (by rfl) ?_ HC9.out ?_); (· rfl))
    | ((with_reducible refine load_c (by rfl) ?_ HC9'.out ?_); (· rfl))
    | ((with_reducible refine load_e (by rfl) ?_ HE9.out ?_); (· rfl))
    | ((with_reducible refine load_e (by rfl) ?_ HE9'.out ?_); (· rfl))
    | (go_at_call 14; refine (HAL.out).mono ?_; rintro en w10 ⟨rfl, hb10⟩; have HB10 := Lib.hid hb10; clear hb10))
  first | go_ret | skip
  exact ⟨rfl, HB10.out⟩
end Go.Proofs.YtfkhfjefddgkoaaDoor
