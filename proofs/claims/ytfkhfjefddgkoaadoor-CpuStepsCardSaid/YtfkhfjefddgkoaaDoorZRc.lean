/-
  The document's machine: what stands at an address, and what is told or asked.
  The document's machine: what is told or asked, loaded, called.
-/
import Derived.Test.YtfkhfjefddgkoaaDoorZRa
namespace Go.Proofs.YtfkhfjefddgkoaaDoor
open Go.RowKit

abbrev iA (i : Ins) : Array Value := #[.int .i64 i.op, .int .i64 i.a, .int .i64 i.b, .int .i64 i.c, .int .i64 i.n]
def iz : Ins := ⟨0, 0, 0, 0, 0⟩
def insD (ss : List Seg) (c : Cx) : Ins := (instM ss c).2.getD iz
theorem Tryd.info_ins : (Tryd.prog.info? 51).map (·.size) = some 5 := by kernel_rfl
def insIn (w : World) (b : Nat) : Prop := ∃ i : Ins, Bx w b (iA i) 51
theorem load_i {o : Oper} {a : Act} {w : World} {K : Act → World → Prop} {Q : Exit → Act → World → Prop} {x : Tmp} {b : Nat} {i : Ins} (ho : o.op = .load 51 (.tmp x)) (hx : a.eval (.tmp x) = .pointer (some ⟨b, 0, none⟩)) (hb : Bx w b (iA i) 51)
    (h : K (a.put o.dst (.agg (iA i))) w) : o.wp Tryd.prog a w K Q :=
  wp_load_row 51 _ ho b hx 51 _ (0, 0) _ hb Tryd.underlying51 rfl Tryd.info_ins h
theorem store_i {o : Oper} {a : Act} {w : World} {K : Act → World → Prop} {Q : Exit → Act → World → Prop} {x y : Tmp} {b : Nat} {i : Ins} (ho : o.op = .store 51 (.tmp x) (.tmp y)) (hx : a.eval (.tmp x) = .pointer (some ⟨b, 0, none⟩)) (hy : a.eval (.tmp y) = .agg (iA i)) (hb : insIn w b)
    (h : K (a.put o.dst undef) (w.setRow b (iA i))) : o.wp Tryd.prog a w K Q := by
  obtain ⟨i0, hb⟩ := hb
  exact wp_store_row 51 _ _ ho b _ hx hy 51 _ hb Tryd.info_ins rfl (by simp [Value.oneCell']) h
theorem ins_value {w : World} {b : Nat} {i : Ins} (h : Bx w b (iA i) 51) : (loadVar 51 ⟨b, 0, none⟩).run Tryd.prog w = .ok (.agg (iA i)) w :=
  run_loadVar_row w b 51 51 _ (0, 0) _ h Tryd.underlying51 rfl Tryd.info_ins
theorem back_i {fn : Func} {p r : Tmp} (hf : fn.results = #[.cell p 51, .tmp r]) {tmps : Array Value} {w : World} {b : Nat} {i : Ins} {x : Value} (hp : tmps.getD p undef = .pointer (some ⟨b, 0, none⟩)) (hr : tmps.getD r undef = x)
    (hb : Bx w b (iA i) 51) : (results fn tmps).run Tryd.prog w = .ok (.tuple #[.agg (iA i), x]) w := by
  rw [results_cell_tmp hf, hp, hr]
  simp [asAddr, ins_value hb]
theorem back_e {fn : Func} {p r : Tmp} (hf : fn.results = #[.cell p 37, .tmp r]) {tmps : Array Value} {w : World} {b : Nat} {e : Ev} {x : Value} (hp : tmps.getD p undef = .pointer (some ⟨b, 0, none⟩)) (hr : tmps.getD r undef = x)
    (hb : Bx w b (evA e) 37) : (results fn tmps).run Tryd.prog w = .ok (.tuple #[.agg (evA e), x]) w := by
  rw [results_cell_tmp hf, hp, hr]
  simp [asAddr, ev_value hb]
theorem insIn.laid {w : World} {b : Nat} (h : insIn w b) (i : Ins) : Bx (w.setRow b (iA i)) b (iA i) 51 ∧ Beside w (w.setRow b (iA i)) (fun k => k = b) := by
  obtain ⟨i0, h⟩ := h
  exact ⟨setRow_heap w b _ _ 51 (0, 0) h, row_beside w b _⟩
theorem laid_below1 {w0 w w' : World} {b : Nat} (h : Below w0.heap.size w0 w) (hb : Beside w w' (fun k => k = b)) (h1 : w0.heap.size ≤ b) : Below w0.heap.size w0 w' :=
  ⟨hb.os.trans h.os, hb.tape.trans h.tape, hb.output.trans h.output, Nat.le_trans h.size hb.size, fun k hk => (hb.block k (Nat.lt_of_lt_of_le hk h.size) (by omega)).trans (h.block k hk)⟩
theorem eight_of {l : Cod.Str} (h : l.length = 8) : ∃ x0 x1 x2 x3 x4 x5 x6 x7, l = [x0, x1, x2, x3, x4, x5, x6, x7] :=
  match l, h with
  | [x0, x1, x2, x3, x4, x5, x6, x7], _ => ⟨x0, x1, x2, x3, x4, x5, x6, x7, rfl⟩
set_option maxRecDepth 100000 in
set_option maxHeartbeats 2000000 in
theorem told_any {w : World} {B g : Nat} {F : Nat → Prop} {c : Cx} {ss : List Seg} (h : Mies w B g F ss) (hp : I64 c.pc) :
    Calls Tryd.prog 27 #[cxV c, .pointer (some ⟨g, 0, none⟩)] w fun en w' => en = .returned (.tuple #[.agg (iA (insD ss c)), .int .i64 (instM ss c).1]) ∧ Below w.heap.size w w' := by
  go_enter Tryd.func27, Tryd.ntmps27
  go_upto_region 1 with (fail)
  obtain ⟨hc1, hi1, hb⟩ := al_two w (cxA c) (iA iz) 26 51
  change Code.wp _ _ _ _ (al (al w (cxA c) 26) (iA iz) 51)
  have h1 := h.below hb
  generalize al (al w (cxA c) 26) (iA iz) 51 = w1 at *
  have q0 : w1.cell? ⟨w.heap.size, 0, none⟩ = some (.int .i64 c.pc) := hc1.c 0
  have HGT := Lib.hid ((Get_m 8 hp (p := 4) (by omega) h1).mono fun e w' (ht : TookS w1 ss c.pc 8 4 e w') => show ∃ A k, e = .returned (.tuple #[.slice A (readS ss c.pc 8 4).length k, .int .i64 (goesS ss c.pc 8 4)]) ∧ Src w' (fun _ => True) A (readS ss c.pc 8 4).length k (cells (readS ss c.pc 8 4)) ∧ Below w1.heap.size w1 w' by
    obtain ⟨A, k, e1, e2, e3⟩ := ht.read
    exact ⟨A, k, e1, (Src.of_own e2).weak fun _ _ => trivial, e3⟩)
  have HB1 := Lib.hid hb
  have HI1 := Lib.hid hi1
  have HLT := Lib.hid hi1.lt
  clear h h1 hb hi1 hc1
  by_cases hg : goesS ss c.pc 8 4 = 0
  · have hrd : readS ss c.pc 8 4 = gotS ss c.pc 8 := by unfold readS; rw [if_pos hg]
    obtain ⟨x0, x1, x2, x3, x4, x5, x6, x7, h8⟩ := eight_of (gotS_len hg)
    have HIM := Lib.hid (show instM ss c = if Cod.mayB (Cod.insOf x0 x1 x2 x3 x4 x5 x6 x7) = true then (0, some (Cod.insOf x0 x1 x2 x3 x4 x5 x6 x7)) else (40, none) by simp [instM, hg, h8, Cod.decI])
    rw [hrd, h8, hg] at HGT
    simp only [List.length_cons, List.length_nil, Nat.zero_add, Nat.reduceAdd] at HGT
    clear hrd hg h8
    go_upto_region 4 with (first
      | (go_at_call 38; refine (HGT.out).mono ?_; rintro en w2 ⟨A, k, rfl, hs2, hb2⟩; have HRD := Lib.hid (Cod.rread_any _ A 8 k x0 x1 x2 x3 x4 x5 x6 x7 [] w2 hs2); have HB2 := Lib.hid (HB1.out.trans (hb2.mono HB1.out.size)); have HI2 := Lib.hid (HI1.out.below hb2); clear hs2 hb2))
    clear HGT q0 HB1 HI1
    generalize hio : Cod.insOf x0 x1 x2 x3 x4 x5 x6 x7 = i at *
    clear hio
    go_upto_region 5 with (first
      | (go_at_call 67; refine (HRD.out).mono ?_; rintro en w3 ⟨rfl, hb3⟩; have HB3 := Lib.hid (HB2.out.trans (hb3.mono HB2.out.size)); have HI3 := Lib.hid (HI2.out.below hb3); clear hb3))
    change Code.wp _ _ _ _ (w3.alloc (.cells (iA i) 51))
    have hb34 : Below w3.heap.size w3 (w3.alloc (.cells (iA i) 51)) := (Below.refl _ _).alloc (Nat.le_refl _) _
    have hs3 := HB3.out.size
    have HB4 := Lib.hid (HB3.out.trans (hb34.mono hs3))
    have HI4 := Lib.hid (HI3.out.below hb34)
    have HJ4 := Lib.hid (Bx.new w3 (iA i) 51)
    have HIN4 := Lib.hid (show insIn (w3.alloc (.cells (iA i) 51)) (w.heap.size + 1) from ⟨_, HI4.out⟩)
    clear hb34 HRD HI2 HB2 HI3 HB3 hs3
    generalize w3.alloc (.cells (iA i) 51) = w4 at *
    by_cases hm : Cod.mayB i = true
    · rw [hm]
      have HE := Lib.hid (show insD ss c = i ∧ (instM ss c).1 = 0 by unfold insD; rw [HIM.out, if_pos hm]; exact ⟨rfl, rfl⟩)
      go_upto_region 99 with (first
        | ((with_reducible refine load_i (by rfl) ?_ HJ4.out ?_); (· rfl))
        | ((with_reducible refine store_i (i := i) (by rfl) ?_ ?_ HIN4.out ?_); (· rfl); (· rfl)))
      obtain ⟨hk, hbk⟩ := HIN4.out.laid i
      refine bodyPost_ret (v := .tuple #[.agg (iA i), .int .i64 0]) (back_i rfl (by rfl) (by rfl) hk) rfl ?_
      rw [HE.out.1, HE.out.2]
      exact ⟨rfl, laid_below1 HB4.out hbk (Nat.le_succ _)⟩
    · have hm2 : Cod.mayB i = false := by simpa using hm
      rw [hm2]
      have HE := Lib.hid (show insD ss c = iz ∧ (instM ss c).1 = 40 by unfold insD; rw [HIM.out, if_neg hm]; exact ⟨rfl, rfl⟩)
      go_upto_region 99 with (first
        | ((with_reducible refine store_i (i := iz) (by rfl) ?_ ?_ HIN4.out ?_); (· rfl); (· rfl)))
      obtain ⟨hk, hbk⟩ := HIN4.out.laid iz
      refine bodyPost_ret (v := .tuple #[.agg (iA iz), .int .i64 40]) (back_i rfl (by rfl) (by rfl) hk) rfl ?_
      rw [HE.out.1, HE.out.2]
      exact ⟨rfl, laid_below1 HB4.out hbk (Nat.le_succ _)⟩
  · have HE := Lib.hid (show insD ss c = iz ∧ (instM ss c).1 = goesS ss c.pc 8 4 by unfold insD; simp [instM, hg])
    have hg2 : (goesS ss c.pc 8 4 == 0) = false := by simpa using hg
    have hg3 : (goesS ss c.pc 8 4 != 0) = true := by simpa using hg
    clear hg
    generalize goesS ss c.pc 8 4 = er at *
    generalize readS ss c.pc 8 4 = rd at *
    go_upto_region 99 with (first
      | (go_at_call 38; refine (HGT.out).mono ?_; rintro en w2 ⟨A, k, rfl, hs2, hb2⟩; have HB2 := Lib.hid (HB1.out.trans (hb2.mono HB1.out.size)); have HI2 := Lib.hid (show insIn w2 (w.heap.size + 1) from ⟨_, HI1.out.below hb2⟩); clear hs2 hb2)
      | ((with_reducible refine store_i (i := iz) (by rfl) ?_ ?_ HI2.out ?_); (· rfl); (· rfl)))
    obtain ⟨hk, hbk⟩ := HI2.out.laid iz
    refine bodyPost_ret (v := .tuple #[.agg (iA iz), .int .i64 er]) (back_i rfl (by rfl) (by rfl) hk) rfl ?_
    rw [HE.out.1, HE.out.2]
    exact ⟨rfl, laid_below1 HB2.out hbk (Nat.le_succ _)⟩
end Go.Proofs.YtfkhfjefddgkoaaDoor

namespace Go.Proofs.YtfkhfjefddgkoaaDoor
open Go.RowKit

abbrev ez : Ev := ⟨0, 0, 0, 0, 0⟩
/-- What comes of an instruction that fails with e, and else has led to d. -/
def outD (e : Int) (d was : Cx) : Cx × Ev := if e = 0 then (d, ez) else (was, trapE e)
def askD (c : Cx) (i : Ins) : Ev × Bool :=
  if i.op = 19 then (⟨2, c.reg i.a, 0, 0, 0⟩, true)
  else if i.op = 21 then (⟨3, 0, i.a, i.b, 0⟩, true)
  else if i.op = 22 then (⟨4, i.n, 0, 0, 0⟩, true)
  else (ez, false)
theorem laid_e {w : World} {b : Nat} (h : evIn w b) (e : Ev) : Bx (w.setRow b (evA e)) b (evA e) 37 ∧ Beside w (w.setRow b (evA e)) (fun k => k = b) := by
  obtain ⟨e0, h⟩ := h
  exact ⟨setRow_heap w b _ _ 37 (0, 0) h, row_beside w b _⟩
set_option maxRecDepth 100000 in
set_option maxHeartbeats 2000000 in
theorem asked_any (op n : Int) (a b k : Nat) (ha : a < 16) (c : Cx) (hl : c.rs.length = 16) (w : World) :
    Calls Tryd.prog 30 #[.agg (iA ⟨op, a, b, k, n⟩), cxV c] w fun en w' => en = .returned (.tuple #[.agg (evA (askD c ⟨op, a, b, k, n⟩).1), .bool (askD c ⟨op, a, b, k, n⟩).2]) ∧ Below w.heap.size w w' := by
  go_enter Tryd.func30, Tryd.ntmps30
  go_upto_region 1 with (fail)
  obtain ⟨h0, h1, h2, hb⟩ := al_three w (iA ⟨op, a, b, k, n⟩) (cxA c) (evA ez) 51 26 37
  change Code.wp _ _ _ _ (al (al (al w (iA ⟨op, a, b, k, n⟩) 51) (cxA c) 26) (evA ez) 37)
  generalize al (al (al w (iA ⟨op, a, b, k, n⟩) 51) (cxA c) 26) (evA ez) 37 = w1 at *
  have HEI := Lib.hid (show evIn w1 (w.heap.size + 1 + 1) from ⟨_, h2⟩)
  have HB := Lib.hid hb
  have q0 : w1.cell? ⟨w.heap.size, 0, none⟩ = some (.int .i64 op) := h0.c 0
  have q1 : w1.cell? ⟨w.heap.size, 1, none⟩ = some (.int .i64 (a : Int)) := h0.c 1
  have q2 : w1.cell? ⟨w.heap.size, 2, none⟩ = some (.int .i64 (b : Int)) := h0.c 2
  have q4 : w1.cell? ⟨w.heap.size, 4, none⟩ = some (.int .i64 n) := h0.c 4
  have r0 := (show Cb w1 (w.heap.size + 1) c from ⟨h1, hl⟩).at_ a ha
  have p0 : (0 : Int) ≤ (a : Int) := by omega
  have p1 : (a : Int) < 16 := by omega
  clear h0 h1 h2 hb
  by_cases h19 : op = 19
  · subst h19
    have HA := Lib.hid (show askD c ⟨19, a, b, k, n⟩ = (⟨2, c.reg (a : Int), 0, 0, 0⟩, true) from rfl)
    generalize c.reg (a : Int) = v at *
    go_upto_region 99 with (first
      | ((with_reducible refine store_e (e := ⟨2, v, 0, 0, 0⟩) (by rfl) ?_ ?_ HEI.out ?_); (· rfl); (· rfl)))
    obtain ⟨hk, hbk⟩ := laid_e HEI.out ⟨2, v, 0, 0, 0⟩
    refine bodyPost_ret (v := .tuple #[.agg (evA ⟨2, v, 0, 0, 0⟩), .bool true]) (back_e rfl (by rfl) (by rfl) hk) rfl ?_
    rw [HA.out]
    exact ⟨rfl, laid_below1 HB.out hbk (by omega)⟩
  by_cases h21 : op = 21
  · subst h21
    have HA := Lib.hid (show askD c ⟨21, a, b, k, n⟩ = (⟨3, 0, a, b, 0⟩, true) from rfl)
    go_upto_region 99 with (first
      | ((with_reducible refine store_e (e := ⟨3, 0, a, b, 0⟩) (by rfl) ?_ ?_ HEI.out ?_); (· rfl); (· rfl)))
    obtain ⟨hk, hbk⟩ := laid_e HEI.out ⟨3, 0, a, b, 0⟩
    refine bodyPost_ret (v := .tuple #[.agg (evA ⟨3, 0, a, b, 0⟩), .bool true]) (back_e rfl (by rfl) (by rfl) hk) rfl ?_
    rw [HA.out]
    exact ⟨rfl, laid_below1 HB.out hbk (by omega)⟩
  by_cases h22 : op = 22
  · subst h22
    have HA := Lib.hid (show askD c ⟨22, a, b, k, n⟩ = (⟨4, n, 0, 0, 0⟩, true) from rfl)
    go_upto_region 99 with (first
      | ((with_reducible refine store_e (e := ⟨4, n, 0, 0, 0⟩) (by rfl) ?_ ?_ HEI.out ?_); (· rfl); (· rfl)))
    obtain ⟨hk, hbk⟩ := laid_e HEI.out ⟨4, n, 0, 0, 0⟩
    refine bodyPost_ret (v := .tuple #[.agg (evA ⟨4, n, 0, 0, 0⟩), .bool true]) (back_e rfl (by rfl) (by rfl) hk) rfl ?_
    rw [HA.out]
    exact ⟨rfl, laid_below1 HB.out hbk (by omega)⟩
  · have HA := Lib.hid (show askD c ⟨op, a, b, k, n⟩ = (ez, false) by simp [askD, h19, h21, h22])
    have g1 : (op == 19) = false := by simpa using h19
    have g2 : (op == 21) = false := by simpa using h21
    have g3 : (op == 22) = false := by simpa using h22
    clear h19 h21 h22
    go_upto_region 99 with (first
      | ((with_reducible refine store_e (e := ez) (by rfl) ?_ ?_ HEI.out ?_); (· rfl); (· rfl)))
    obtain ⟨hk, hbk⟩ := laid_e HEI.out ez
    refine bodyPost_ret (v := .tuple #[.agg (evA ez), .bool false]) (back_e rfl (by rfl) (by rfl) hk) rfl ?_
    rw [HA.out]
    exact ⟨rfl, laid_below1 HB.out hbk (by omega)⟩
theorem al_four (w : World) (a b c d : Array Value) (t u v x : TypeId) : Bx (al (al (al (al w a t) b u) c v) d x) w.heap.size a t ∧ Bx (al (al (al (al w a t) b u) c v) d x) (w.heap.size + 1) b u ∧ Bx (al (al (al (al w a t) b u) c v) d x) (w.heap.size + 1 + 1) c v ∧ Bx (al (al (al (al w a t) b u) c v) d x) (w.heap.size + 1 + 1 + 1) d x ∧ Below w.heap.size w (al (al (al (al w a t) b u) c v) d x) := by
  obtain ⟨h1, h2, h3, h4⟩ := al_three w a b c t u v
  refine ⟨h1.alloc _, h2.alloc _, h3.alloc _, ?_, h4.alloc (by rw [al_size, al_size, al_size]; omega) _⟩
  have := Bx.new (al (al (al w a t) b u) c v) d x
  rw [al_size, al_size, al_size] at this
  exact this
set_option maxRecDepth 100000 in
set_option maxHeartbeats 2000000 in
theorem loaded_any {w : World} {B g : Nat} {F : Nat → Prop} {c was : Cx} {ss : List Seg} (h : Mies w B g F ss) (hl : c.rs.length = 16) (hw : was.rs.length = 16) (a : Nat) (ha : a < 16) (t : Int) (ht : I64 t) :
    Calls Tryd.prog 31 #[cxV c, cxV was, .pointer (some ⟨g, 0, none⟩), .int .i64 (a : Int), .int .i64 t] w fun en w' => en = .returned (.tuple #[cxV (outD (goesS ss t 8 1) (c.put (a : Int) (wordS ss t 1)) was).1, .agg (evA (outD (goesS ss t 8 1) (c.put (a : Int) (wordS ss t 1)) was).2)]) ∧ Below w.heap.size w w' := by
  go_enter Tryd.func31, Tryd.ntmps31
  go_upto_region 1 with (fail)
  obtain ⟨h0, h1, h2, h3, hb⟩ := al_four w (cxA c) (cxA was) z18 (evA ez) 26 26 26 37
  change Code.wp _ _ _ _ (al (al (al (al w (cxA c) 26) (cxA was) 26) z18 26) (evA ez) 37)
  have hm := h.below hb
  generalize al (al (al (al w (cxA c) 26) (cxA was) 26) z18 26) (evA ez) 37 = w1 at *
  have HWD := Lib.hid (Word_m ht (p := 1) (by omega) hm)
  have HX1 := Lib.hid h0
  have HY1 := Lib.hid h1
  have HZ1 := Lib.hid h2
  have HE1 := Lib.hid h3
  have HB1 := Lib.hid hb
  have HLN := Lib.hid hl
  have HLW := Lib.hid hw
  clear h0 h1 h2 h3 hb hm h hl hw
  go_upto_region 2 with (first
    | (go_at_call 69; refine (HWD.out).mono ?_; rintro en w2 ⟨rfl, hb2⟩; have HB2 := Lib.hid (HB1.out.trans (hb2.mono HB1.out.size)); have HX2 := Lib.hid (show Cb w2 w.heap.size c from ⟨HX1.out.below hb2, HLN.out⟩); have HY2 := Lib.hid (show Cb w2 (w.heap.size + 1) was from ⟨HY1.out.below hb2, HLW.out⟩); have HZ2 := Lib.hid (show ctxIn w2 (w.heap.size + 1 + 1) from ⟨_, HZ1.out.below hb2, rfl⟩); have HE2 := Lib.hid (show evIn w2 (w.heap.size + 1 + 1 + 1) from ⟨_, HE1.out.below hb2⟩); clear hb2))
  clear HX1 HY1 HZ1 HE1 HB1 HWD
  generalize hv : wordS ss t 1 = v at *
  by_cases hg : goesS ss t 8 1 = 0
  · have hgg := hg
    rw [hg]
    have p0 : (0 : Int) ≤ (a : Int) := by omega
    have p1 : (a : Int) < 16 := by omega
    have r0 := HX2.out.at_ a ha
    have f0 := HX2.out.fro (2 + a)
    go_upto_region 5 with (fail)
    have hx3 := HX2.out.set a v
    have hb3 := beside_cell w2 w.heap.size (2 + a) (.int .i64 v)
    change Code.wp _ _ _ _ (w2.setCell ⟨w.heap.size, 2 + a, none⟩ (.int .i64 v))
    generalize w2.setCell ⟨w.heap.size, 2 + a, none⟩ (.int .i64 v) = w3 at *
    have HLP := Lib.hid (show (c.put (a : Int) v).rs.length = 16 by simp [Cx.put, HLN.out])
    have HO := Lib.hid (show outD (goesS ss t 8 1) (c.put (a : Int) (wordS ss t 1)) was = (c.put (a : Int) v, ez) by rw [hgg, hv]; rfl)
    clear hv hg hgg
    generalize c.put (a : Int) v = d at *
    have HLC := Lib.hid hx3.lc
    have hz3 := HZ2.out.beside hb3 (by omega)
    have he3 := HE2.out.beside hb3 (by omega)
    have HB3 := Lib.hid (laid_below1 HB2.out hb3 (Nat.le_refl _))
    obtain ⟨he4, hc4, hd4, hb4⟩ := laid_in hz3 he3 (by omega) d ez HLP.out
    have HCI := Lib.hid hz3
    have HEI := Lib.hid he4
    have K1 := Lib.hid hc4
    have K2 := Lib.hid hd4
    have HB4 := Lib.hid (laid_below HB3.out hb4 (by omega) (by omega))
    clear hx3 hb3 hz3 he3 he4 hc4 hd4 hb4 r0 f0
    go_upto_region 99 with (first
      | ((with_reducible refine load_c (by rfl) ?_ HLC.out ?_); (· rfl))
      | ((with_reducible refine store_c (c := d) (by rfl) ?_ ?_ HCI.out HLP.out ?_); (· rfl); (· rfl))
      | ((with_reducible refine store_e (e := ez) (by rfl) ?_ ?_ HEI.out ?_); (· rfl); (· rfl)))
    refine bodyPost_ret (v := .tuple #[cxV d, .agg (evA ez)]) (back_ce rfl (by rfl) (by rfl) K1.out K2.out) rfl ?_
    rw [HO.out]
    exact ⟨rfl, HB4.out⟩
  · have hg2 : (goesS ss t 8 1 == 0) = false := by simpa using hg
    have hg3 : (goesS ss t 8 1 != 0) = true := by simpa using hg
    have ho : outD (goesS ss t 8 1) (c.put (a : Int) (wordS ss t 1)) was = (was, trapE (goesS ss t 8 1)) := if_neg hg
    clear hv
    generalize her : goesS ss t 8 1 = er at *
    have HO := Lib.hid (show outD (goesS ss t 8 1) (c.put (a : Int) (wordS ss t 1)) was = (was, trapE er) by rw [her]; exact ho)
    clear her ho
    have HT := Lib.hid (trapped_any was HLW.out er w2)
    have HLC := Lib.hid HY2.out.lc
    clear hg
    go_upto_region 99 with (first
      | ((with_reducible refine load_c (by rfl) ?_ HLC.out ?_); (· rfl))
      | (go_at_call 28; refine (HT.out).mono ?_; rintro en w3 ⟨rfl, hb3⟩; have HZ3 := Lib.hid (HZ2.out.beside (Beside.of_below hb3 (fun _ => False)) (fun h => h)); have HL := Lib.hid (laid_in HZ3.out (HE2.out.beside (Beside.of_below hb3 (fun _ => False)) (fun h => h)) (by omega) was (trapE er) HLW.out); have HEI := Lib.hid HL.out.1; have HB3 := Lib.hid (HB2.out.trans (hb3.mono HB2.out.size)); clear hb3 HT)
      | ((with_reducible refine store_c (c := was) (by rfl) ?_ ?_ HZ3.out HLW.out ?_); (· rfl); (· rfl))
      | ((with_reducible refine store_e (e := trapE er) (by rfl) ?_ ?_ HEI.out ?_); (· rfl); (· rfl)))
    refine bodyPost_ret (v := .tuple #[cxV was, .agg (evA (trapE er))]) (back_ce rfl (by rfl) (by rfl) HL.out.2.1 HL.out.2.2.1) rfl ?_
    rw [HO.out]
    exact ⟨rfl, laid_below HB3.out HL.out.2.2.2 (by omega) (by omega)⟩
end Go.Proofs.YtfkhfjefddgkoaaDoor
