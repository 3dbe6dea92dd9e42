/-
  Step and Run.
  What a step keeps: a context's numbers are ints; runs as plain functions.
-/
import Derived.Test.YtfkhfjefddgkoaaDoorZI
namespace Go.Proofs.YtfkhfjefddgkoaaDoor
open Go.RowKit
abbrev mcV (c : Cx) (s : Nat) : Value := .agg (mcC c s).toArray
theorem mcC_len {c : Cx} {s : Nat} (h : c.rs.length = 16) : (mcC c s).length = 19 := by simp [mcC, ints_len, h]
theorem mcC_one (c : Cx) (s : Nat) : (mcC c s).toArray.all (·.oneCell') = true := by simp [mcC, ints, Value.oneCell']
theorem Tryd.info_mach : (Tryd.prog.info? 71).map (·.size) = some 19 := by kernel_rfl
theorem built_16 (pc tp r0 r1 r2 r3 r4 r5 r6 r7 r8 r9 r10 r11 r12 r13 r14 r15 : Int) (s : Nat) : Tryd.prog.built 71 [(0, .agg #[.int .i64 pc, .int .i64 tp, .int .i64 r0, .int .i64 r1, .int .i64 r2, .int .i64 r3, .int .i64 r4, .int .i64 r5, .int .i64 r6, .int .i64 r7, .int .i64 r8, .int .i64 r9, .int .i64 r10, .int .i64 r11, .int .i64 r12, .int .i64 r13, .int .i64 r14, .int .i64 r15]), (1, .pointer (some ⟨s, 0, none⟩))] = some #[.int .i64 pc, .int .i64 tp, .int .i64 r0, .int .i64 r1, .int .i64 r2, .int .i64 r3, .int .i64 r4, .int .i64 r5, .int .i64 r6, .int .i64 r7, .int .i64 r8, .int .i64 r9, .int .i64 r10, .int .i64 r11, .int .i64 r12, .int .i64 r13, .int .i64 r14, .int .i64 r15, .pointer (some ⟨s, 0, none⟩)] := by kernel_rfl
theorem built_m {c : Cx} {s : Nat} (hl : c.rs.length = 16) : Tryd.prog.built 71 [(0, cxV c), (1, .pointer (some ⟨s, 0, none⟩))] = some (mcC c s).toArray := by
  obtain ⟨pc, tp, rs⟩ := c
  match rs, hl with
  | [r0, r1, r2, r3, r4, r5, r6, r7, r8, r9, r10, r11, r12, r13, r14, r15], _ => exact built_16 pc tp r0 r1 r2 r3 r4 r5 r6 r7 r8 r9 r10 r11 r12 r13 r14 r15 s
theorem wpl_build_m {ops : Array Oper} {rest : List Oper} {t u v : Tmp} {q : TypeId} {p : String} {af : Array Edge} {a : Act} {w : World} {Q : Exit → Act → World → Prop} {c : Cx} {s : Nat} (hl : c.rs.length = 16) (hu : a.eval (.tmp u) = cxV c) (hv : a.eval (.tmp v) = .pointer (some ⟨s, 0, none⟩))
    (h : wpList Tryd.prog ops Q rest (a.put (some t) (mcV c s)) w) : wpList Tryd.prog ops Q (⟨some t, .build 71 #[(0, .tmp u), (1, .tmp v)], q, p, af, none⟩ :: rest) a w := by
  have e : (Tryd.prog.built 71 ((#[(0, Operand.tmp u), (1, Operand.tmp v)].map fun (i, x) => (i, a.eval x)).toList)) = some (mcC c s).toArray := by
    simp only [List.map_toArray, List.map_cons, List.map_nil, hu, hv]
    exact built_m hl
  refine wpList_build rfl 71 _ rfl (by rw [e]; rfl) ?_
  rw [e]
  exact h
def mIn (w : World) (b : Nat) : Prop := ∃ cs : Array Value, Bx w b cs 71 ∧ cs.size = 19
theorem mIn.new (w : World) : mIn (w.alloc (.cells #[.int .i64 0, .int .i64 0, .int .i64 0, .int .i64 0, .int .i64 0, .int .i64 0, .int .i64 0, .int .i64 0, .int .i64 0, .int .i64 0, .int .i64 0, .int .i64 0, .int .i64 0, .int .i64 0, .int .i64 0, .int .i64 0, .int .i64 0, .int .i64 0, .pointer none] 71)) w.heap.size := ⟨_, Bx.new w _ 71, rfl⟩
theorem mIn.row {w : World} {b : Nat} {c : Cx} {s : Nat} (h : mIn w b) (hl : c.rs.length = 16) : Mc (w.setRow b (mcC c s).toArray) b c s := by
  obtain ⟨cs, hb, _⟩ := h
  exact ⟨setRow_heap w b cs _ 71 (0, 0) hb, hl⟩
theorem wpl_store_mach {ops : Array Oper} {rest : List Oper} {u v : Tmp} {q : TypeId} {p : String} {af : Array Edge} {a : Act} {w : World} {Q : Exit → Act → World → Prop} {e s : Nat} {c : Cx} (he : mIn w e) (hl : c.rs.length = 16) (hu : a.eval (.tmp u) = .pointer (some ⟨e, 0, none⟩)) (hv : a.eval (.tmp v) = mcV c s)
    (h : wpList Tryd.prog ops Q rest a (w.setRow e (mcC c s).toArray)) : wpList Tryd.prog ops Q (⟨none, .store 71 (.tmp u) (.tmp v), q, p, af, none⟩ :: rest) a w := by
  obtain ⟨cs, hb, hs⟩ := he
  have n : (mcC c s).toArray.size = 19 := by simpa using mcC_len hl
  exact wpList_store_row rfl 71 _ _ rfl e _ hu hv 71 cs hb (by rw [n]; exact Tryd.info_mach) (by rw [hs, n]) (mcC_one c s) h
/-- A machine is made: its box is new. -/
theorem mach_new (w : World) (c : Cx) (s : Nat) (hl : c.rs.length = 16) : Mc ((w.alloc (.cells #[.int .i64 0, .int .i64 0, .int .i64 0, .int .i64 0, .int .i64 0, .int .i64 0, .int .i64 0, .int .i64 0, .int .i64 0, .int .i64 0, .int .i64 0, .int .i64 0, .int .i64 0, .int .i64 0, .int .i64 0, .int .i64 0, .int .i64 0, .int .i64 0, .pointer none] 71)).setRow w.heap.size (mcC c s).toArray) w.heap.size c s ∧ Below w.heap.size w ((w.alloc (.cells #[.int .i64 0, .int .i64 0, .int .i64 0, .int .i64 0, .int .i64 0, .int .i64 0, .int .i64 0, .int .i64 0, .int .i64 0, .int .i64 0, .int .i64 0, .int .i64 0, .int .i64 0, .int .i64 0, .int .i64 0, .int .i64 0, .int .i64 0, .int .i64 0, .pointer none] 71)).setRow w.heap.size (mcC c s).toArray) := by
  have hb4 := (Below.refl w.heap.size w).alloc (Nat.le_refl _) (.cells #[.int .i64 0, .int .i64 0, .int .i64 0, .int .i64 0, .int .i64 0, .int .i64 0, .int .i64 0, .int .i64 0, .int .i64 0, .int .i64 0, .int .i64 0, .int .i64 0, .int .i64 0, .int .i64 0, .int .i64 0, .int .i64 0, .int .i64 0, .int .i64 0, .pointer none] 71)
  have hbs := row_beside (w.alloc (.cells #[.int .i64 0, .int .i64 0, .int .i64 0, .int .i64 0, .int .i64 0, .int .i64 0, .int .i64 0, .int .i64 0, .int .i64 0, .int .i64 0, .int .i64 0, .int .i64 0, .int .i64 0, .int .i64 0, .int .i64 0, .int .i64 0, .int .i64 0, .int .i64 0, .pointer none] 71)) w.heap.size (mcC c s).toArray
  exact ⟨(mIn.new w).row hl, ⟨hbs.os.trans hb4.os, hbs.tape.trans hb4.tape, hbs.output.trans hb4.output, Nat.le_trans hb4.size hbs.size, fun k hk => (hbs.block k (Nat.lt_of_lt_of_le hk hb4.size) (Nat.ne_of_lt hk)).trans (hb4.block k hk)⟩⟩
section
variable {w w3 : World} {B g s b : Nat} {F : Nat → Prop} {c : Cx} {ss : List Seg}
theorem ctxIn.ran (h : ctxIn w b) (hr : Ran w w3 B g s F c ss) (hF : ¬ F b) (hg : b ≠ g) : ctxIn w3 b := by
  obtain ⟨cs, hb, hs⟩ := h
  exact ⟨cs, (hr.keep hb.lt hF hg).trans hb, hs⟩
theorem evIn.ran (h : evIn w b) (hr : Ran w w3 B g s F c ss) (hF : ¬ F b) (hg : b ≠ g) : evIn w3 b := by
  obtain ⟨cs, hb⟩ := h
  exact ⟨cs, (hr.keep hb.lt hF hg).trans hb⟩
end
/-- What a machine that was made on the way has done to the space. -/
theorem Ran.went_all {w w2 w3 w5 : World} {B g s : Nat} {F p : Nat → Prop} {c2 : Cx} {s2 : List Seg} (hb : Below w.heap.size w w2) (hF : ∀ k, F k → k < w.heap.size) (hg : w.heap.size ≤ g) (hr : Ran w2 w3 B g s F c2 s2) (h5 : Beside w3 w5 p) (hp : ∀ k, p k → w.heap.size ≤ k ∧ (k < w2.heap.size ∨ w3.heap.size ≤ k)) : Went w w5 B s F s2 := by
  obtain ⟨F3, l3, m3, n3, b3, k3⟩ := hr
  refine ⟨F3, l3.beside h5 fun k hk hpk => ?_, ⟨h5.os.trans (b3.os.trans hb.os), h5.tape.trans (b3.tape.trans hb.tape), h5.output.trans (b3.output.trans hb.output), Nat.le_trans hb.size (Nat.le_trans b3.size h5.size), fun k hk hn => ?_⟩, fun k hk => (k3 k hk).imp id fun h => Nat.le_trans hb.size h⟩
  · have := hp k hpk
    have h3 := (l3.lt hk).2
    rcases k3 k hk with h | h
    · have := hF k h
      omega
    · omega
  · refine ((h5.block k (Nat.lt_of_lt_of_le hk (Nat.le_trans hb.size b3.size)) fun h => ?_).trans (b3.block k (Nat.lt_of_lt_of_le hk hb.size) fun h => ?_)).trans (hb.block k hk)
    · have := hp k h
      omega
    · rcases h with h | h
      · exact hn h
      · omega
set_option maxRecDepth 100000 in
set_option maxHeartbeats 1000000 in
theorem Step_any {w : World} {B s : Nat} {F : Nat → Prop} {c : Cx} {ss : List Seg} (h : Lies w B s F ss) (hl : c.rs.length = 16) (hp : I64 c.pc) (h15 : I64 (c.reg 15)) (hs : Cod.Shps w) :
    Calls Tryd.prog 12 #[cxV c, .pointer (some ⟨s, 0, none⟩)] w fun en w' => en = .returned (.tuple #[cxV (stepM ss c).2.1, .agg (evA (stepM ss c).1)]) ∧ Went w w' B s F (stepM ss c).2.2 := by
  go_enter Tryd.func12, Tryd.ntmps12
  go_upto_region 1 with (fail)
  obtain ⟨h0, h1, h2, hb⟩ := al_three w (cxA c) z18 (evA ⟨0, 0, 0, 0, 0⟩) 26 26 37
  have l1 := h.below hb
  have s1 := hs.below hb
  have hF : ∀ b, w.heap.size ≤ b → ¬ F b := fun b hbz hf => Nat.lt_irrefl _ (Nat.lt_of_lt_of_le (h.lt hf).2 hbz)
  change Code.wp _ _ _ _ (al (al (al w (cxA c) 26) z18 26) (evA ⟨0, 0, 0, 0, 0⟩) 37)
  generalize al (al (al w (cxA c) 26) z18 26) (evA ⟨0, 0, 0, 0, 0⟩) 37 = w1 at *
  have HLC := Lib.hid (show Cb w1 w.heap.size c from ⟨h0, hl⟩).lc
  have HLN := Lib.hid hl
  have HMI := Lib.hid (show mIn (w1.alloc (.cells #[.int .i64 0, .int .i64 0, .int .i64 0, .int .i64 0, .int .i64 0, .int .i64 0, .int .i64 0, .int .i64 0, .int .i64 0, .int .i64 0, .int .i64 0, .int .i64 0, .int .i64 0, .int .i64 0, .int .i64 0, .int .i64 0, .int .i64 0, .int .i64 0, .pointer none] 71)) w1.heap.size from mIn.new w1)
  go_upto_region 2 with (first
    | ((with_reducible refine wpl_load_c HLC.out ?_ ?_); (· rfl))
    | ((with_reducible refine wpl_build_m (s := s) HLN.out ?_ ?_ ?_); (· rfl); (· rfl))
    | ((with_reducible refine wpl_store_mach (s := s) HMI.out HLN.out ?_ ?_ ?_); (· rfl); (· rfl)))
  obtain ⟨m2, b12⟩ := mach_new w1 c s hl
  generalize (w1.alloc (.cells #[.int .i64 0, .int .i64 0, .int .i64 0, .int .i64 0, .int .i64 0, .int .i64 0, .int .i64 0, .int .i64 0, .int .i64 0, .int .i64 0, .int .i64 0, .int .i64 0, .int .i64 0, .int .i64 0, .int .i64 0, .int .i64 0, .int .i64 0, .int .i64 0, .pointer none] 71)).setRow w1.heap.size (mcC c s).toArray = w2 at *
  have hsz := hb.size
  have hg : ¬ F w1.heap.size := hF _ hsz
  have l2 := l1.below b12
  have s2 := s1.below b12
  have e2 : ctxIn w2 (w.heap.size + 1) := ⟨_, h1.below b12, rfl⟩
  have f2 : evIn w2 (w.heap.size + 1 + 1) := ⟨_, h2.below b12⟩
  have b02 := hb.trans (b12.mono hsz)
  have hz1 : w.heap.size + 1 + 1 < w1.heap.size := h2.lt
  have hz2 : w1.heap.size < w2.heap.size := m2.lt
  have HST := Lib.hid (step_any l2 m2 hg hp h15 s2)
  have HF := Lib.hid (fun k (hk : F k) => (h.lt hk).2)
  clear HLC HLN HMI h0 h1 h2 l1 s1 l2 s2 m2 hb h hl hs
  generalize w1.heap.size = g at *
  generalize hR : stepM ss c = R at HST
  obtain ⟨ev, c2, ss2⟩ := R
  simp only at HST
  have HR := Lib.hid hR
  clear hR
  have HE2 := Lib.hid e2
  have HF2 := Lib.hid f2
  have HB02 := Lib.hid b02
  clear e2 f2 b02 b12 hp h15
  go_wp2_with fail
  refine (HST.out).mono ?_
  rintro e w3 ⟨rfl, hr3⟩
  have HR3 := Lib.hid hr3
  clear hr3
  go_upto_region 3 with (fail)
  have hb4 : Below w3.heap.size w3 (w3.alloc (.cells (evA ev) 37)) := (Below.refl _ _).alloc (Nat.le_refl _) _
  have z4 := Bx.new w3 (evA ev) 37
  have HR4 := Lib.hid (HR3.out.quiet hb4)
  have r4 := HR3.out.quiet hb4
  change Code.wp _ _ _ _ (w3.alloc (.cells (evA ev) 37))
  generalize w3.alloc (.cells (evA ev) 37) = w4 at *
  have hsz3 : w2.heap.size ≤ w3.heap.size := by
    obtain ⟨_, _, _, _, b3, _⟩ := HR3.out
    exact b3.size
  generalize hbe : w3.heap.size = b4 at *
  have e4 := HE2.out.ran r4 (hF _ (by omega)) (by omega)
  have f4 := HF2.out.ran r4 (hF _ (by omega)) (by omega)
  have d4 : Bx w4.drew b4 (evA ev) 37 := z4
  have bd : Beside w4 w4.drew (fun _ => False) := Beside.of_below (drew_below w4) _
  refine wp_region_any (by kernel_rfl) ?_
  change wpAny _ _ _ _ (0 + 4 + 1) _ _ w4.drew
  refine wpAny_take (i := 0) (v := .pointer (some ⟨g, 0, none⟩)) rfl (by kernel_rfl) (by kernel_rfl) (by kernel_rfl) (fun _ _ _ h => h) (Or.inl ⟨by rfl, fun w => by go_simp⟩) ?_
  refine ret_gen (L0 := #[true, false, false, false, false]) (L1 := #[true, true, false, false, false]) (L2 := #[true, false, true, false, false]) (L3 := #[true, true, true, false, false]) (L4 := #[true, true, false, true, false]) (L5 := #[true, true, true, true, false]) (L6 := #[true, true, true, true, true])
    (i0 := 1) (i1 := 2) (i2 := 3) (i3 := 4) (b := g) (e := w.heap.size + 1) (f := w.heap.size + 1 + 1) (c := c2) (ev := ev) rfl rfl rfl rfl
    ⟨by decide, by decide, by decide, by decide, by decide, by decide, (by decide : 13 < 15), (by decide : 14 < 15), rfl, rfl, rfl⟩ (r4.mach.lc.below (drew_below w4)) (e4.beside bd (fun h => h)) (f4.beside bd (fun h => h)) (by omega)
    (fun w' => Bx w' b4 (evA ev) 37) d4 (fun w' hw => hw.beside (row_beside w' _ _) (by omega))
    (fun a' w' K ha hw hK => load_e rfl ((ha 7 (by decide)).trans rfl) hw (hK _ (Below.refl _ _)))
    (.inl (by kernel_rfl)) (.inl (by kernel_rfl)) (by kernel_rfl) (by kernel_rfl) (fun _ => by kernel_rfl) (by kernel_rfl) rfl rfl rfl rfl rfl rfl rfl rfl ?_
  intro w5 k1 k2 k3
  refine wpAny_done (by kernel_rfl) ?_ _
  have HW := Lib.hid (Ran.went_all HB02.out HF.out (by omega) HR3.out (h5 := (show Beside w3 w5 (fun k => k = w.heap.size + 1 ∨ k = w.heap.size + 1 + 1) from ⟨k3.os.trans hb4.os, k3.tape.trans hb4.tape, k3.output.trans hb4.output, Nat.le_trans hb4.size k3.size, fun k hk hp => (k3.block k (Nat.lt_of_lt_of_le hk hb4.size) hp).trans (hb4.block k (hbe ▸ hk))⟩)) (fun k hk => by omega))
  have K1 := Lib.hid k1
  have K2 := Lib.hid k2
  clear hbe k1 k2 k3 e4 f4 d4 bd z4 r4 HR4 HE2 HF2 hb4 hF
  go_wp2_with fail
  refine bodyPost_ret (v := .tuple #[cxV c2, .agg (evA ev)]) (back_ce rfl (by rfl) (by rfl) K1.out K2.out) rfl ?_
  rw [HR.out]
  exact ⟨rfl, HW.out⟩
end Go.Proofs.YtfkhfjefddgkoaaDoor

namespace Go.Proofs.YtfkhfjefddgkoaaDoor
open Go.RowKit

/-- A context whose numbers are ints. -/
structure Okc (c : Cx) : Prop where
  len : c.rs.length = 16
  pc : I64 c.pc
  tp : I64 c.tp
  reg : ∀ a, I64 (c.reg a)
theorem i64_zero : I64 0 := by unfold I64; omega
theorem Okc.to {c : Cx} (h : Okc c) {v : Int} (hv : I64 v) : Okc (c.to v) := ⟨h.len, hv, h.tp, h.reg⟩
theorem Okc.put {c : Cx} (h : Okc c) (a : Int) {v : Int} (hv : I64 v) : Okc (c.put a v) := by
  refine ⟨by simp [Cx.put, h.len], h.pc, h.tp, fun b => ?_⟩
  show I64 ((c.rs.set a.toNat v).getD b.toNat 0)
  rw [List.getD_eq_getElem?_getD, List.getElem?_set]
  split
  · split
    · exact hv
    · exact i64_zero
  · have := h.reg b
    rw [Cx.reg, List.getD_eq_getElem?_getD] at this
    exact this
theorem word_i64 (ss : List Seg) (a need : Int) : I64 (wordS ss a need) := w64_i64 _
theorem calc_i64 (op x y : Int) : I64 (calcM op x y).1 := by
  unfold calcM
  repeat' split
  all_goals first | exact w64_i64 _ | (unfold I64; simp)
theorem may_n {i : Ins} (h : Cod.mayB i = true) : I64 i.n := by
  unfold Cod.mayB at h
  split at h
  · cases h
  · rename_i s _
    rw [Bool.and_eq_true] at h
    have := h.2
    unfold Cod.numOk at this
    unfold I64
    split at this
    · simp only [Bool.and_eq_true, decide_eq_true_eq] at this
      omega
    · have h0 : i.n = 0 := by simpa using this
      omega
theorem value_i64 {ss : List Seg} {c : Cx} {i : Ins} (h : Okc c) (hn : I64 i.n) : I64 (valueM ss c i).1 := by
  unfold valueM
  repeat' split
  all_goals first | exact hn | exact h.reg _ | exact word_i64 _ _ _ | exact w64_i64 _ | exact h.tp | exact calc_i64 _ _ _
theorem call_ok {ss : List Seg} {c : Cx} {t : Int} (h : Okc c) (ht : I64 t) : Okc (callM ss c t).2.1 := (h.put 15 (w64_i64 _)).to ht
theorem ret_ok {ss : List Seg} {c : Cx} (h : Okc c) : Okc (retM ss c).2 := (h.put 15 (w64_i64 _)).to (word_i64 _ _ _)
theorem jump_ok {ss : List Seg} {c : Cx} {i : Ins} (h : Okc c) : Okc (jumpM ss c i).2.1 := by
  unfold jumpM
  split
  · exact h.to (w64_i64 _)
  split
  · show Okc (if c.reg i.a = 0 then c.to (w64 (c.pc + i.n)) else c)
    split
    · exact h.to (w64_i64 _)
    · exact h
  split
  · exact h.to (h.reg _)
  split
  · exact call_ok h (w64_i64 _)
  split
  · exact call_ok h (h.reg _)
  · exact ret_ok h
theorem exec_ok {ss : List Seg} {c : Cx} {i : Ins} (h : Okc c) (hn : I64 i.n) : Okc (execM ss c i).2.2.1 := by
  unfold execM
  repeat' split
  all_goals first | exact h | exact jump_ok h | exact h.put _ (value_i64 h hn)
theorem step_ok {ss : List Seg} {c : Cx} (h : Okc c) : Okc (stepM ss c).2.1 := by
  unfold stepM
  split
  · exact h
  · split
    · exact h
    · rename_i e i hi
      have hm := (instM_some hi).2
      split
      · exact exec_ok (h.to (w64_i64 _)) (may_n hm)
      · exact h
/-- Runs: the event, how many steps, the context, the memory. -/
def restE (c : Cx) : Ev := if c.pc = 0 then ⟨1, 0, 0, 0, 0⟩ else ⟨6, 0, 0, 0, 0⟩
def runM : Nat → Int → List Seg → Cx → Ev × Int × Cx × List Seg
  | 0, n, ss, c => (restE c, n, c, ss)
  | k + 1, n, ss, c =>
    if (stepM ss c).1.kind = 0 then runM k (n + 1) (stepM ss c).2.2 (stepM ss c).2.1
    else if (stepM ss c).1.kind = 1 ∨ (stepM ss c).1.kind = 5 then ((stepM ss c).1, n, (stepM ss c).2.1, (stepM ss c).2.2)
    else ((stepM ss c).1, n + 1, (stepM ss c).2.1, (stepM ss c).2.2)
end Go.Proofs.YtfkhfjefddgkoaaDoor
