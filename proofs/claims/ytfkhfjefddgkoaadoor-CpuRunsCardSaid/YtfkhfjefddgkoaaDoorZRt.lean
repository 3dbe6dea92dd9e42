/-
  Drawn regions that hand a context and an event back: two loads, two stores.
-/
import Derived.Test.YtfkhfjefddgkoaaDoorZHb
namespace Go.Proofs.YtfkhfjefddgkoaaDoor
open Go.RowKit

theorem eval_ne {a : Act} {t x : Tmp} {v : Value} (h : t ≠ x) : (a.put (some t) v).eval (.tmp x) = a.eval (.tmp x) :=
  Act.eval_put fun d hd e => h (by cases hd; cases e; rfl)
theorem eval_eq {a : Act} {t : Tmp} {v : Value} (h : t < a.tmps.size) : (a.put (some t) v).eval (.tmp t) = v := by
  simp [Act.eval, Act.put, h]
theorem put_size (a : Act) (t : Tmp) (v : Value) : (a.put (some t) v).tmps.size = a.tmps.size := by simp [Act.put]
/-- A context that can be read. -/
structure Lc (w : World) (b : Nat) (c : Cx) : Prop where
  at_ : w.rangeAt b 0 (cxC c)
  len : c.rs.length = 16
theorem Lc.below {w w' : World} {b : Nat} {c : Cx} (h : Lc w b c) (hb : Below w.heap.size w w') : Lc w' b c := ⟨fun j v hv => Cod.cell_below hb (h.at_ j v hv), h.len⟩
theorem Cb.lc {w : World} {b : Nat} {c : Cx} (h : Cb w b c) : Lc w b c := ⟨by
  have := World.rangeAt_of_block h.bx 0 18
  rw [show ((cxA c).extract 0 (0 + 18)).toList = cxC c by
    rw [Nat.zero_add, show (18 : Nat) = (cxA c).size by simpa using (cxC_len h.len).symm, Array.extract_size]] at this
  exact this, h.len⟩
theorem Mc.lc {w : World} {g s : Nat} {c : Cx} (h : Mc w g c s) : Lc w g c := ⟨fun j v hv => by
  have hj : j < (cxC c).length := (List.getElem?_eq_some_iff.1 hv).1
  rw [Nat.zero_add, h.bx.c j, List.getElem?_toArray, show mcC c s = cxC c ++ [.pointer (some ⟨s, 0, none⟩)] from rfl, List.getElem?_append_left hj]
  exact hv, h.len⟩
theorem load_c {o : Oper} {a : Act} {w : World} {K : Act → World → Prop} {Q : Exit → Act → World → Prop} {x : Tmp} {b : Nat} {c : Cx} (ho : o.op = .load 26 (.tmp x)) (hx : a.eval (.tmp x) = .pointer (some ⟨b, 0, none⟩)) (hb : Lc w b c)
    (h : K (a.put o.dst (cxV c)) w) : o.wp Tryd.prog a w K Q :=
  wp_load_mid 26 _ ho b 0 hx (cxC c) _ hb.at_ Tryd.underlying26 rfl (by rw [cxC_len hb.len]; exact Tryd.info_ctx) h
theorem load_e {o : Oper} {a : Act} {w : World} {K : Act → World → Prop} {Q : Exit → Act → World → Prop} {x : Tmp} {b : Nat} {e : Ev} (ho : o.op = .load 37 (.tmp x)) (hx : a.eval (.tmp x) = .pointer (some ⟨b, 0, none⟩)) (hb : Bx w b (evA e) 37)
    (h : K (a.put o.dst (.agg (evA e))) w) : o.wp Tryd.prog a w K Q :=
  wp_load_row 37 _ ho b hx 37 _ (0, 0) _ hb Tryd.underlying37 rfl Tryd.info_ev h
theorem store_c {o : Oper} {a : Act} {w : World} {K : Act → World → Prop} {Q : Exit → Act → World → Prop} {x y : Tmp} {b : Nat} {c : Cx} (ho : o.op = .store 26 (.tmp x) (.tmp y)) (hx : a.eval (.tmp x) = .pointer (some ⟨b, 0, none⟩)) (hy : a.eval (.tmp y) = cxV c) (hb : ctxIn w b) (hl : c.rs.length = 16)
    (h : K (a.put o.dst undef) (w.setRow b (cxA c))) : o.wp Tryd.prog a w K Q := by
  obtain ⟨cs, hb, hs⟩ := hb
  have n : (cxA c).size = 18 := by simpa using cxC_len hl
  exact wp_store_row 26 _ _ ho b _ hx hy 26 cs hb (by rw [n]; exact Tryd.info_ctx) (by rw [hs, n]) (cxC_one c) h
def evIn (w : World) (b : Nat) : Prop := ∃ e : Ev, Bx w b (evA e) 37
theorem store_e {o : Oper} {a : Act} {w : World} {K : Act → World → Prop} {Q : Exit → Act → World → Prop} {x y : Tmp} {b : Nat} {e : Ev} (ho : o.op = .store 37 (.tmp x) (.tmp y)) (hx : a.eval (.tmp x) = .pointer (some ⟨b, 0, none⟩)) (hy : a.eval (.tmp y) = .agg (evA e)) (hb : evIn w b)
    (h : K (a.put o.dst undef) (w.setRow b (evA e))) : o.wp Tryd.prog a w K Q := by
  obtain ⟨e0, hb⟩ := hb
  exact wp_store_row 37 _ _ ho b _ hx hy 37 _ hb Tryd.info_ev rfl (by simp [Value.oneCell']) h
theorem evIn.beside {w w' : World} {b : Nat} {p : Nat → Prop} (h : evIn w b) (hb : Beside w w' p) (hn : ¬ p b) : evIn w' b := h.imp fun _ h => h.beside hb hn
theorem ctxIn.beside {w w' : World} {b : Nat} {p : Nat → Prop} (h : ctxIn w b) (hb : Beside w w' p) (hn : ¬ p b) : ctxIn w' b := by
  obtain ⟨cs, h, hs⟩ := h
  exact ⟨cs, h.beside hb hn, hs⟩

theorem wpl_load_c {ops : Array Oper} {rest : List Oper} {t x : Tmp} {q : TypeId} {p : String} {af : Array Edge} {a : Act} {w : World} {Q : Exit → Act → World → Prop} {b : Nat} {c : Cx} (hL : Lc w b c) (hx : a.eval (.tmp x) = .pointer (some ⟨b, 0, none⟩))
    (h : wpList Tryd.prog ops Q rest (a.put (some t) (cxV c)) w) : wpList Tryd.prog ops Q (⟨some t, .load 26 (.tmp x), q, p, af, none⟩ :: rest) a w :=
  wpList_plain rfl fun _ hK => load_c rfl hx hL (hK _ _ h)
theorem wpl_store_c {ops : Array Oper} {rest : List Oper} {u v : Tmp} {q : TypeId} {p : String} {af : Array Edge} {a : Act} {w : World} {Q : Exit → Act → World → Prop} {e : Nat} {c : Cx} (he : ctxIn w e) (hl : c.rs.length = 16) (hu : a.eval (.tmp u) = .pointer (some ⟨e, 0, none⟩)) (hv : a.eval (.tmp v) = cxV c)
    (h : wpList Tryd.prog ops Q rest a (w.setRow e (cxA c))) : wpList Tryd.prog ops Q (⟨none, .store 26 (.tmp u) (.tmp v), q, p, af, none⟩ :: rest) a w :=
  wpList_plain rfl fun _ hK => store_c rfl hu hv he hl (hK _ _ h)
abbrev z18 : Array Value := #[.int .i64 0, .int .i64 0, .int .i64 0, .int .i64 0, .int .i64 0, .int .i64 0, .int .i64 0, .int .i64 0, .int .i64 0, .int .i64 0, .int .i64 0, .int .i64 0, .int .i64 0, .int .i64 0, .int .i64 0, .int .i64 0, .int .i64 0, .int .i64 0]
theorem ctxIn.new (w : World) : ctxIn (w.alloc (.cells z18 26)) w.heap.size := ⟨_, Bx.new w z18 26, rfl⟩
/-- What is known where it begins: t and t' take the context and the event, x, u, v point to the context, and to where both go. -/
structure RetT (a : Act) (ta tb x u v : Tmp) (b e f : Nat) : Prop where
  hab : ta ≠ tb
  hbx : tb ≠ x
  hau : ta ≠ u
  hav : ta ≠ v
  hbu : tb ≠ u
  hbv : tb ≠ v
  hsa : ta < a.tmps.size
  hsb : tb < a.tmps.size
  hx : a.eval (.tmp x) = .pointer (some ⟨b, 0, none⟩)
  hu : a.eval (.tmp u) = .pointer (some ⟨e, 0, none⟩)
  hv : a.eval (.tmp v) = .pointer (some ⟨f, 0, none⟩)
theorem ret_gen {ops : Array Oper} {Q : Exit → Act → World → Prop} {i0 i1 i2 i3 : Nat} {ta tb x u v : Tmp} {op1 : Op} {q0 q1 q2 q3 : TypeId} {p0 p1 p2 p3 : String} {a0 a1 a2 a3 : Array Edge} {a : Act} {w : World} {b e f : Nat} {c : Cx} {ev : Ev} {n : Nat} {L0 L1 L2 L3 L4 L5 L6 : Array Bool}
    (h0 : ops[i0]? = some ⟨some ta, .load 26 (.tmp x), q0, p0, a0, none⟩) (h1 : ops[i1]? = some ⟨some tb, op1, q1, p1, a1, none⟩)
    (h2 : ops[i2]? = some ⟨none, .store 26 (.tmp u) (.tmp ta), q2, p2, a2, none⟩) (h3 : ops[i3]? = some ⟨none, .store 37 (.tmp v) (.tmp tb), q3, p3, a3, none⟩)
    (hr : RetT a ta tb x u v b e f) (hL : Lc w b c) (he : ctxIn w e) (hf : evIn w f) (hfe : f ≠ e)
    (G : World → Prop) (hG : G w) (hGe : ∀ w', G w' → G (w'.setRow e (cxA c)))
    (hop : ∀ (a' : Act) (w' : World) (K : Act → World → Prop), (∀ t, t ≠ ta → a'.eval (.tmp t) = a.eval (.tmp t)) → G w' → (∀ w'', Below w'.heap.size w' w'' → K (a'.put (some tb) (.agg (evA ev))) w'') → Oper.wp Tryd.prog ⟨some tb, op1, q1, p1, a1, none⟩ a' w' K Q)
    (r0 : Region.ready .any ops L0 = [i0, i1] ∨ Region.ready .any ops L0 = [i1, i0])
    (r1 : Region.ready .any ops L1 = [i1, i2] ∨ Region.ready .any ops L1 = [i1])
    (r2 : Region.ready .any ops L2 = [i0]) (r3 : Region.ready .any ops L3 = [i2]) (r4 : Region.ready .any ops L1 = [i1, i2] → Region.ready .any ops L4 = [i1]) (r5 : Region.ready .any ops L5 = [i3])
    (s1 : L0.setIfInBounds i0 true = L1) (s2 : L0.setIfInBounds i1 true = L2) (s3 : L1.setIfInBounds i1 true = L3) (s3' : L2.setIfInBounds i0 true = L3) (s4 : L1.setIfInBounds i2 true = L4) (s5 : L3.setIfInBounds i2 true = L5) (s5' : L4.setIfInBounds i1 true = L5) (s6 : L5.setIfInBounds i3 true = L6)
    (h : ∀ w5, Cb w5 e c → Bx w5 f (evA ev) 37 → Beside w w5 (fun k => k = e ∨ k = f) → wpAny Tryd.prog .any ops Q n L6 ((a.put (some ta) (cxV c)).put (some tb) (.agg (evA ev))) w5) :
    wpAny Tryd.prog .any ops Q (n + 4) L0 a w := by
  obtain ⟨hab, hbx, hau, hav, hbu, hbv, hsa, hsb, hx, hu, hv⟩ := hr
  have hlt : e < w.heap.size := by obtain ⟨_, hc, _⟩ := he; exact hc.lt
  have flt : f < w.heap.size := by obtain ⟨_, hc⟩ := hf; exact hc.lt
  have tail : ∀ w4, Cb w4 e c → evIn w4 f → Beside w w4 (fun k => k = e ∨ k = f) → wpAny Tryd.prog .any ops Q (n + 1) L5 ((a.put (some ta) (cxV c)).put (some tb) (.agg (evA ev))) w4 := by
    intro w4 hc4 hf4 hb4
    refine wpAny_ready r5 (by simp) (AllReady.cons h3 (fun K hK => ?_) AllReady.nil)
    rw [if_pos (by rfl)]
    refine store_e rfl ?_ (eval_eq (by rw [put_size]; exact hsb)) hf4 (hK _ _ ?_)
    · exact (eval_ne hbv).trans ((eval_ne hav).trans hv)
    · rw [s6]
      have b5 := row_beside w4 f (evA ev)
      obtain ⟨e0, hf4⟩ := hf4
      refine h _ (hc4.beside b5 (fun z => hfe z.symm)) (setRow_heap w4 f _ _ 37 (0, 0) hf4) ⟨b5.os.trans hb4.os, b5.tape.trans hb4.tape, b5.output.trans hb4.output, Nat.le_trans hb4.size b5.size, fun k hk hp => (b5.block k (Nat.lt_of_lt_of_le hk hb4.size) fun z => hp (.inr z)).trans (hb4.block k hk hp)⟩
  have last : ∀ w3, Below w.heap.size w w3 → wpAny Tryd.prog .any ops Q (n + 2) L3 ((a.put (some ta) (cxV c)).put (some tb) (.agg (evA ev))) w3 := by
    intro w3 hb3
    refine wpAny_ready r3 (by simp) (AllReady.cons h2 (fun K hK => ?_) AllReady.nil)
    rw [if_pos (by rfl)]
    have he3 := he.beside (Beside.of_below hb3 (fun _ => False)) (fun h => h)
    have hf3 := hf.beside (Beside.of_below hb3 (fun _ => False)) (fun h => h)
    refine store_c rfl ?_ ?_ he3 hL.len (hK _ _ ?_)
    · exact (eval_ne hbu).trans ((eval_ne hau).trans hu)
    · exact (eval_ne hab.symm).trans (eval_eq hsa)
    · rw [s5]
      have b4 := row_beside w3 e (cxA c)
      exact tail _ (he3.row c hL.len) (hf3.beside b4 hfe) ⟨b4.os.trans hb3.os, b4.tape.trans hb3.tape, b4.output.trans hb3.output, Nat.le_trans hb3.size b4.size, fun k hk hp => (b4.block k (Nat.lt_of_lt_of_le hk hb3.size) fun z => hp (.inl z)).trans (hb3.block k hk)⟩
  have hq : ∀ {rs : List Nat} {m : Nat} {L : Array Bool} {a' : Act} {w' : World}, Region.ready .any ops L = rs → rs ≠ [] → (∀ i ∈ rs, wpOp Tryd.prog ops Q i (wpAny Tryd.prog .any ops Q m (L.setIfInBounds i true)) a' w') → wpAny Tryd.prog .any ops Q (m + 1) L a' w' := fun hr hne hh => wpAny_ready hr hne hh
  have g0 : wpOp Tryd.prog ops Q i0 (wpAny Tryd.prog .any ops Q (n + 3) (L0.setIfInBounds i0 true)) a w := by
    refine wpOp_step h0 fun K hK => ?_
    rw [if_pos (by rfl)]
    refine load_c rfl hx hL (hK _ _ ?_)
    rw [s1]
    have g1 : wpOp Tryd.prog ops Q i1 (wpAny Tryd.prog .any ops Q (n + 2) (L1.setIfInBounds i1 true)) (a.put (some ta) (cxV c)) w := by
      refine wpOp_step h1 fun K hK => ?_
      rw [if_pos (by rfl)]
      refine hop _ _ _ (fun t ht => eval_ne ht.symm) hG fun w3 hb3 => hK _ _ ?_
      rw [s3]
      exact last w3 hb3
    have g2 : Region.ready .any ops L1 = [i1, i2] → wpOp Tryd.prog ops Q i2 (wpAny Tryd.prog .any ops Q (n + 2) (L1.setIfInBounds i2 true)) (a.put (some ta) (cxV c)) w := by
      intro hr4
      refine wpOp_step h2 fun K hK => ?_
      rw [if_pos (by rfl)]
      refine store_c rfl ((eval_ne hau).trans hu) (eval_eq hsa) he hL.len (hK _ _ ?_)
      rw [s4]
      refine hq (r4 hr4) (by simp) fun i hi => ?_
      obtain rfl : i = i1 := by simpa using hi
      refine wpOp_step h1 fun K hK => ?_
      rw [if_pos (by rfl)]
      have b4 := row_beside w e (cxA c)
      refine hop _ _ _ (fun t ht => eval_ne ht.symm) (hGe _ hG) fun w3 hb3 => hK _ _ ?_
      rw [s5']
      have b5 : Beside (w.setRow e (cxA c)) w3 (fun _ => False) := Beside.of_below hb3 _
      exact tail w3 ((he.row c hL.len).beside b5 (fun h => h)) ((hf.beside b4 hfe).beside b5 (fun h => h)) ⟨hb3.os.trans b4.os, hb3.tape.trans b4.tape, hb3.output.trans b4.output, Nat.le_trans b4.size hb3.size, fun k hk hp => (hb3.block k (by simpa using hk)).trans (b4.block k hk fun z => hp (.inl z))⟩
    rcases r1 with r1 | r1
    · refine hq r1 (by simp) fun i hi => ?_
      rcases (by simpa using hi : i = i1 ∨ i = i2) with rfl | rfl
      · exact g1
      · exact g2 r1
    · refine hq r1 (by simp) fun i hi => ?_
      obtain rfl : i = i1 := by simpa using hi
      exact g1
  have g1 : wpOp Tryd.prog ops Q i1 (wpAny Tryd.prog .any ops Q (n + 3) (L0.setIfInBounds i1 true)) a w := by
    refine wpOp_step h1 fun K hK => ?_
    rw [if_pos (by rfl)]
    refine hop _ _ _ (fun t _ => rfl) hG fun w3 hb3 => hK _ _ ?_
    rw [s2]
    refine hq r2 (by simp) fun i hi => ?_
    obtain rfl : i = i0 := by simpa using hi
    refine wpOp_step h0 fun K hK => ?_
    rw [if_pos (by rfl)]
    refine load_c rfl ((eval_ne hbx).trans hx) (hL.below hb3) (hK _ _ ?_)
    rw [s3']
    show wpAny _ _ _ _ _ _ ((a.put (some tb) (.agg (evA ev))).put (some ta) (cxV c)) _
    rw [Act.put_comm a (x := some tb) (y := some ta) _ _ (by intro z hz e; cases hz; cases e; exact hab rfl)]
    exact last w3 hb3
  rcases r0 with r0 | r0
  · refine hq r0 (by simp) fun i hi => ?_
    rcases (by simpa using hi : i = i0 ∨ i = i1) with rfl | rfl
    · exact g0
    · exact g1
  · refine hq r0 (by simp) fun i hi => ?_
    rcases (by simpa using hi : i = i1 ∨ i = i0) with rfl | rfl
    · exact g1
    · exact g0
/-- A context, an event and a constant are handed back, by a region that draws its order. -/
theorem ret5 {Q : Exit → Act → World → Prop} {id : Nat} {ta tb x y u v r : Tmp} {p0 p1 p2 p3 p4 : String} {val : Value} {a : Act} {w : World} {b d e f : Nat} {c : Cx} {ev : Ev} (hr : RetT a ta tb x u v b e f) (hay : ta ≠ y)
    (hy : a.eval (.tmp y) = .pointer (some ⟨d, 0, none⟩)) (hL : Lc w b c) (hd : Bx w d (evA ev) 37) (he : ctxIn w e) (hf : evIn w f) (hde : d ≠ e) (hfe : f ≠ e)
    (h : ∀ w5, Cb w5 e c → Bx w5 f (evA ev) 37 → Beside w w5 (fun k => k = e ∨ k = f) → Q .normal (((a.put (some ta) (cxV c)).put (some tb) (.agg (evA ev))).put (some r) val) w5) :
    (Code.region id #[⟨some ta, .load 26 (.tmp x), 26, p0, #[], none⟩, ⟨some tb, .load 37 (.tmp y), 37, p1, #[⟨2, .gcOnly .lateStores⟩], none⟩,
      ⟨none, .store 26 (.tmp u) (.tmp ta), 0, p2, #[⟨0, .data⟩, ⟨0, .phase⟩, ⟨1, .textOnly .lateStores⟩], none⟩,
      ⟨none, .store 37 (.tmp v) (.tmp tb), 0, p3, #[⟨1, .data⟩, ⟨2, .chain⟩, ⟨0, .phase⟩, ⟨1, .phase⟩, ⟨2, .phase⟩], none⟩,
      ⟨some r, .assign (.const val), 4, p4, #[⟨3, .chain⟩, ⟨0, .phase⟩, ⟨1, .phase⟩, ⟨2, .phase⟩, ⟨3, .phase⟩], none⟩] true).wp Tryd.prog Q a w := by
  have bd : Beside w w.drew (fun _ => False) := Beside.of_below (drew_below w) _
  refine wp_region_any (by kernel_rfl) ?_
  change wpAny _ _ _ _ (1 + 4) _ _ w.drew
  refine ret_gen (L0 := #[false, false, false, false, false]) (L1 := #[true, false, false, false, false]) (L2 := #[false, true, false, false, false]) (L3 := #[true, true, false, false, false]) (L4 := #[true, false, true, false, false]) (L5 := #[true, true, true, false, false]) (L6 := #[true, true, true, true, false])
    (i0 := 0) (i1 := 1) (i2 := 2) (i3 := 3) rfl rfl rfl rfl hr (hL.below (drew_below w)) (he.beside bd (fun h => h)) (hf.beside bd (fun h => h)) hfe
    (fun w' => Bx w' d (evA ev) 37) (hd.beside bd (fun h => h)) (fun w' hw => hw.beside (row_beside w' e _) hde)
    (fun a' w' K ha hw hK => load_e rfl ((ha y hay.symm).trans hy) hw (hK _ (Below.refl _ _)))
    (.inl (by kernel_rfl)) (.inl (by kernel_rfl)) (by kernel_rfl) (by kernel_rfl) (fun _ => by kernel_rfl) (by kernel_rfl) rfl rfl rfl rfl rfl rfl rfl rfl ?_
  intro w5 h1 h2 h3
  refine wpAny_ready (rs := [4]) (by kernel_rfl) (by simp) (AllReady.cons rfl (fun K hK => ?_) AllReady.nil)
  rw [if_pos (by rfl)]
  go_simp
  exact hK _ _ (wpAny_done (by kernel_rfl) (h w5 h1 h2 ⟨h3.os, h3.tape, h3.output, h3.size, h3.block⟩) _)
theorem ret4 {Q : Exit → Act → World → Prop} {id : Nat} {ta tb x y u v : Tmp} {p0 p1 p2 p3 : String} {a : Act} {w : World} {b d e f : Nat} {c : Cx} {ev : Ev} (hr : RetT a ta tb x u v b e f) (hay : ta ≠ y)
    (hy : a.eval (.tmp y) = .pointer (some ⟨d, 0, none⟩)) (hL : Lc w b c) (hd : Bx w d (evA ev) 37) (he : ctxIn w e) (hf : evIn w f) (hde : d ≠ e) (hfe : f ≠ e)
    (h : ∀ w5, Cb w5 e c → Bx w5 f (evA ev) 37 → Beside w w5 (fun k => k = e ∨ k = f) → Q .normal ((a.put (some ta) (cxV c)).put (some tb) (.agg (evA ev))) w5) :
    (Code.region id #[⟨some ta, .load 26 (.tmp x), 26, p0, #[], none⟩, ⟨some tb, .load 37 (.tmp y), 37, p1, #[⟨2, .gcOnly .lateStores⟩], none⟩,
      ⟨none, .store 26 (.tmp u) (.tmp ta), 0, p2, #[⟨0, .data⟩, ⟨0, .phase⟩, ⟨1, .textOnly .lateStores⟩], none⟩,
      ⟨none, .store 37 (.tmp v) (.tmp tb), 0, p3, #[⟨1, .data⟩, ⟨2, .chain⟩, ⟨0, .phase⟩, ⟨1, .phase⟩, ⟨2, .phase⟩], none⟩] true).wp Tryd.prog Q a w := by
  have bd : Beside w w.drew (fun _ => False) := Beside.of_below (drew_below w) _
  refine wp_region_any (by kernel_rfl) ?_
  change wpAny _ _ _ _ (0 + 4) _ _ w.drew
  refine ret_gen (L0 := #[false, false, false, false]) (L1 := #[true, false, false, false]) (L2 := #[false, true, false, false]) (L3 := #[true, true, false, false]) (L4 := #[true, false, true, false]) (L5 := #[true, true, true, false]) (L6 := #[true, true, true, true])
    (i0 := 0) (i1 := 1) (i2 := 2) (i3 := 3) rfl rfl rfl rfl hr (hL.below (drew_below w)) (he.beside bd (fun h => h)) (hf.beside bd (fun h => h)) hfe
    (fun w' => Bx w' d (evA ev) 37) (hd.beside bd (fun h => h)) (fun w' hw => hw.beside (row_beside w' e _) hde)
    (fun a' w' K ha hw hK => load_e rfl ((ha y hay.symm).trans hy) hw (hK _ (Below.refl _ _)))
    (.inl (by kernel_rfl)) (.inl (by kernel_rfl)) (by kernel_rfl) (by kernel_rfl) (fun _ => by kernel_rfl) (by kernel_rfl) rfl rfl rfl rfl rfl rfl rfl rfl ?_
  intro w5 h1 h2 h3
  exact wpAny_done (by kernel_rfl) (h w5 h1 h2 ⟨h3.os, h3.tape, h3.output, h3.size, h3.block⟩) _
end Go.Proofs.YtfkhfjefddgkoaaDoor
