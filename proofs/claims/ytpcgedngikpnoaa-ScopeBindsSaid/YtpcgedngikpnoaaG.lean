/-
  Own, alike, refTo, made (written by mk.py).
-/
import Derived.Test.YtpcgedngikpnoaaF
import Derived.Test.YtpcgedngikpnoaaTW
import Derived.Laws.Rows
namespace Go.Proofs.Ytpcgedngikpnoaa
set_option maxRecDepth 100000
set_option linter.unusedSimpArgs false
set_option linter.unusedVariables false
open Go.RowKit

def ownB (s : Sym) : Bool := s.dfd && s.vis != 0
/-- The reference to what a symbol is. -/
abbrev refI (s : Sym) : Sym := ⟨s.name, s.ver, false, s.kind, false, 0, false, 0, 0⟩
theorem own_any (s : Sym) (w : World) : Calls Try.prog 21 #[symV s] w fun e w' => e = .returned (.bool (ownB s)) ∧ Below w.heap.size w w' := by
  have HB := Lib.hid (box_below w s)
  obtain ⟨c0, c1, c2, c3, c4, c5, c6, c7, c8⟩ := (Sx.new w s).cells
  go_enter Try.func21, Try.ntmps21
  go_wp2_with fail
  all_goals
    go_ret
    refine ⟨ret_bool ?_, HB.out⟩
    simp [ownB, *]
theorem down_any (s : Sym) (w : World) : Calls Try.prog 22 #[symV s] w fun e w' => e = .returned (.bool (ownB s)) ∧ Below w.heap.size w w' := by
  have HB := Lib.hid (box_below w s)
  obtain ⟨c0, c1, c2, c3, c4, c5, c6, c7, c8⟩ := (Sx.new w s).cells
  go_enter Try.func22, Try.ntmps22
  go_wp2_with fail
  all_goals
    go_ret
    refine ⟨ret_bool ?_, HB.out⟩
    simp [ownB, *]
theorem refTo_any (s : Sym) (w : World) : Calls Try.prog 36 #[symV s] w fun e w' => e = .returned (symV (refI s)) ∧ Below w.heap.size w w' := by
  have hb := box_below w s
  have hb2 := box_below (w.alloc (.cells (symA s) 25)) (refI s)
  have HB := Lib.hid (hb.trans (hb2.mono hb.size))
  obtain ⟨c0, c1, c2, c3, c4, c5, c6, c7, c8⟩ := (Sx.new w s).cells
  obtain ⟨q0, q1, q2, q3, q4, q5, q6, q7, q8⟩ := (Sx.new (w.alloc (.cells (symA s) 25)) (refI s)).cells
  clear hb hb2
  go_enter Try.func36, Try.ntmps36
  go_wp2
  refine bodyPost_ret (v := symV (refI s)) ?_ rfl ⟨rfl, HB.out⟩
  simp [results, Try.results36, go_sem, q0, q1, q2, q3, q4, q5, q6, q7, q8]
theorem alike_any (a b : Fd) (w : World) : Calls Try.prog 15 #[fdV a, fdV b] w fun e w' => e = .returned (.bool (decide (a = b))) ∧ Below w.heap.size w w' := by
  have hb1 : Below w.heap.size w ((w.alloc (.cells (fdA a) 29)).alloc (.cells (fdA b) 34)) := ((Below.refl _ _).alloc (Nat.le_refl _) _).alloc (by simp) _
  have h1 : Bx ((w.alloc (.cells (fdA a) 29)).alloc (.cells (fdA b) 34)) w.heap.size (fdA a) 29 := (Bx.new w (fdA a) 29).alloc _
  have h2 : Bx ((w.alloc (.cells (fdA a) 29)).alloc (.cells (fdA b) 34)) (w.heap.size + 1) (fdA b) 34 := by
    have := Bx.new (w.alloc (.cells (fdA a) 29)) (fdA b) 34
    simpa using this
  have HB := Lib.hid hb1
  obtain ⟨a0, a1, a2⟩ := a
  obtain ⟨b0, b1, b2⟩ := b
  have x0 := h1.c 0
  have x1 := h1.c 1
  have x2 := h1.c 2
  have y0 := h2.c 0
  have y1 := h2.c 1
  have y2 := h2.c 2
  clear hb1 h1 h2
  have HE := Lib.hid (show decide ((a0, a1, a2) = ((b0, b1, b2) : Fd)) = ((a0 == b0) && (a1 == b1) && (a2 == b2)) by
    rw [Bool.eq_iff_iff]
    simp [and_assoc])
  go_enter Try.func15, Try.ntmps15
  go_upto_region 1 with (fail)
  change Code.wp _ _ _ _ ((w.alloc (.cells (fdA (a0, a1, a2)) 29)).alloc (.cells (fdA (b0, b1, b2)) 34))
  generalize (w.alloc (.cells (fdA (a0, a1, a2)) 29)).alloc (.cells (fdA (b0, b1, b2)) 34) = w1 at *
  go_wp2_with fail
  all_goals
    go_ret
    refine ⟨ret_bool ?_, HB.out⟩
    rw [HE.out]
    simp [*]
theorem below_row {w w5 : World} {B r : Nat} (h : Below B w w5) (hr : B ≤ r) (cs : Array Value) : Below B w (w5.setRow r cs) :=
  ⟨h.os, h.tape, h.output, by rw [setRow_size]; exact h.size, fun k hk => (setRow_other w5 r k cs (by omega)).trans (h.block k hk)⟩
theorem wpl_store_im {ops : Array Oper} {rest : List Oper} {u v : Tmp} {q : TypeId} {s : String} {af : Array Edge} {a : Act} {w : World} {Q : Exit → Act → World → Prop} {r : Nat} {old cs : Array Value} (hb : Bx w r old 62) (ho : old.size = 15) (hs : cs.size = 15) (h1 : cs.all (·.oneCell') = true)
    (hu : a.eval (.tmp u) = .pointer (some ⟨r, 0, none⟩)) (hv : a.eval (.tmp v) = .agg cs) (h : wpList Try.prog ops Q rest a (w.setRow r cs)) : wpList Try.prog ops Q (⟨none, .store 62 (.tmp u) (.tmp v), q, s, af, none⟩ :: rest) a w :=
  wpList_plain rfl fun _ hK => wp_store_row 62 _ _ rfl r cs hu hv 62 old hb (by rw [hs]; exact Try.info_img) (by rw [ho, hs]) h1 (hK _ _ h)
theorem wpl_load_im {ops : Array Oper} {rest : List Oper} {t u : Tmp} {q : TypeId} {s : String} {af : Array Edge} {a : Act} {w : World} {Q : Exit → Act → World → Prop} {r : Nat} {p : Pl} {x : Im} (hb : Ix w r p x) (hu : a.eval (.tmp u) = .pointer (some ⟨r, 0, none⟩))
    (h : wpList Try.prog ops Q rest (a.put (some t) (imV p x)) w) : wpList Try.prog ops Q (⟨some t, .load 62 (.tmp u), q, s, af, none⟩ :: rest) a w :=
  wpList_plain rfl fun _ hK => wp_load_row 62 _ rfl r hu 62 _ (0, 0) _ hb.bx Try.underlying62 rfl Try.info_img (hK _ _ h)
/-- The image that is made of symbols. -/
def mkI (ss : List Sym) : Im := ⟨[], 0, [], [], [], ss, (List.range (cntS ss)).map (fillS ss (cntS ss) ss.length), filS ss, 6, [], [], [], [], [], 0⟩
abbrev mkP (sy bk fw : Option Addr × Nat) : Pl := ⟨(none, 0), (none, 0), (none, 0), sy, bk, fw, (none, 0), (none, 0), (none, 0), (none, 0), (none, 0)⟩
theorem mk_row {ss : List Sym} {k : Nat} (hk : k < cntS ss) : rowF (mkI ss).rows k = fillS ss (cntS ss) ss.length k := by
  unfold rowF mkI
  rw [List.getD_eq_getElem?_getD]
  simp [hk]
theorem mk_rows (ss : List Sym) : (mkI ss).rows.length = cntS ss := by simp [mkI]
theorem mk_fit {ss : List Sym} (hn : ss.length ≤ 512) (hs : ∀ s ∈ ss, s.name.length ≤ 140737488351232 ∧ s.ver.length ≤ 140737488351232) : FitS (mkI ss) := by
  have h1 := cntS_le hn
  have h2 : (filS ss).length = wlS ss := fil_len ss
  have h3 : wlS ss ≤ 64 := by
    unfold wlS wcN
    repeat' split
    all_goals omega
  refine ⟨Nat.le_trans hn (by decide), fun s h => (hs s h).1, fun s h => (hs s h).2, ?_, fun k => ?_, ?_⟩
  · rw [mk_rows]; omega
  · by_cases hk : k < cntS ss
    · rw [mk_row hk]
      exact Nat.le_trans (fill_len ss (cntS ss) ss.length k) (Nat.le_trans hn (by decide))
    · have : rowF (mkI ss).rows k = [] := by
        unfold rowF
        rw [List.getD_eq_getElem?_getD, List.getElem?_eq_none (by rw [mk_rows]; omega)]
        rfl
      rw [this]
      simp
  · show (filS ss).length ≤ _
    omega
theorem Rws.congr {w : World} {P : Nat → Prop} {A : Option Addr} {n c : Nat} {f g : Nat → List Int} (h : Rws w P A n c f) (he : ∀ k, k < n → f k = g k) : Rws w P A n c g :=
  ⟨h.nil, h.cap, h.blk, fun ad hA k hk => by rw [← he k hk]; exact h.at_ ad hA k hk⟩
set_option maxRecDepth 100000 in
set_option maxHeartbeats 4000000 in
theorem mkd_own (A : Option Addr) (n c : Nat) (ss : List Sym) (w : World) (h : Syl w (fun k => k < w.heap.size) A n c ss) (hn : n ≤ 512) (hs : ∀ s ∈ ss, s.name.length ≤ 140737488351232 ∧ s.ver.length ≤ 140737488351232) :
    Calls Try.prog 24 #[.slice A n c] w fun e w' => ∃ A' c' Af cf, e = .returned (imV (mkP (A, c) (A', c') (Af, cf)) (mkI ss)) ∧ TabV w' (fun k => w.heap.size < k ∧ k < w'.heap.size) A' (mkI ss).rows.length c' Af cf (rowF (mkI ss).rows) (mkI ss).words ∧ Below w.heap.size w w' := by
  obtain rfl := h.len
  have hbx := ibox_below w (mkP (none, 0) (none, 0) (none, 0)) noIm
  have HB1 := Lib.hid hbx
  have HX1 := Lib.hid (Ix.new w (mkP (none, 0) (none, 0) (none, 0)) noIm)
  have HQ := Lib.hid (qmake_own A c ss _ (h.lt hbx) hn fun s hs' => (hs s hs').1)
  have HS0 := Lib.hid h
  have HZ1 := Lib.hid (show (w.alloc (.cells (imA (mkP (none, 0) (none, 0) (none, 0)) noIm) 62)).heap.size = w.heap.size + 1 by simp)
  have HS1 := Lib.hid (h.lt hbx)
  clear hbx h
  go_enter Try.func24, Try.ntmps24
  go_upto_region 1 with (fail)
  change Code.wp _ _ _ _ (w.alloc (.cells (imA (mkP (none, 0) (none, 0) (none, 0)) noIm) 62))
  generalize w.alloc (.cells (imA (mkP (none, 0) (none, 0) (none, 0)) noIm) 62) = w1 at *
  go_upto_region 2 with (go_at_call 38; (with_reducible refine (HQ.out).mono ?_); rintro e w2 ⟨A', c', Af, cf, rfl, ht, hb2⟩; have HT2 := Lib.hid ht; have HB2 := Lib.hid hb2; clear ht hb2)
  have hbt := tab_box w2 (tabA A' (cntS ss) c' Af (wlS ss) cf 6)
  have HT3 := Lib.hid (HT2.out.keep fun k hk hl => hbt.1.block k hl)
  have HLT := Lib.hid (show w2.heap.size ≤ (w2.alloc (.cells (tabA A' (cntS ss) c' Af (wlS ss) cf 6) 57)).heap.size from hbt.1.size)
  have HX3 := Lib.hid ((HX1.out.below HB2.out).below hbt.1)
  have HY3 := Lib.hid hbt.2
  have HB3 := Lib.hid (HB1.out.trans ((HB2.out.trans (hbt.1.mono HB2.out.size)).mono HB1.out.size))
  clear hbt HT2 HS1 HX1 HB2 HB1 HQ
  change Code.wp _ _ _ _ (w2.alloc (.cells (tabA A' (cntS ss) c' Af (wlS ss) cf 6) 57))
  generalize w2.alloc (.cells (tabA A' (cntS ss) c' Af (wlS ss) cf 6) 57) = w3 at *
  generalize w2.heap.size = tb at *
  generalize w1.heap.size = z1 at *
  have t0 := cell_of_row w3 tb 0 _ _ _ HY3.out
  have t1 := cell_of_row w3 tb 1 _ _ _ HY3.out
  have t2 := cell_of_row w3 tb 2 _ _ _ HY3.out
  simp only [List.getElem?_toArray, List.getElem?_cons_succ, List.getElem?_cons_zero] at t0 t1 t2
  have hcl : Below w.heap.size w (w3.setRow w.heap.size (imA (mkP (A, c) (A', c') (Af, cf)) (mkI ss))) := below_row HB3.out (Nat.le_refl _) _
  have HB4 := Lib.hid hcl
  have HL := Lib.hid (show (mkI ss).rows.length = cntS ss ∧ (mkI ss).words.length = wlS ss from ⟨mk_rows ss, fil_len ss⟩)
  have HX4 := Lib.hid (show Bx (w3.setRow w.heap.size (imA (mkP (A, c) (A', c') (Af, cf)) (mkI ss))) w.heap.size (imA (mkP (A, c) (A', c') (Af, cf)) (mkI ss)) 62 from setRow_heap _ _ _ _ _ _ HX3.out.bx)
  clear hcl
  go_upto_region 2 with (fail)
  refine wp_region_lit ?_
  refine wpList_plain rfl fun K hK => ?_
  go_simp
  refine hK _ _ ?_
  clear hK K
  refine wpList_plain rfl fun K hK => ?_
  go_simp
  refine hK _ _ ?_
  clear hK K
  refine wpList_plain rfl fun K hK => ?_
  go_simp
  refine hK _ _ ?_
  clear hK K
  have HCS := Lib.hid (show imA (mkP (A, c) (A', c') (Af, cf)) (mkI ss) = #[.string ⟨#[]⟩, .int .i64 0, .slice none 0 0, .slice none 0 0, .slice none 0 0, .slice A ss.length c, .slice A' (cntS ss) c', .slice Af (wlS ss) cf, .int .i64 6, .slice none 0 0, .slice none 0 0, .slice none 0 0, .slice none 0 0, .slice none 0 0, .int .i64 0] from by
    simp only [imA, HL.out.1, HL.out.2]; rfl)
  refine wpl_store_im (cs := imA (mkP (A, c) (A', c') (Af, cf)) (mkI ss)) HX3.out.bx rfl rfl (by simp [Value.oneCell']) rfl (congrArg Value.agg HCS.out.symm) ?_
  have HT4 := Lib.hid (HT3.out.keep (w' := w3.setRow w.heap.size (imA (mkP (A, c) (A', c') (Af, cf)) (mkI ss))) fun k hk _ => setRow_other w3 _ k _ (by have := HZ1.out; omega))
  have HS4 := Lib.hid (HS0.out.lt HB4.out)
  have HZ4 := Lib.hid (show (w3.setRow w.heap.size (imA (mkP (A, c) (A', c') (Af, cf)) (mkI ss))).heap.size = w3.heap.size by simp)
  clear HT3 HX3 HY3 HB3 t0 t1 t2 HCS
  generalize w3.setRow w.heap.size (imA (mkP (A, c) (A', c') (Af, cf)) (mkI ss)) = w4 at *
  obtain ⟨k0, k1, k2, k3, k4, k5, k6, k7, k8, k9, k10, k11, k12, k13, k14⟩ := Ix.cells ⟨HX4.out⟩
  go_upto_region 99 with (fail)
  refine bodyPost_ret (v := imV (mkP (A, c) (A', c') (Af, cf)) (mkI ss)) (by simp [results, Try.results24, go_sem, k0, k1, k2, k3, k4, k5, k6, k7, k8, k9, k10, k11, k12, k13, k14]) rfl ⟨A', c', Af, cf, rfl, ?_, HB4.out⟩
  have hz4 := HZ4.out
  have hlt := HLT.out
  have hz1 := HZ1.out
  have ht := HT4.out.weak (Q := fun k => w.heap.size < k ∧ k < w4.heap.size) fun k hk => by omega
  show TabV w4 _ A' (mkI ss).rows.length c' Af cf (rowF (mkI ss).rows) (filS ss)
  rw [HL.out.1]
  exact ⟨ht.rows.congr fun k hk => (mk_row hk).symm, ht.words⟩
theorem mkd_any (A : Option Addr) (n c : Nat) (ss : List Sym) (w : World) (h : Syl w (fun k => k < w.heap.size) A n c ss) (hn : n ≤ 512) (hs : ∀ s ∈ ss, s.name.length ≤ 140737488351232 ∧ s.ver.length ≤ 140737488351232) :
    Calls Try.prog 24 #[.slice A n c] w fun e w' => ∃ p, e = .returned (imV p (mkI ss)) ∧ SyIn w' (fun k => k < w'.heap.size) p (mkI ss) ∧ Below w.heap.size w w' :=
  (mkd_own A n c ss w h hn hs).mono fun e w' ⟨A', c', Af, cf, h1, h2, h3⟩ => ⟨_, h1, ⟨by have := h.lt h3; obtain rfl := h.len; exact this, h2.weak fun _ hk => hk.2⟩, h3⟩
end Go.Proofs.Ytpcgedngikpnoaa
