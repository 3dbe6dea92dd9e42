/-
  The instruction that stands at PC.
  A context is put back, cell by cell.
  Contexts as whole values: loaded out of a box, stored into one.
-/
import Derived.Test.YtfkhfjefddgkoaaDoorZG
import Derived.Test.YtfkhfjefddgkoaaDoorZSAg
import Derived.Deep.MidRow
namespace Go.Proofs.YtfkhfjefddgkoaaDoor
open Go.RowKit

def insO : Option Ins → Array Value
  | some i => #[.int .i64 i.op, .int .i64 i.a, .int .i64 i.b, .int .i64 i.c, .int .i64 i.n]
  | none => #[.int .i64 0, .int .i64 0, .int .i64 0, .int .i64 0, .int .i64 0]
theorem decI_eight : ∀ (l : Str), l.length = 8 → ∃ i, Cod.decI l = [i]
  | [_, _, _, _, _, _, _, _], _ => ⟨_, rfl⟩
set_option maxHeartbeats 4000000 in
theorem instruction_any {w : World} {B g s : Nat} {F : Nat → Prop} {c : Cx} {ss : List Seg} (h : Lies w B s F ss) (hm : Mc w g c s) (hp : I64 c.pc) (hs : Cod.Shps w) :
    Calls Tryd.prog 64 #[.pointer (some ⟨g, 0, none⟩)] w fun en w' => en = .returned (.tuple #[.agg (insO (instM ss c).2), .int .i64 (instM ss c).1]) ∧ Below w.heap.size w w' := by
  go_enter Tryd.func64, Tryd.ntmps64
  go_upto_region 1 with (fail)
  have HB1 := Lib.hid (show Below w.heap.size w (w.alloc (.cells #[.int .i64 0, .int .i64 0, .int .i64 0, .int .i64 0, .int .i64 0] 51)) from (Below.refl _ _).alloc (Nat.le_refl _) _)
  have HX := Lib.hid (Bx.new w #[.int .i64 0, .int .i64 0, .int .i64 0, .int .i64 0, .int .i64 0] 51)
  have h1 := h.below HB1.out
  have hm1 := hm.below HB1.out
  have hs1 : Cod.Shps (w.alloc (.cells #[.int .i64 0, .int .i64 0, .int .i64 0, .int .i64 0, .int .i64 0] 51)) := Cod.Shps.keep hs fun k hk => HB1.out.block k hk
  generalize w.alloc (.cells #[.int .i64 0, .int .i64 0, .int .i64 0, .int .i64 0, .int .i64 0] 51) = w1 at *
  have HKE := Lib.hid (show ∀ X, Below w1.heap.size w1 X → (X.cell? ⟨g, 0, none⟩ = some (.int .i64 c.pc) ∧ X.cell? ⟨g, 18, none⟩ = some (.pointer (some ⟨s, 0, none⟩))) from
    fun X hX => ⟨(hm1.below hX).pc, (hm1.below hX).space⟩)
  have HS := Lib.hid (show ∀ X, Below w1.heap.size w1 X → Cod.Shps X from fun X hX => Cod.Shps.keep hs1 fun k hk => hX.block k hk)
  have HEN := Lib.hid (show ∀ X, Below w1.heap.size w1 X → Below w.heap.size w X from fun X hX => HB1.out.trans (hX.mono HB1.out.size))
  have HST := Lib.hid (show ∀ (X : World) (i : Nat) (v : Value), Below w.heap.size w X → Below w.heap.size w (X.setCell ⟨w.heap.size, i, none⟩ v) from fun X i v hX => hX.setCell (p := ⟨w.heap.size, i, none⟩) (Nat.le_refl _) v)
  obtain ⟨q1, q2⟩ := HKE.out _ (Below.refl _ _)
  by_cases hg : goesS ss c.pc 8 4 = 0
  · have HFE := Lib.hid (show ∀ X, Below w1.heap.size w1 X → Calls Tryd.prog 84 #[.pointer (some ⟨s, 0, none⟩), .int .i64 c.pc] X fun e w' => Below w1.heap.size w1 w' ∧ ∃ A cp, e = .returned (.tuple #[.slice A 8 cp, .int .i64 0]) ∧ Src w' (fun _ => True) A 8 cp (cells (gotS ss c.pc 8)) from
      fun X hX => (Fetch_s hp (h1.below hX)).mono fun e w' hh => by
        obtain ⟨hb, A, l, cp, he, hl, ho⟩ := hh
        rw [if_pos hg] at hl ho
        rw [hg] at he
        have h8 : l = 8 := hl.trans (gotS_len hg)
        subst h8
        exact ⟨hX.trans (hb.mono hX.size), A, cp, he, (Src.of_own ho).weak fun _ _ => trivial⟩)
    clear h hm hs h1 hm1 hs1
    go_wp2_with fail
    go_region_held3 (fun X => X.cell? ⟨g, 0, none⟩ = some (.int .i64 c.pc) ∧ X.cell? ⟨g, 18, none⟩ = some (.pointer (some ⟨s, 0, none⟩))) (first | (exact ⟨by assumption, by assumption⟩) | go_keep) (first
      | (go_at_call 84; (with_reducible refine (HFE.out _ (by first | assumption | exact below_draw6 (by assumption) | exact Below.refl _ _ | exact drew_below _)).mono ?_); rintro e w2 ⟨hb2, A, cp, rfl, hsrc⟩; obtain ⟨p1, p2⟩ := HKE.out _ hb2))
    all_goals
      have HDE := Lib.hid (Cod.decode_any _ A 8 cp (gotS ss c.pc 8) w2 hsrc (by omega) (HS.out _ hb2))
      obtain ⟨i, hi⟩ := decI_eight (gotS ss c.pc 8) (gotS_len hg)
      have HDB := Lib.hid (show Cod.decB (gotS ss c.pc 8) = Cod.mayB i by simp [Cod.decB, hi, gotS_len hg])
      have HIM := Lib.hid (show instM ss c = if Cod.mayB i = true then (0, some i) else (40, none) by simp [instM, hg, hi])
      clear hsrc
      go_wp2_with fail
      refine (HDE.out).mono ?_
      rintro e w3 ⟨hb3, ⟨hd, rfl⟩ | ⟨hd, A2, c2, rfl, hown⟩⟩
      · rw [HDB.out] at hd
        have HI := Lib.hid (show instM ss c = (40, none) by rw [HIM.out, hd]; rfl)
        have hb4 := hb2.trans (hb3.mono hb2.size)
        have hy := HX.out.below hb4
        have e0 := hy.c 0
        have u0 := hy.f 0
        have e1 := hy.c 1
        have u1 := hy.f 1
        have e2 := hy.c 2
        have u2 := hy.f 2
        have e3 := hy.c 3
        have u3 := hy.f 3
        have e4 := hy.c 4
        have u4 := hy.f 4
        simp only [List.getElem?_toArray, List.getElem?_cons_succ, List.getElem?_cons_zero] at e0 e1 e2 e3 e4
        clear hy
        go_wp2_with fail
        (try simp only [Exit.inBlock, Exit.then])
        rw [HI.out]
        refine bodyPost_ret (v := .tuple #[.agg #[.int .i64 0, .int .i64 0, .int .i64 0, .int .i64 0, .int .i64 0], .int .i64 40]) ?_ rfl ⟨rfl, ?_⟩
        · rw [results_cell_tmp rfl]
          go_simp
        · repeat (with_reducible refine HST.out _ _ _ ?_)
          with_reducible exact HEN.out _ hb4
      · rw [HDB.out] at hd
        have HI := Lib.hid (show instM ss c = (0, some i) by rw [HIM.out, hd]; rfl)
        obtain ⟨A3, hA3⟩ : ∃ A3, A2 = some A3 := by
          cases A2 with
          | some A3 => exact ⟨A3, rfl⟩
          | none =>
            have hn := ((Cod.Isl.of_own hown).nil rfl).1
            rw [hi] at hn
            cases hn
        subst hA3
        have hisl := Cod.Isl.of_own hown
        rw [hi] at hisl
        obtain ⟨rb, ro, rfl⟩ := hisl.plain (by simp)
        obtain ⟨l0, l1, l2, l3, l4⟩ := hisl.get 0 (by simp)
        simp only [Nat.zero_mul, Nat.add_zero, List.getElem_cons_zero] at l0 l1 l2 l3 l4
        have hb4 := hb2.trans (hb3.mono hb2.size)
        have hy := HX.out.below hb4
        have e0 := hy.c 0
        have u0 := hy.f 0
        have e1 := hy.c 1
        have u1 := hy.f 1
        have e2 := hy.c 2
        have u2 := hy.f 2
        have e3 := hy.c 3
        have u3 := hy.f 3
        have e4 := hy.c 4
        have u4 := hy.f 4
        simp only [List.getElem?_toArray, List.getElem?_cons_succ, List.getElem?_cons_zero] at e0 e1 e2 e3 e4
        clear hy
        rw [hi]
        simp only [List.length_cons, List.length_nil, Nat.zero_add]
        clear hown hisl
        go_wp2_with fail
        (try simp only [Exit.inBlock, Exit.then])
        rw [HI.out]
        refine bodyPost_ret (v := .tuple #[.agg #[.int .i64 i.op, .int .i64 i.a, .int .i64 i.b, .int .i64 i.c, .int .i64 i.n], .int .i64 0]) ?_ rfl ⟨rfl, ?_⟩
        · rw [results_cell_tmp rfl]
          go_simp
        · repeat (with_reducible refine HST.out _ _ _ ?_)
          with_reducible exact HEN.out _ hb4
  · have HI := Lib.hid (show instM ss c = (goesS ss c.pc 8 4, none) by simp [instM, hg])
    have hg2 : (goesS ss c.pc 8 4 == 0) = false := by simpa using hg
    have HFE := Lib.hid (show ∀ X, Below w1.heap.size w1 X → Calls Tryd.prog 84 #[.pointer (some ⟨s, 0, none⟩), .int .i64 c.pc] X fun e w' => Below w1.heap.size w1 w' ∧ ∃ A l cp, e = .returned (.tuple #[.slice A l cp, .int .i64 (goesS ss c.pc 8 4)]) from
      fun X hX => (Fetch_s hp (h1.below hX)).mono fun e w' hh => by
        obtain ⟨hb, A, l, cp, he, hl, ho⟩ := hh
        exact ⟨hX.trans (hb.mono hX.size), A, l, cp, he⟩)
    clear h hm hs h1 hm1 hs1 hg
    generalize goesS ss c.pc 8 4 = er at *
    go_wp2_with fail
    go_region_held3 (fun X => X.cell? ⟨g, 0, none⟩ = some (.int .i64 c.pc) ∧ X.cell? ⟨g, 18, none⟩ = some (.pointer (some ⟨s, 0, none⟩))) (first | (exact ⟨by assumption, by assumption⟩) | go_keep) (first
      | (go_at_call 84; (with_reducible refine (HFE.out _ (by first | assumption | exact below_draw6 (by assumption) | exact Below.refl _ _ | exact drew_below _)).mono ?_); rintro e w2 ⟨hb2, A, l, cp, rfl⟩; obtain ⟨p1, p2⟩ := HKE.out _ hb2))
    all_goals
      have hy := HX.out.below hb2
      have e0 := hy.c 0
      have u0 := hy.f 0
      have e1 := hy.c 1
      have u1 := hy.f 1
      have e2 := hy.c 2
      have u2 := hy.f 2
      have e3 := hy.c 3
      have u3 := hy.f 3
      have e4 := hy.c 4
      have u4 := hy.f 4
      simp only [List.getElem?_toArray, List.getElem?_cons_succ, List.getElem?_cons_zero] at e0 e1 e2 e3 e4
      clear hy
      go_wp2_with fail
      (try simp only [Exit.inBlock, Exit.then])
      rw [HI.out]
      refine bodyPost_ret (v := .tuple #[.agg #[.int .i64 0, .int .i64 0, .int .i64 0, .int .i64 0, .int .i64 0], .int .i64 er]) ?_ rfl ⟨rfl, ?_⟩
      · rw [results_cell_tmp rfl]
        go_simp
      · repeat (with_reducible refine HST.out _ _ _ ?_)
        with_reducible exact HEN.out _ hb2
end Go.Proofs.YtfkhfjefddgkoaaDoor

namespace Go.Proofs.YtfkhfjefddgkoaaDoor
open Go.RowKit

/-- Cells of a block are set, one behind the other, from the k-th on. -/
def setL (w : World) (g : Nat) : Nat → List Value → World
  | _, [] => w
  | k, v :: vs => setL (w.setCell ⟨g, k, none⟩ v) g (k + 1) vs
theorem setL_beside (g : Nat) : ∀ (vs : List Value) (k : Nat) (w : World), Beside w (setL w g k vs) (fun j => j = g)
  | [], _, w => Beside.refl w _
  | v :: vs, k, w => by
    have h1 := beside_cell w g k v
    have h2 := setL_beside g vs (k + 1) (w.setCell ⟨g, k, none⟩ v)
    exact ⟨h2.os.trans h1.os, h2.tape.trans h1.tape, h2.output.trans h1.output, Nat.le_trans h1.size h2.size, fun j hj hp => (h2.block j (Nat.lt_of_lt_of_le hj h1.size) hp).trans (h1.block j hj hp)⟩
def setA (a : Array Value) : Nat → List Value → Array Value
  | _, [] => a
  | k, v :: vs => setA (a.setIfInBounds k v) (k + 1) vs
theorem setL_bx (g : Nat) (t : TypeId) : ∀ (vs : List Value) (k : Nat) (w : World) (cs : Array Value), Bx w g cs t → Bx (setL w g k vs) g (setA cs k vs) t
  | [], _, _, _, h => h
  | v :: vs, k, w, _, h => setL_bx g t vs (k + 1) _ _ (heap_setCell_same w g k _ _ v h)
theorem setA_eq : ∀ (vs : List Value) (k : Nat) (l : List Value), k + vs.length ≤ l.length → setA l.toArray k vs = (l.take k ++ vs ++ l.drop (k + vs.length)).toArray
  | [], k, l, _ => by simp [setA]
  | v :: vs, k, l, h => by
    simp only [List.length_cons] at h
    have hk : k < l.length := by omega
    rw [setA, List.setIfInBounds_toArray, setA_eq vs (k + 1) (l.set k v) (by rw [List.length_set]; omega)]
    have e1 : (l.set k v).take (k + 1) = l.take k ++ [v] := by
      rw [List.take_succ_eq_append_getElem (by rw [List.length_set]; exact hk), List.getElem_set_self, List.take_set_of_le (Nat.le_refl k)]
    have e2 : (l.set k v).drop (k + 1 + vs.length) = l.drop (k + (v :: vs).length) := by
      rw [List.drop_set_of_lt (by omega)]
      congr 1
      simp only [List.length_cons]
      omega
    rw [e1, e2]
    simp
theorem Mc.restore {w : World} {g s : Nat} {c d : Cx} (h : Mc w g d s) (hc : c.rs.length = 16) : Mc (setL w g 0 (cxC c)) g c s := by
  refine ⟨?_, hc⟩
  have h1 := setL_bx g _ (cxC c) 0 w _ h.bx
  have n1 : (cxC c).length = 18 := by simp [cxC, ints_len, hc]
  have n2 : (cxC d).length = 18 := by simp [cxC, ints_len, h.len]
  have e1 : mcC d s = cxC d ++ [.pointer (some ⟨s, 0, none⟩)] := rfl
  have e2 : mcC c s = cxC c ++ [.pointer (some ⟨s, 0, none⟩)] := rfl
  rw [setA_eq _ _ _ (by rw [e1, List.length_append, n1, n2]; omega), n1, e1, List.drop_append_of_le_length (by rw [n2]; omega), Nat.zero_add, List.drop_of_length_le (by rw [n2]; exact Nat.le_refl _)] at h1
  rw [e2]
  simpa using h1
theorem Ran.restore {w w1 : World} {B g s : Nat} {F : Nat → Prop} {c d : Cx} {ss : List Seg} (h : Ran w w1 B g s F d ss) (hc : c.rs.length = 16) : Ran w (setL w1 g 0 (cxC c)) B g s F c ss :=
  h.then fun F1 l1 m1 n1 => ⟨F1, l1.beside (setL_beside g _ 0 w1) (fun _ hk e => n1 (e ▸ hk)), m1.restore hc, n1, (setL_beside g _ 0 w1).weak fun _ _ hk => .inr hk, fun _ hk => .inl hk⟩
end Go.Proofs.YtfkhfjefddgkoaaDoor

namespace Go.Proofs.YtfkhfjefddgkoaaDoor
open Go.RowKit

theorem cxC_len {c : Cx} (h : c.rs.length = 16) : (cxC c).length = 18 := by simp [cxC, ints_len, h]
theorem cxC_one (c : Cx) : (cxC c).toArray.all (·.oneCell') = true := by
  simp [cxC, ints, Value.oneCell']
abbrev cxA (c : Cx) : Array Value := (cxC c).toArray
abbrev cxV (c : Cx) : Value := .agg (cxA c)
theorem Tryd.info_ctx : (Tryd.prog.info? 26).map (·.size) = some 18 := by kernel_rfl
/-- A box of eighteen cells, and what lies in it. -/
def ctxIn (w : World) (b : Nat) : Prop := ∃ cs : Array Value, Bx w b cs 26 ∧ cs.size = 18
def cellsIn (w : World) (b : Nat) : Array Value := match w.heap[b]? with
  | some (.cells cs _ _) => cs
  | _ => #[]
theorem cellsIn_of {w : World} {b : Nat} {cs : Array Value} {t : TypeId} (h : Bx w b cs t) : cellsIn w b = cs := by
  unfold cellsIn
  rw [h]
theorem load_ctx {w : World} {b : Nat} (h : ctxIn w b) : (Instr.loadAt 26 (.pointer (some ⟨b, 0, none⟩))).run Tryd.prog w = .ok (.agg (cellsIn w b)) w := by
  obtain ⟨cs, hb, hs⟩ := h
  rw [cellsIn_of hb]
  simp only [Instr.loadAt, Instr.sureAddr, Sem.run_bind, Sem.run_pure, Result.andThen_ok]
  exact run_loadVar_row w b 26 26 cs (0, 0) _ hb Tryd.underlying26 rfl (by rw [hs]; exact Tryd.info_ctx)
theorem store_ctx {w : World} {b : Nat} {cs : Array Value} (h : ctxIn w b) (h1 : cs.all (·.oneCell') = true) (h2 : cs.size = 18) : (Instr.storeAt 26 (.pointer (some ⟨b, 0, none⟩)) (.agg cs)).run Tryd.prog w = .ok () (w.setRow b cs) := by
  obtain ⟨c0, hb, hs⟩ := h
  simp only [Instr.storeAt, Instr.sureAddr, Sem.run_bind, Sem.run_pure, Result.andThen_ok]
  exact run_storeVar_row w b 26 26 c0 cs hb (by rw [h2]; exact Tryd.info_ctx) (by rw [hs, h2]) h1
/-- A context in a box. -/
structure Cb (w : World) (b : Nat) (c : Cx) : Prop where
  bx : Bx w b (cxA c) 26
  len : c.rs.length = 16
section
variable {w w' : World} {b : Nat} {c : Cx}
theorem Cb.isIn (h : Cb w b c) : ctxIn w b := ⟨_, h.bx, by simpa using cxC_len h.len⟩
theorem Cb.cells (h : Cb w b c) : cellsIn w b = cxA c := cellsIn_of h.bx
theorem Cb.lt (h : Cb w b c) : b < w.heap.size := h.bx.lt
theorem Cb.below (h : Cb w b c) (hb : Below w.heap.size w w') : Cb w' b c := ⟨h.bx.below hb, h.len⟩
theorem Cb.keep (h : Cb w b c) (hk : w'.heap[b]? = w.heap[b]?) : Cb w' b c := ⟨hk.trans h.bx, h.len⟩
theorem Cb.beside {p : Nat → Prop} (h : Cb w b c) (hb : Beside w w' p) (hn : ¬ p b) : Cb w' b c := ⟨h.bx.beside hb hn, h.len⟩
theorem Cb.new (w : World) (c : Cx) (h : c.rs.length = 16) : Cb (w.alloc (.cells (cxA c) 26)) w.heap.size c := ⟨Bx.new _ _ _, h⟩
theorem Cb.pc (h : Cb w b c) : w.cell? ⟨b, 0, none⟩ = some (.int .i64 c.pc) := h.bx.c 0
theorem Cb.tp (h : Cb w b c) : w.cell? ⟨b, 1, none⟩ = some (.int .i64 c.tp) := h.bx.c 1
theorem Cb.at_ (h : Cb w b c) (a : Nat) (ha : a < 16) : w.cell? ⟨b, 2 + a, none⟩ = some (.int .i64 (c.reg (a : Int))) := by
  rw [h.bx.c (2 + a)]
  have hl : a < c.rs.length := by rw [h.len]; exact ha
  rw [List.getElem?_toArray, cxC, show 2 + a = a + 1 + 1 by omega, List.getElem?_cons_succ, List.getElem?_cons_succ]
  simp [ints, Cx.reg, hl]
theorem Cb.fro (h : Cb w b c) (j : Nat) : w.frozen? ⟨b, j, none⟩ = false := h.bx.f j
theorem Cb.jump (h : Cb w b c) (v : Int) : Cb (w.setCell ⟨b, 0, none⟩ (.int .i64 v)) b (c.to v) := ⟨heap_setCell_same w b 0 _ _ (.int .i64 v) h.bx, h.len⟩
theorem Cb.set (h : Cb w b c) (a : Nat) (v : Int) : Cb (w.setCell ⟨b, 2 + a, none⟩ (.int .i64 v)) b (c.put (a : Int) v) := by
  refine ⟨?_, by simp [Cx.put, h.len]⟩
  have h1 := heap_setCell_same w b (2 + a) _ _ (.int .i64 v) h.bx
  have e : (cxA c).setIfInBounds (2 + a) (.int .i64 v) = cxA (c.put (a : Int) v) := by
    rw [List.setIfInBounds_toArray, cxC, cxA, cxC, show 2 + a = a + 1 + 1 by omega, List.set_cons_succ, List.set_cons_succ]
    simp [ints, Cx.put, List.map_set]
  rw [e] at h1
  exact h1
/-- A box of that kind is written over. -/
theorem ctxIn.row (h : ctxIn w b) (c : Cx) (hl : c.rs.length = 16) : Cb (w.setRow b (cxA c)) b c := by
  obtain ⟨cs, hb, _⟩ := h
  exact ⟨setRow_heap w b cs _ 26 (0, 0) hb, hl⟩
theorem row_beside (w : World) (b : Nat) (cs : Array Value) : Beside w (w.setRow b cs) (fun k => k = b) := ⟨rfl, rfl, rfl, by simp, fun k _ hk => setRow_other w b k cs hk⟩
theorem Cb.value (h : Cb w b c) : (loadVar 26 ⟨b, 0, none⟩).run Tryd.prog w = .ok (cxV c) w :=
  run_loadVar_row w b 26 26 _ (0, 0) _ h.bx Tryd.underlying26 rfl (by rw [show (cxA c).size = 18 by simpa using cxC_len h.len]; exact Tryd.info_ctx)
end
theorem Tryd.info_ev : (Tryd.prog.info? 37).map (·.size) = some 5 := by kernel_rfl
theorem ev_value {w : World} {b : Nat} {e : Ev} (h : Bx w b (evA e) 37) : (loadVar 37 ⟨b, 0, none⟩).run Tryd.prog w = .ok (.agg (evA e)) w :=
  run_loadVar_row w b 37 37 _ (0, 0) _ h Tryd.underlying37 rfl Tryd.info_ev
theorem results_cell_cell {fn : Func} {p q : Tmp} {t u : TypeId} (h : fn.results = #[.cell p t, .cell q u]) (tmps : Array Value) (P : Program) (w : World) :
    (results fn tmps).run P w =
      ((asAddr (tmps.getD p undef)).run P w).andThen fun a w₁ => ((loadVar t a).run P w₁).andThen fun v w₂ => ((asAddr (tmps.getD q undef)).run P w₂).andThen fun a' w₃ => ((loadVar u a').run P w₃).andThen fun v' w₄ => .ok (.tuple #[v, v']) w₄ := by
  simp only [results, h]
  simp [Sem.run_bind, Result.andThen]
/-- What a function hands back that hands back a context and an event: out of their boxes. -/
theorem back_ce {fn : Func} {p q : Tmp} (hf : fn.results = #[.cell p 26, .cell q 37]) {tmps : Array Value} {w : World} {b d : Nat} {c : Cx} {e : Ev} (hp : tmps.getD p undef = .pointer (some ⟨b, 0, none⟩)) (hq : tmps.getD q undef = .pointer (some ⟨d, 0, none⟩))
    (hb : Cb w b c) (hd : Bx w d (evA e) 37) : (results fn tmps).run Tryd.prog w = .ok (.tuple #[cxV c, .agg (evA e)]) w := by
  rw [results_cell_cell hf, hp, hq]
  simp [asAddr, hb.value, ev_value hd]
abbrev al (w : World) (a : Array Value) (t : TypeId) : World := w.alloc (.cells a t)
theorem al_size (w : World) (a : Array Value) (t : TypeId) : (al w a t).heap.size = w.heap.size + 1 := by simp
theorem al_two (w : World) (a b : Array Value) (t u : TypeId) : Bx (al (al w a t) b u) w.heap.size a t ∧ Bx (al (al w a t) b u) (w.heap.size + 1) b u ∧ Below w.heap.size w (al (al w a t) b u) := by
  refine ⟨(Bx.new w a t).alloc _, ?_, ((Below.refl _ _).alloc (Nat.le_refl _) _).alloc (by simp) _⟩
  have := Bx.new (al w a t) b u
  rw [al_size] at this
  exact this
theorem al_three (w : World) (a b c : Array Value) (t u v : TypeId) : Bx (al (al (al w a t) b u) c v) w.heap.size a t ∧ Bx (al (al (al w a t) b u) c v) (w.heap.size + 1) b u ∧ Bx (al (al (al w a t) b u) c v) (w.heap.size + 1 + 1) c v ∧ Below w.heap.size w (al (al (al w a t) b u) c v) := by
  obtain ⟨h1, h2, h3⟩ := al_two w a b t u
  refine ⟨h1.alloc _, h2.alloc _, ?_, h3.alloc (by rw [al_size, al_size]; omega) _⟩
  have := Bx.new (al (al w a t) b u) c v
  rw [al_size, al_size] at this
  exact this
def cx0 : Cx := ⟨0, 0, [0, 0, 0, 0, 0, 0, 0, 0, 0, 0, 0, 0, 0, 0, 0, 0]⟩
end Go.Proofs.YtfkhfjefddgkoaaDoor
