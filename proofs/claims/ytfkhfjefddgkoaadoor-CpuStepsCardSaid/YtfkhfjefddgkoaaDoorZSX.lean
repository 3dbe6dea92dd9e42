/-
  One block put into a list of blocks: slices.Insert where there is room.
  One block put into a list of blocks: slices.Insert where there is no room; in all cases.
  A new region among the others: insert.
-/
import Derived.Test.YtfkhfjefddgkoaaDoorZSU
import Derived.Laws.Externs
import Derived.Shelf.RegionOpen
import Derived.Shelf.RegionOpenPlain
namespace Go.Proofs.YtfkhfjefddgkoaaDoor
open Go.RowKit

/-- A copy of blocks onto a row: the run. -/
theorem run_copy_blocks {w : World} (ty : TypeId) (g off dl dc : Nat) (ad : Addr) (sl sc m : Nat) {cur : Array Value} (cs : List Value) (hg : Bx w g cur 122) (hm : Nat.min sl dl = m) (hn : cs.length = m * 4) (hsrc : ∀ j v, cs[j]? = some v → w.cell? (ad.add j) = some v) (hfit : off + cs.length ≤ cur.size) (h1 : ∀ v ∈ cs, v.oneCell' = true) :
    (Builtin.copy_ #[93, 93] ty #[.slice (some ⟨g, off, none⟩) dl dc, .slice (some ad) sl sc]).run Tryd.prog w = .ok (goInt m) (w.setRow g (cur.toList.take off ++ cs ++ cur.toList.drop (off + cs.length)).toArray) := by
  obtain ⟨i0, z, hi0, _, _, hz1, _⟩ := block_parts
  have hf := run_firstCells_some (P := Tryd.prog) w 4 m ad sl sc cs hn hsrc
  have hst := run_storeCells_at Tryd.prog g off 122 cs 0 cur w hg (by simpa using hfit) h1
  simp only [Nat.add_zero] at hst
  simp [Builtin.copy_, run_underlying Tryd.underlying93, Builtin.lenOf, sizeOf, typeInfo, hi0, hz1, hm, hf, hst]
/-- A copy whose run is known, as a step of a region that draws its order, and of one that does not. -/
theorem step_copy {P : Program} {ops : Array Oper} {o : Oper} {a : Act} {w w' : World} {K : Act → World → Prop} {Q : Exit → Act → World → Prop} {E : Prop} {t : TypeId} {u v v' : Value} (hg : o.guard = none) (s x : Operand) (hop : o.op = .call { callee := .builtin .copy, args := #[s, x], argTypes := #[t, t] })
    (hs : a.eval s = u) (hx : a.eval x = v) (hr : (Builtin.copy_ #[t, t] o.type #[u, v]).run P w = .ok v' w') (hK : K (a.put o.dst v') w') : if Region.wanted o (yielded ops a.tmps) = true then Oper.wp P o a w K Q else E := by
  rw [if_pos (show Region.wanted o (yielded ops a.tmps) = true by simp [Region.wanted, hg])]
  unfold Oper.wp
  simp [execOp, hop, resolve, invoke, builtin, hs, hx, hr, Result.andThen]
  exact hK
theorem list_copy {P : Program} {ops : Array Oper} {rest : List Oper} {o : Oper} {a : Act} {w w' : World} {Q : Exit → Act → World → Prop} {t : TypeId} {u v v' : Value} (hg : o.guard = none) (s x : Operand) (hop : o.op = .call { callee := .builtin .copy, args := #[s, x], argTypes := #[t, t] })
    (hs : a.eval s = u) (hx : a.eval x = v) (hr : (Builtin.copy_ #[t, t] o.type #[u, v]).run P w = .ok v' w') (hK : wpList P ops Q rest (a.put o.dst v') w') : wpList P ops Q (o :: rest) a w := by
  refine wpList_plain hg fun K h => ?_
  unfold Oper.wp
  simp [execOp, hop, resolve, invoke, builtin, hs, hx, hr, Result.andThen]
  exact h _ _ hK
theorem overlaps_no {w : World} {vb b off lb cb : Nat} {vt : TypeId} {r : Raw} {cur : Array Value} (hv : Bx w vb (rawC r).toArray vt) (hx : Bx w b cur 122) (hne : vb ≠ b) (hc : cur.size ≠ 0) :
    (callFunc 92 #[.slice (some ⟨vb, 0, none⟩) 1 1, .slice (some ⟨b, off, none⟩) lb cb]).run Tryd.prog w = .ok (.value (.bool false)) w := by
  rw [run_callFunc_extern Tryd.func92 (by kernel_rfl) (by kernel_rfl) (by kernel_rfl) (e := Extern.SlicesOverlaps.overlaps #[93, 93] #[4]) (by kernel_rfl),
    Lib.run_overlaps_apart w 93 4 122 Tryd.underlying93 4 (fun w => by kernel_rfl) ⟨vb, 0, none⟩ ⟨b, off, none⟩ 1 1 lb cb hne vt 122 4 cur.size (by have h : w.heap[vb]? = _ := hv; simp [World.shape?, h]) (by have h : w.heap[b]? = _ := hx; simp [World.shape?, h]) hc (hv.f _) (hv.f _)]
  rfl
theorem insert_parts (r : Raw) : ∀ (rs : List Raw) (i : Nat), i ≤ rs.length → rs.insertIdx i r = rs.take i ++ ([r] ++ rs.drop i)
  | rs, 0, _ => rfl
  | [], i + 1, h => by simp at h
  | a :: rs, i + 1, h => by
    rw [List.insertIdx_succ_cons, insert_parts r rs i (by simpa using h), List.take_succ_cons, List.drop_succ_cons]
    rfl
/-- What lies in the row behind both copies. -/
theorem shift_cells (cur : List Value) (rs : List Raw) (r : Raw) (n i : Nat) (hl : rs.length = n) (hi : i ≤ n) (hc : (n + 1) * 4 ≤ cur.length) (ht : cur.take (n * 4) = rcells rs) (X1 : List Value) (h1 : X1 = cur.take ((i + 1) * 4) ++ rcells (rs.drop i) ++ cur.drop ((i + 1) * 4 + (rcells (rs.drop i)).length)) :
    X1.length = cur.length ∧ (X1.take (i * 4) ++ rcells [r] ++ X1.drop (i * 4 + (rcells [r]).length)).length = cur.length ∧ (X1.take (i * 4) ++ rcells [r] ++ X1.drop (i * 4 + (rcells [r]).length)).take ((n + 1) * 4) = rcells (rs.insertIdx i r) := by
  have hr4 : (rcells [r]).length = 4 := by rw [rcells_len]; rfl
  have hdl : (rcells (rs.drop i)).length = (n - i) * 4 := by rw [rcells_len, List.length_drop, hl]
  have hx1 : X1.length = cur.length := by
    rw [h1]
    simp only [List.length_append, List.length_take, List.length_drop, hdl]
    omega
  have hpre : X1.take (i * 4) = rcells (rs.take i) := by
    rw [h1, List.append_assoc, List.take_append_of_le_length (by rw [List.length_take]; omega), List.take_take, Nat.min_eq_left (by omega), ← rcells_take, ← ht, List.take_take, Nat.min_eq_left (by omega)]
  have hsuf : X1.drop (i * 4 + 4) = rcells (rs.drop i) ++ cur.drop ((i + 1) * 4 + (rcells (rs.drop i)).length) := by
    rw [h1, List.append_assoc, show i * 4 + 4 = (cur.take ((i + 1) * 4)).length by rw [List.length_take]; omega, List.drop_left]
  refine ⟨hx1, ?_, ?_⟩
  · simp only [List.length_append, List.length_take, List.length_drop, hr4, hx1]
    omega
  · rw [hr4, hpre, hsuf, insert_parts r rs i (by omega), rcells_app, rcells_app, ← List.append_assoc, List.append_assoc (rcells (rs.take i))]
    refine List.take_left' ?_
    rw [List.length_append, List.length_append, hr4, hdl, rcells_len, List.length_take, hl]
    omega
set_option maxRecDepth 100000 in
set_option maxHeartbeats 2000000 in
theorem Insert_shift (B n b c vb i : Nat) (vt : TypeId) (rs : List Raw) (r : Raw) (cur : Array Value) (w : World) (hl : rs.length = n) (hB : B ≤ b) (hx : Bx w b cur 122) (hcm : c ≤ maxLen) (hcs : cur.size = c * 4) (ht : cur.toList.take (n * 4) = rcells rs) (hfew : n ≤ 67108864) (hv : Bx w vb (rawC r).toArray vt) (hne : vb ≠ b) (hi : i < n) (hroom : n + 1 ≤ c) :
    Calls Tryd.prog 74 #[.slice (some ⟨b, 0, none⟩) n c, .int .i64 i, .slice (some ⟨vb, 0, none⟩) 1 1] w (Inserted w B (some ⟨b, 0, none⟩) rs i r) := by
  have hc63 : c ≤ 9223372036854775807 := by simp only [maxLen] at hcm; omega
  have hdl : (rcells (rs.drop i)).length = (n - i) * 4 := by rw [rcells_len, List.length_drop, hl]
  have hr4 : (rcells [r]).length = 4 := by rw [rcells_len]; rfl
  obtain ⟨X1, hX1⟩ : ∃ X1, X1 = cur.toList.take ((i + 1) * 4) ++ rcells (rs.drop i) ++ cur.toList.drop ((i + 1) * 4 + (rcells (rs.drop i)).length) := ⟨_, rfl⟩
  obtain ⟨hl1, hl2, ht2⟩ := shift_cells cur.toList rs r n i hl (by omega) (by rw [Array.length_toList]; omega) ht X1 hX1
  have hcl : cur.toList.length = cur.size := rfl
  rw [hcl] at hl1 hl2
  obtain ⟨X2, hX2⟩ : ∃ X2, X2 = X1.take (i * 4) ++ rcells [r] ++ X1.drop (i * 4 + (rcells [r]).length) := ⟨_, rfl⟩
  rw [← hX2] at hl2 ht2
  obtain ⟨W1, hW1⟩ : ∃ W1, W1 = w.drew.setRow b X1.toArray := ⟨_, rfl⟩
  have x1 : Bx W1 b X1.toArray 122 := by rw [hW1]; exact setRow_heap w.drew b cur _ 122 _ hx
  obtain ⟨W2, hW2⟩ : ∃ W2, W2 = W1.setRow b X2.toArray := ⟨_, rfl⟩
  have hcp1 : Hid (∀ ty dl dc sl sc, Nat.min sl dl = n - i → (Builtin.copy_ #[93, 93] ty #[.slice (some ⟨b, (i + 1) * 4, none⟩) dl dc, .slice (some ⟨b, i * 4, none⟩) sl sc]).run Tryd.prog w.drew = .ok (goInt (n - i : Nat)) W1) := fun ty dl dc sl sc hm => by
    rw [hW1, hX1]
    refine run_copy_blocks ty b ((i + 1) * 4) dl dc ⟨b, i * 4, none⟩ sl sc (n - i) (rcells (rs.drop i)) hx hm hdl (fun j v hj => ?_) (by omega) (rcells_one _)
    have hjl := (List.getElem?_eq_some_iff.1 hj).1
    rw [← rcells_drop, ← ht, List.getElem?_drop, List.getElem?_take_of_lt (by omega), Array.getElem?_toList] at hj
    rw [plainAdd]
    exact (hx.c _).trans hj
  have hcp2 : Hid (∀ ty dl dc, Nat.min 1 dl = 1 → (Builtin.copy_ #[93, 93] ty #[.slice (some ⟨b, i * 4, none⟩) dl dc, .slice (some ⟨vb, 0, none⟩) 1 1]).run Tryd.prog W1 = .ok (goInt (1 : Nat)) W2) := fun ty dl dc hm => by
    rw [hW2, hX2]
    refine run_copy_blocks ty b (i * 4) dl dc ⟨vb, 0, none⟩ 1 1 1 (rcells [r]) x1 hm hr4 (fun j v hj => ?_) (by rw [List.size_toArray]; omega) (rcells_one _)
    rw [← rawC_at hv j v hj, hW1]
    exact cell_setRow_other w.drew b _ _ (by rw [addBlock]; exact hne)
  have hov : ∀ off lb cb, (callFunc 92 #[.slice (some ⟨vb, 0, none⟩) 1 1, .slice (some ⟨b, off, none⟩) lb cb]).run Tryd.prog w = .ok (.value (.bool false)) w := fun off lb cb => overlaps_no hv hx hne (by omega)
  have HEND := Lib.hid (show Inserted w B (some ⟨b, 0, none⟩) rs i r (.returned (.slice (some ⟨b, 0, none⟩) (n + 1) c)) W2 by
    subst hl
    refine ⟨_, _, rfl, ⟨by rw [rcells_len, List.length_insertIdx, if_pos (by omega)], .inr ⟨b, c, X2.toArray, rfl, hB, by rw [hW2]; exact setRow_heap W1 b _ _ 122 _ x1, hroom, hcm, by rw [List.size_toArray]; omega, ht2⟩⟩, ?_, .inl rfl⟩
    rw [hW2, hW1]
    have b0 : Beside w w.drew (fun k => some k = row (some (⟨b, 0, none⟩ : Addr))) := ⟨rfl, rfl, rfl, Nat.le_refl _, fun _ _ _ => rfl⟩
    exact (b0.row b _ rfl).row b _ rfl)
  have hb2 : ¬ (c = i + 1) := by omega
  have hb4 : ¬ (c = i) := by omega
  have hz2 : ¬ ((i : Int) = (n : Int)) := by omega
  have hnc : n ≤ c := by omega
  have hw1 : IntKind.i64.wrap ((i : Int) + 1) = (i : Int) + 1 := by rw [IntKind.wrap_i64]; omega
  have hb1 : (0 : Int) ≤ (i : Int) + 1 := by omega
  have htn : ((i : Int) + 1).toNat = i + 1 := by omega
  have hb3 : (i : Int) ≤ (n : Int) + 1 := by omega
  have hb5 : (i : Int) + 1 ≤ (n : Int) + 1 := by omega
  have hin : i ≤ n := by omega
  generalize hL : Inserted w B (some ⟨b, 0, none⟩) rs i r = L at *
  clear hL hW1 hW2 hX1 hX2 x1 hl1 hl2 ht2 hdl hr4 hx hv ht hcs hl
  go_enter Tryd.func74, Tryd.ntmps74
  go_wp2_with (simp only [hov])
  go_region_law (refine step_copy rfl _ _ rfl (by simp [Act.eval, Act.put]) (by simp [Act.eval, Act.put]) (hcp1.out _ (n - i) (c - (i + 1)) (n + 1 - i) (c - i) (by simp only [Nat.min_def]; split <;> omega)) ?_)
  go_wp2_with (refine list_copy rfl (.tmp 80) (.tmp 81) rfl rfl rfl (hcp2.out _ (n + 1 - i) (c - i) (by simp only [Nat.min_def]; split <;> omega)) ?_)
  first | go_ret | skip
  exact HEND.out
end Go.Proofs.YtfkhfjefddgkoaaDoor

namespace Go.Proofs.YtfkhfjefddgkoaaDoor
open Go.RowKit

theorem list_append {P : Program} {ops : Array Oper} {rest : List Oper} {o : Oper} {a : Act} {w w' : World} {Q : Exit → Act → World → Prop} {t t2 : TypeId} {u v v' : Value} (hg : o.guard = none) (s x : Operand) (hop : o.op = .call { callee := .builtin .append, args := #[s, x], argTypes := #[t, t2] })
    (hs : a.eval s = u) (hx : a.eval x = v) (hr : (Builtin.append_ #[t, t2] o.type #[u, v]).run P w = .ok v' w') (hK : wpList P ops Q rest (a.put o.dst v') w') : wpList P ops Q (o :: rest) a w := by
  refine wpList_plain hg fun K h => ?_
  unfold Oper.wp
  simp [execOp, hop, resolve, invoke, builtin, hs, hx, hr, Result.andThen]
  exact h _ _ hK
/-- What lies in the new row behind both copies. -/
theorem grow_cells (X0 : List Value) (rs : List Raw) (r : Raw) (n i C : Nat) (hl : rs.length = n) (hi : i ≤ n) (hn : n + 1 ≤ C) (h0 : X0.length = C * 4) (ht : X0.take (i * 4) = rcells (rs.take i)) (X1 : List Value) (h1 : X1 = X0.take (i * 4) ++ rcells [r] ++ X0.drop (i * 4 + (rcells [r]).length)) :
    X1.length = C * 4 ∧ (X1.take ((i + 1) * 4) ++ rcells (rs.drop i) ++ X1.drop ((i + 1) * 4 + (rcells (rs.drop i)).length)).length = C * 4 ∧ (X1.take ((i + 1) * 4) ++ rcells (rs.drop i) ++ X1.drop ((i + 1) * 4 + (rcells (rs.drop i)).length)).take ((n + 1) * 4) = rcells (rs.insertIdx i r) := by
  have hr4 : (rcells [r]).length = 4 := by rw [rcells_len]; rfl
  have hdl : (rcells (rs.drop i)).length = (n - i) * 4 := by rw [rcells_len, List.length_drop, hl]
  have htl : (X0.take (i * 4)).length = i * 4 := by rw [List.length_take]; omega
  have hx1 : X1.length = C * 4 := by
    rw [h1]
    simp only [List.length_append, List.length_take, List.length_drop, hr4]
    omega
  have hpre : X1.take ((i + 1) * 4) = rcells (rs.take i) ++ rcells [r] := by
    rw [h1, List.take_left' (by rw [List.length_append, htl, hr4]; omega), ht]
  refine ⟨hx1, ?_, ?_⟩
  · simp only [List.length_append, List.length_take, List.length_drop, hdl, hx1]
    omega
  · rw [hpre, insert_parts r rs i (by omega), rcells_app, rcells_app, ← List.append_assoc (rcells (rs.take i))]
    refine List.take_left' ?_
    rw [List.length_append, List.length_append, hr4, hdl, rcells_len, List.length_take, hl]
    omega
set_option maxRecDepth 100000 in
set_option maxHeartbeats 2000000 in
theorem Insert_grow (B n b vb i : Nat) (vt : TypeId) (rs : List Raw) (r : Raw) (cur : Array Value) (w : World) (hl : rs.length = n) (hB : B ≤ w.heap.size) (hx : Bx w b cur 122) (hcs : cur.size = n * 4) (ht : cur.toList.take (n * 4) = rcells rs) (hfew : n ≤ 67108864) (hv : Bx w vb (rawC r).toArray vt) (hi : i < n) :
    Calls Tryd.prog 74 #[.slice (some ⟨b, 0, none⟩) n n, .int .i64 i, .slice (some ⟨vb, 0, none⟩) 1 1] w (Inserted w B (some ⟨b, 0, none⟩) rs i r) := by
  obtain ⟨i0, z, hi0, hz0, hzc, hz1, hz2⟩ := block_parts
  have hzs : z.cells.size = 4 := by
    have : z.cells.toList.length = 4 := by rw [hzc]; rfl
    simpa using this
  have hdl : (rcells (rs.drop i)).length = (n - i) * 4 := by rw [rcells_len, List.length_drop, hl]
  have hr4 : (rcells [r]).length = 4 := by rw [rcells_len]; rfl
  have hol : (rcells (rs.take i)).length = i * 4 := by rw [rcells_len, List.length_take, hl, Nat.min_eq_left (by omega)]
  have hblt := hx.lt
  have hvlt := hv.lt
  have hap := fun ty => Lib.run_append_grow_zeros (P := Tryd.prog) w 93 3 ty 122 i0 z .i64 .i64 Tryd.underlying93 Tryd.underlying3 hi0 hz0 (some ⟨b, 0, none⟩) i n (rcells (rs.take i))
    (by
      rw [hz1]
      refine run_firstCells_some w.drew 4 i ⟨b, 0, none⟩ i n _ hol fun j u hu => ?_
      have hjl := (List.getElem?_eq_some_iff.1 hu).1
      rw [← rcells_take, ← ht, List.take_take, Nat.min_eq_left (by omega), List.getElem?_take_of_lt (by omega), Array.getElem?_toList] at hu
      rw [plainAdd, Nat.zero_add]
      exact (hx.c _).trans hu) (n + 1 - i) (by omega) (by omega) (by omega) (by omega) (by rw [hz2]; omega) (by rw [hz2]; exact growslice_fits (by omega) (by omega))
  have hsum : i + (n + 1 - i) = n + 1 := by omega
  rw [hsum] at hap
  have hC1 := grownCap_ge w (n + 1) n 122
  have hC2 : grownCap w (n + 1) n 122 ≤ maxLen := grownCap_le_maxLen w (n + 1) n 122 (by simp only [maxLen]; omega)
  generalize grownCap w (n + 1) n 122 = C at *
  obtain ⟨X0, hX0⟩ : ∃ X0, X0 = (rcells (rs.take i)).toArray ++ Builtin.zeroCells z.cells (n + 1 - i) ++ Builtin.zeroCells z.cells (C - (n + 1)) := ⟨_, rfl⟩
  have hl0 : X0.toList.length = C * 4 := by
    rw [hX0]
    simp only [Array.toList_append, List.length_append, Array.length_toList, size_zeroCells, hzs, hol]
    omega
  have ht0 : X0.toList.take (i * 4) = rcells (rs.take i) := by
    rw [hX0]
    simp only [Array.toList_append, List.append_assoc]
    exact List.take_left' hol
  rw [← hX0] at hap
  obtain ⟨W0, hW0⟩ : ∃ W0, W0 = w.drew.alloc (.cells X0 122) := ⟨_, rfl⟩
  have x0 : Bx W0 w.heap.size X0 122 := by rw [hW0]; exact Bx.new w.drew X0 122
  have b0 : Beside w W0 (fun k => k = w.heap.size) := by rw [hW0]; exact ⟨rfl, rfl, rfl, by simp, fun k hk _ => heap_alloc_old w.drew _ hk⟩
  rw [← hW0] at hap
  obtain ⟨X1, hX1⟩ : ∃ X1, X1 = X0.toList.take (i * 4) ++ rcells [r] ++ X0.toList.drop (i * 4 + (rcells [r]).length) := ⟨_, rfl⟩
  obtain ⟨hl1, hl2, ht2⟩ := grow_cells X0.toList rs r n i C hl (by omega) hC1 hl0 ht0 X1 hX1
  obtain ⟨X2, hX2⟩ : ∃ X2, X2 = X1.take ((i + 1) * 4) ++ rcells (rs.drop i) ++ X1.drop ((i + 1) * 4 + (rcells (rs.drop i)).length) := ⟨_, rfl⟩
  rw [← hX2] at hl2 ht2
  obtain ⟨W1, hW1⟩ : ∃ W1, W1 = W0.setRow w.heap.size X1.toArray := ⟨_, rfl⟩
  have x1 : Bx W1 w.heap.size X1.toArray 122 := by rw [hW1]; exact setRow_heap W0 w.heap.size X0 _ 122 _ x0
  have b1 : Beside w W1 (fun k => k = w.heap.size) := by rw [hW1]; exact b0.row _ _ rfl
  obtain ⟨W2, hW2⟩ : ∃ W2, W2 = W1.drew.setRow w.heap.size X2.toArray := ⟨_, rfl⟩
  have b2 : Beside w W2 (fun k => k = w.heap.size) := by
    rw [hW2]
    have b1' : Beside w W1.drew (fun k => k = w.heap.size) := ⟨b1.os, b1.tape, b1.output, b1.size, b1.block⟩
    exact b1'.row _ _ rfl
  have hcp1 : Hid (∀ ty dl dc, Nat.min 1 dl = 1 → (Builtin.copy_ #[93, 93] ty #[.slice (some ⟨w.heap.size, i * 4, none⟩) dl dc, .slice (some ⟨vb, 0, none⟩) 1 1]).run Tryd.prog W0 = .ok (goInt (1 : Nat)) W1) := fun ty dl dc hm => by
    rw [hW1, hX1]
    exact run_copy_blocks ty w.heap.size (i * 4) dl dc ⟨vb, 0, none⟩ 1 1 1 (rcells [r]) x0 hm hr4 (rawC_at (hv.beside b0 (by omega))) (by have : X0.toList.length = X0.size := rfl; omega) (rcells_one _)
  have hcp2 : Hid (∀ ty dl dc sl sc, Nat.min sl dl = n - i → (Builtin.copy_ #[93, 93] ty #[.slice (some ⟨w.heap.size, (i + 1) * 4, none⟩) dl dc, .slice (some ⟨b, i * 4, none⟩) sl sc]).run Tryd.prog W1.drew = .ok (goInt (n - i : Nat)) W2) := fun ty dl dc sl sc hm => by
    rw [hW2, hX2]
    refine run_copy_blocks ty w.heap.size ((i + 1) * 4) dl dc ⟨b, i * 4, none⟩ sl sc (n - i) (rcells (rs.drop i)) x1 hm hdl (fun j v hj => ?_) (by rw [List.size_toArray, hl1]; omega) (rcells_one _)
    have hjl := (List.getElem?_eq_some_iff.1 hj).1
    rw [← rcells_drop, ← ht, List.getElem?_drop, List.getElem?_take_of_lt (by omega), Array.getElem?_toList] at hj
    rw [plainAdd]
    exact ((hx.beside b1 (by omega)).c _).trans hj
  have HEND := Lib.hid (show Inserted w B (some ⟨b, 0, none⟩) rs i r (.returned (.slice (some ⟨w.heap.size, 0, none⟩) (n + 1) C)) W2 by
    subst hl
    refine ⟨_, _, rfl, ⟨by rw [rcells_len, List.length_insertIdx, if_pos (by omega)], .inr ⟨w.heap.size, C, X2.toArray, rfl, hB, by rw [hW2]; exact setRow_heap W1.drew w.heap.size X1.toArray _ 122 _ x1, hC1, hC2, by have : X2.toArray.size = X2.length := rfl; omega, ht2⟩⟩, b2.weak fun k hk e => absurd e (by omega), .inr ⟨_, Nat.le_refl _, rfl⟩⟩)
  have hC63 : C ≤ 9223372036854775807 := by simp only [maxLen] at hC2; omega
  have HAP := Lib.hid (show ∀ ty K, K = ((n + 1 - i : Nat) : Int) → (Builtin.append_ #[93, 3] ty #[.slice (some ⟨b, 0, none⟩) i n, .int .i64 K]).run Tryd.prog w = .ok (.slice (some ⟨w.heap.size, 0, none⟩) (n + 1) C) W0 from fun ty K hK => by rw [hK]; exact hap ty)
  have hb2 : ¬ (C = i + 1) := by omega
  have hb4 : ¬ (n = i) := by omega
  have hb6 : ¬ (C = i) := by omega
  have hz3 : ¬ ((i : Int) = (n : Int)) := by omega
  have hw1 : IntKind.i64.wrap ((i : Int) + 1) = (i : Int) + 1 := by rw [IntKind.wrap_i64]; omega
  have hb1 : (0 : Int) ≤ (i : Int) + 1 := by omega
  have htn : ((i : Int) + 1).toNat = i + 1 := by omega
  have hb3 : (i : Int) ≤ (n : Int) + 1 := by omega
  have hb5 : (i : Int) + 1 ≤ (n : Int) + 1 := by omega
  have hin : i ≤ n := by omega
  have hk : (n : Int) + 1 - (i : Int) = ((n + 1 - i : Nat) : Int) := by omega
  generalize hL : Inserted w B (some ⟨b, 0, none⟩) rs i r = L at *
  clear hL hW1 hW2 hX1 hX2 hX0 hW0 x0 x1 b0 b1 b2 hl1 hl2 ht2 hdl hr4 hx hv ht hcs hl hap hl0 ht0 hol hz0 hzc hi0 hz1 hz2 hzs hC2
  have hmin1 : Nat.min 1 (n + 1 - i) = 1 := Nat.min_eq_left (by omega)
  have hmin2 : Nat.min (n - i) (n - i) = n - i := Nat.min_self _
  have HM := Lib.hid (And.intro hmin1 hmin2)
  have HC1 := Lib.hid (fun ty => hcp1.out ty (n + 1 - i) (C - i) hmin1)
  have HC2 := Lib.hid (fun ty => hcp2.out ty (n - i) (C - (i + 1)) (n - i) (n - i) hmin2)
  clear hk hsum hmin1 hmin2 hcp1 hcp2
  go_enter Tryd.func74, Tryd.ntmps74
  go_wp2_with (first
    | (at_builtin; refine list_append rfl (.tmp 34) (.tmp 39) rfl rfl rfl (HAP.out _ _ (by omega)) ?_)
    | (refine list_copy rfl (.tmp 43) (.tmp 44) rfl rfl rfl (HC1.out _) ?_))
  go_region_law (refine step_copy rfl _ _ rfl (by simp [Act.eval, Act.put]) (by simp [Act.eval, Act.put]) (HC2.out _) ?_)
  go_wp2_with fail
  first | go_ret | skip
  exact HEND.out
theorem Insert_any (B c vb i : Nat) (A : Option Addr) (vt : TypeId) (rs : List Raw) (r : Raw) (w : World) (hown : w.ownsRow B 122 4 (.slice A rs.length c) rs.length (rcells rs)) (hB : B ≤ w.heap.size) (hfew : rs.length ≤ 67108864) (hv : Bx w vb (rawC r).toArray vt) (hne : row A ≠ some vb) (hi : i ≤ rs.length) :
    Calls Tryd.prog 74 #[.slice A rs.length c, .int .i64 (i : Nat), .slice (some ⟨vb, 0, none⟩) 1 1] w (Inserted w B A rs i r) := by
  by_cases he : i = rs.length
  · subst he
    exact Insert_end B rs.length A c vb vt rs r w rfl hown hB hfew hv
  · rcases hown.2 with ⟨hv0, h0⟩ | ⟨b, cap, cur, hv0, hbB, hx, hnc, hcm, hcs, ht⟩
    · omega
    · injection hv0 with h1 _ h3
      subst h1 h3
      by_cases hroom : rs.length + 1 ≤ c
      · exact Insert_shift B rs.length b c vb i vt rs r cur w rfl hbB hx hcm hcs ht hfew hv (fun e => hne (by rw [e]; rfl)) (by omega) hroom
      · obtain rfl : c = rs.length := by omega
        exact Insert_grow B rs.length b vb i vt rs r cur w rfl hB hx hcs ht hfew hv (by omega)
end Go.Proofs.YtfkhfjefddgkoaaDoor

namespace Go.Proofs.YtfkhfjefddgkoaaDoor
open Go.RowKit

theorem Beside.alloc (w : World) (o : Obj) (p : Nat → Prop) : Beside w (w.alloc o) p := ⟨rfl, rfl, rfl, by simp, fun _ hk _ => heap_alloc_old w o hk⟩
/-- The call of Insert that insert makes, at whatever world has the new block besides. -/
theorem insert_call {W W' : World} {B g i : Nat} {A : Option Addr} {c : Nat} {rs : List Raw} {a s p : Int} {t : TypeId} (h : Sp W B g A c rs) (hi : i ≤ rs.length) (b00 : Beside W W' (fun _ => False)) (hx : Bx W' W.heap.size #[.int .i64 a, .int .i64 s, .int .i64 p, .slice none 0 0] t) :
    Calls Tryd.prog 74 #[.slice A rs.length c, .int .i64 (i : Nat), .slice (some ⟨W.heap.size, 0, none⟩) 1 1] W' fun e w' => ∃ A' c', e = .returned (.slice A' (rs.length + 1) c') ∧
      w'.ownsRow B 122 4 (.slice A' (rs.length + 1) c') (rs.length + 1) (rcells (rs.insertIdx i ⟨⟨a, s, p, []⟩, none, 0⟩)) ∧ Beside W w' (fun k => some k = row A) ∧ (row A' = row A ∨ ∃ q, W.heap.size ≤ q ∧ row A' = some q) ∧ w'.cell? ⟨g, 0, none⟩ = some (.slice A rs.length c) ∧ w'.frozen? ⟨g, 0, none⟩ = false := by
  have b0 : Beside W W' (fun k => some k = row A) := b00.weak fun _ _ e => e.elim
  have h1 := h.beside b00 fun _ _ e => e
  have hlt := h.box.lt
  refine (Insert_any B c W.heap.size i A t rs ⟨⟨a, s, p, []⟩, none, 0⟩ _ h1.own (by have := h.hg; have := b0.size; omega) (ord_few h.ord) hx (fun e => by have := (h.lt (k := W.heap.size) (.inr (.inl e.symm))).2; omega) hi).mono ?_
  rintro e w' ⟨A', c', rfl, h2, h3, h4⟩
  have hbox := h1.box.beside h3 (fun e => h.ne e.symm)
  refine ⟨A', c', rfl, h2, b0.trans ⟨h3.os, h3.tape, h3.output, h3.size, h3.block⟩, h4.imp id fun ⟨q, hq, e⟩ => ⟨q, Nat.le_trans b0.size hq, e⟩, hbox.c 0, hbox.f 0⟩
end Go.Proofs.YtfkhfjefddgkoaaDoor
