/-
  One block put into a list of blocks: slices.Insert where there is room.
-/
import Derived.Test.YthbdncojekpanaaU
import Derived.Laws.Externs
import Derived.Shelf.RegionOpen
import Derived.Shelf.RegionOpenPlain
namespace Go.Proofs.Ythbdncojekpanaa
open Go.RowKit

/-- A copy of blocks onto a row: the run. -/
theorem run_copy_blocks {w : World} (ty : TypeId) (g off dl dc : Nat) (ad : Addr) (sl sc m : Nat) {cur : Array Value} (cs : List Value) (hg : Bx w g cur 69) (hm : Nat.min sl dl = m) (hn : cs.length = m * 4) (hsrc : ∀ j v, cs[j]? = some v → w.cell? (ad.add j) = some v) (hfit : off + cs.length ≤ cur.size) (h1 : ∀ v ∈ cs, v.oneCell' = true) :
    (Builtin.copy_ #[62, 62] ty #[.slice (some ⟨g, off, none⟩) dl dc, .slice (some ad) sl sc]).run Try.prog w = .ok (goInt m) (w.setRow g (cur.toList.take off ++ cs ++ cur.toList.drop (off + cs.length)).toArray) := by
  obtain ⟨i0, z, hi0, _, _, hz1, _⟩ := block_parts
  have hf := run_firstCells_some (P := Try.prog) w 4 m ad sl sc cs hn hsrc
  have hst := run_storeCells_at Try.prog g off 69 cs 0 cur w hg (by simpa using hfit) h1
  simp only [Nat.add_zero] at hst
  simp [Builtin.copy_, run_underlying Try.underlying62, Builtin.lenOf, sizeOf, typeInfo, hi0, hz1, hm, hf, hst]
/-- A copy whose run is known, as a step of a region that draws its order, and of one that does not. -/
theorem step_copy {P : Program} {ops : Array Oper} {o : Oper} {a : Act} {w w' : World} {K : Act → World → Prop} {Q : Exit → Act → World → Prop} {E : Prop} {t : TypeId} {u v v' : Value} (hg : o.guard = none) (s x : Operand) (hop : o.op = .call { callee := .builtin .copy, args := #[s, x], argTypes := #[t, t] })
    (hs : a.eval s = u) (hx : a.eval x = v) (hr : (Builtin.copy_ #[t, t] o.type #[u, v]).run P w = .ok v' w') (hK : K (a.put o.dst v') w') : if Region.wanted o (yielded ops a.tmps) = true then Oper.wp P o a w K Q else E := by
  rw [if_pos (show Region.wanted o (yielded ops a.tmps) = true by simp [Region.wanted, hg])]
  unfold Oper.wp
  simp [execOp, hop, resolve, invoke, builtin, hs, hx, hr, Result.andThen]
  exact hK
theorem list_copy {P : Program} {ops : Array Oper} {rest : List Oper} {o : Oper} {a : Act} {w w' : World} {Q : Exit → Act → World → Prop} {t : TypeId} {u v v' : Value} (hg : o.guard = none) (s x : Operand) (hop : o.op = .call { callee := .builtin .copy, args := #[s, x], argTypes := #[t, t] })
    (hs : a.eval s = u) (hx : a.eval x = v) (hr : (Builtin.copy_ #[t, t] o.type #[u, v]).run P w = .ok v' w') (hK : wpList P ops Q rest (a.put o.dst v') w') : wpList P ops Q (o :: rest) a w := by
  refine wpList_plain hg fun K h => ?_
  unfold Oper.wp
  simp [execOp, hop, resolve, invoke, builtin, hs, hx, hr, Result.andThen]
  exact h _ _ hK
theorem overlaps_no {w : World} {vb b off lb cb : Nat} {vt : TypeId} {r : Raw} {cur : Array Value} (hv : Bx w vb (rawC r).toArray vt) (hx : Bx w b cur 69) (hne : vb ≠ b) (hc : cur.size ≠ 0) :
    (callFunc 75 #[.slice (some ⟨vb, 0, none⟩) 1 1, .slice (some ⟨b, off, none⟩) lb cb]).run Try.prog w = .ok (.value (.bool false)) w := by
  rw [run_callFunc_extern Try.func75 (by kernel_rfl) (by kernel_rfl) (by kernel_rfl) (e := Extern.SlicesOverlaps.overlaps #[62, 62] #[4]) (by kernel_rfl),
    Lib.run_overlaps_apart w 62 4 69 Try.underlying62 4 (fun w => by kernel_rfl) ⟨vb, 0, none⟩ ⟨b, off, none⟩ 1 1 lb cb hne vt 69 4 cur.size (by have h : w.heap[vb]? = _ := hv; simp [World.shape?, h]) (by have h : w.heap[b]? = _ := hx; simp [World.shape?, h]) hc (hv.f _) (hv.f _)]
  rfl
theorem insert_parts (r : Raw) : ∀ (rs : List Raw) (i : Nat), i ≤ rs.length → rs.insertIdx i r = rs.take i ++ ([r] ++ rs.drop i)
  | rs, 0, _ => rfl
  | [], i + 1, h => by simp at h
  | a :: rs, i + 1, h => by
    rw [List.insertIdx_succ_cons, insert_parts r rs i (by simpa using h), List.take_succ_cons, List.drop_succ_cons]
    rfl
/-- What lies in the row behind both copies. -/
theorem shift_cells (cur : List Value) (rs : List Raw) (r : Raw) (n i : Nat) (hl : rs.length = n) (hi : i ≤ n) (hc : (n + 1) * 4 ≤ cur.length) (ht : cur.take (n * 4) = rcells rs) (X1 : List Value) (h1 : X1 = cur.take ((i + 1) * 4) ++ rcells (rs.drop i) ++ cur.drop ((i + 1) * 4 + (rcells (rs.drop i)).length)) :
    X1.length = cur.length ∧ (X1.take (i * 4) ++ rcells [r] ++ X1.drop (i * 4 + (rcells [r]).length)).length = cur.length ∧ (X1.take (i * 4) ++ rcells [r] ++ X1.drop (i * 4 + (rcells [r]).length)).take ((n + 1) * 4) = rcells (rs.insertIdx i r) := by
  have hr4 : (rcells [r]).length = 4 := by rw [rcells_len]; rfl
  have hdl : (rcells (rs.drop i)).length = (n - i) * 4 := by rw [rcells_len, List.length_drop, hl]
  have hx1 : X1.length = cur.length := by
    rw [h1]
    simp only [List.length_append, List.length_take, List.length_drop, hdl]
    omega
  have hpre : X1.take (i * 4) = rcells (rs.take i) := by
    rw [h1, List.append_assoc, List.take_append_of_le_length (by rw [List.length_take]; omega), List.take_take, Nat.min_eq_left (by omega), ← rcells_take, ← ht, List.take_take, Nat.min_eq_left (by omega)]
  have hsuf : X1.drop (i * 4 + 4) = rcells (rs.drop i) ++ cur.drop ((i + 1) * 4 + (rcells (rs.drop i)).length) := by
    rw [h1, List.append_assoc, show i * 4 + 4 = (cur.take ((i + 1) * 4)).length by rw [List.length_take]; omega, List.drop_left]
  refine ⟨hx1, ?_, ?_⟩
  · simp only [List.length_append, List.length_take, List.length_drop, hr4, hx1]
    omega
  · rw [hr4, hpre, hsuf, insert_parts r rs i (by omega), rcells_app, rcells_app, ← List.append_assoc, List.append_assoc (rcells (rs.take i))]
    refine List.take_left' ?_
    rw [List.length_append, List.length_append, hr4, hdl, rcells_len, List.length_take, hl]
    omega
set_option maxRecDepth 100000 in
set_option maxHeartbeats 2000000 in
theorem Insert_shift (B n b c vb i : Nat) (vt : TypeId) (rs : List Raw) (r : Raw) (cur : Array Value) (w : World) (hl : rs.length = n) (hB : B ≤ b) (hx : Bx w b cur 69) (hcm : c ≤ maxLen) (hcs : cur.size = c * 4) (ht : cur.toList.take (n * 4) = rcells rs) (hfew : n ≤ 67108864) (hv : Bx w vb (rawC r).toArray vt) (hne : vb ≠ b) (hi : i < n) (hroom : n + 1 ≤ c) :
    Calls Try.prog 62 #[.slice (some ⟨b, 0, none⟩) n c, .int .i64 i, .slice (some ⟨vb, 0, none⟩) 1 1] w (Inserted w B (some ⟨b, 0, none⟩) rs i r) := by
  have hc63 : c ≤ 9223372036854775807 := by simp only [maxLen] at hcm; omega
  have hdl : (rcells (rs.drop i)).length = (n - i) * 4 := by rw [rcells_len, List.length_drop, hl]
  have hr4 : (rcells [r]).length = 4 := by rw [rcells_len]; rfl
  obtain ⟨X1, hX1⟩ : ∃ X1, X1 = cur.toList.take ((i + 1) * 4) ++ rcells (rs.drop i) ++ cur.toList.drop ((i + 1) * 4 + (rcells (rs.drop i)).length) := ⟨_, rfl⟩
  obtain ⟨hl1, hl2, ht2⟩ := shift_cells cur.toList rs r n i hl (by omega) (by rw [Array.length_toList]; omega) ht X1 hX1
  have hcl : cur.toList.length = cur.size := rfl
  rw [hcl] at hl1 hl2
  obtain ⟨X2, hX2⟩ : ∃ X2, X2 = X1.take (i * 4) ++ rcells [r] ++ X1.drop (i * 4 + (rcells [r]).length) := ⟨_, rfl⟩
  rw [← hX2] at hl2 ht2
  obtain ⟨W1, hW1⟩ : ∃ W1, W1 = w.drew.setRow b X1.toArray := ⟨_, rfl⟩
  have x1 : Bx W1 b X1.toArray 69 := by rw [hW1]; exact setRow_heap w.drew b cur _ 69 _ hx
  obtain ⟨W2, hW2⟩ : ∃ W2, W2 = W1.setRow b X2.toArray := ⟨_, rfl⟩
  have hcp1 : Hid (∀ ty dl dc sl sc, Nat.min sl dl = n - i → (Builtin.copy_ #[62, 62] ty #[.slice (some ⟨b, (i + 1) * 4, none⟩) dl dc, .slice (some ⟨b, i * 4, none⟩) sl sc]).run Try.prog w.drew = .ok (goInt (n - i : Nat)) W1) := fun ty dl dc sl sc hm => by
    rw [hW1, hX1]
    refine run_copy_blocks ty b ((i + 1) * 4) dl dc ⟨b, i * 4, none⟩ sl sc (n - i) (rcells (rs.drop i)) hx hm hdl (fun j v hj => ?_) (by omega) (rcells_one _)
    have hjl := (List.getElem?_eq_some_iff.1 hj).1
    rw [← rcells_drop, ← ht, List.getElem?_drop, List.getElem?_take_of_lt (by omega), Array.getElem?_toList] at hj
    rw [plainAdd]
    exact (hx.c _).trans hj
  have hcp2 : Hid (∀ ty dl dc, Nat.min 1 dl = 1 → (Builtin.copy_ #[62, 62] ty #[.slice (some ⟨b, i * 4, none⟩) dl dc, .slice (some ⟨vb, 0, none⟩) 1 1]).run Try.prog W1 = .ok (goInt (1 : Nat)) W2) := fun ty dl dc hm => by
    rw [hW2, hX2]
    refine run_copy_blocks ty b (i * 4) dl dc ⟨vb, 0, none⟩ 1 1 1 (rcells [r]) x1 hm hr4 (fun j v hj => ?_) (by rw [List.size_toArray]; omega) (rcells_one _)
    rw [← rawC_at hv j v hj, hW1]
    exact cell_setRow_other w.drew b _ _ (by rw [addBlock]; exact hne)
  have hov : ∀ off lb cb, (callFunc 75 #[.slice (some ⟨vb, 0, none⟩) 1 1, .slice (some ⟨b, off, none⟩) lb cb]).run Try.prog w = .ok (.value (.bool false)) w := fun off lb cb => overlaps_no hv hx hne (by omega)
  have HEND := Lib.hid (show Inserted w B (some ⟨b, 0, none⟩) rs i r (.returned (.slice (some ⟨b, 0, none⟩) (n + 1) c)) W2 by
    subst hl
    refine ⟨_, _, rfl, ⟨by rw [rcells_len, List.length_insertIdx, if_pos (by omega)], .inr ⟨b, c, X2.toArray, rfl, hB, by rw [hW2]; exact setRow_heap W1 b _ _ 69 _ x1, hroom, hcm, by rw [List.size_toArray]; omega, ht2⟩⟩, ?_, .inl rfl⟩
    rw [hW2, hW1]
    have b0 : Beside w w.drew (fun k => some k = row (some (⟨b, 0, none⟩ : Addr))) := ⟨rfl, rfl, rfl, Nat.le_refl _, fun _ _ _ => rfl⟩
    exact (b0.row b _ rfl).row b _ rfl)
  have hb2 : ¬ (c = i + 1) := by omega
  have hb4 : ¬ (c = i) := by omega
  have hz2 : ¬ ((i : Int) = (n : Int)) := by omega
  have hnc : n ≤ c := by omega
  have hw1 : IntKind.i64.wrap ((i : Int) + 1) = (i : Int) + 1 := by rw [IntKind.wrap_i64]; omega
  have hb1 : (0 : Int) ≤ (i : Int) + 1 := by omega
  have htn : ((i : Int) + 1).toNat = i + 1 := by omega
  have hb3 : (i : Int) ≤ (n : Int) + 1 := by omega
  have hb5 : (i : Int) + 1 ≤ (n : Int) + 1 := by omega
  have hin : i ≤ n := by omega
  generalize hL : Inserted w B (some ⟨b, 0, none⟩) rs i r = L at *
  clear hL hW1 hW2 hX1 hX2 x1 hl1 hl2 ht2 hdl hr4 hx hv ht hcs hl
  go_enter Try.func62, Try.ntmps62
  go_wp2_with (simp only [hov])
  go_region_law (refine step_copy rfl _ _ rfl (by simp [Act.eval, Act.put]) (by simp [Act.eval, Act.put]) (hcp1.out _ (n - i) (c - (i + 1)) (n + 1 - i) (c - i) (by simp only [Nat.min_def]; split <;> omega)) ?_)
  go_wp2_with (refine list_copy rfl (.tmp 80) (.tmp 81) rfl rfl rfl (hcp2.out _ (n + 1 - i) (c - i) (by simp only [Nat.min_def]; split <;> omega)) ?_)
  first | go_ret | skip
  exact HEND.out
end Go.Proofs.Ythbdncojekpanaa
