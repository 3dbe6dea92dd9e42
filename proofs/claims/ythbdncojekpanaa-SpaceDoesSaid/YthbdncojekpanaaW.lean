/-
  One block put into a list of blocks: slices.Insert where there is no room; in all cases.
-/
import Derived.Test.YthbdncojekpanaaV
namespace Go.Proofs.Ythbdncojekpanaa
open Go.RowKit

theorem list_append {P : Program} {ops : Array Oper} {rest : List Oper} {o : Oper} {a : Act} {w w' : World} {Q : Exit → Act → World → Prop} {t t2 : TypeId} {u v v' : Value} (hg : o.guard = none) (s x : Operand) (hop : o.op = .call { callee := .builtin .append, args := #[s, x], argTypes := #[t, t2] })
    (hs : a.eval s = u) (hx : a.eval x = v) (hr : (Builtin.append_ #[t, t2] o.type #[u, v]).run P w = .ok v' w') (hK : wpList P ops Q rest (a.put o.dst v') w') : wpList P ops Q (o :: rest) a w := by
  refine wpList_plain hg fun K h => ?_
  unfold Oper.wp
  simp [execOp, hop, resolve, invoke, builtin, hs, hx, hr, Result.andThen]
  exact h _ _ hK
/-- What lies in the new row behind both copies. -/
theorem grow_cells (X0 : List Value) (rs : List Raw) (r : Raw) (n i C : Nat) (hl : rs.length = n) (hi : i ≤ n) (hn : n + 1 ≤ C) (h0 : X0.length = C * 4) (ht : X0.take (i * 4) = rcells (rs.take i)) (X1 : List Value) (h1 : X1 = X0.take (i * 4) ++ rcells [r] ++ X0.drop (i * 4 + (rcells [r]).length)) :
    X1.length = C * 4 ∧ (X1.take ((i + 1) * 4) ++ rcells (rs.drop i) ++ X1.drop ((i + 1) * 4 + (rcells (rs.drop i)).length)).length = C * 4 ∧ (X1.take ((i + 1) * 4) ++ rcells (rs.drop i) ++ X1.drop ((i + 1) * 4 + (rcells (rs.drop i)).length)).take ((n + 1) * 4) = rcells (rs.insertIdx i r) := by
  have hr4 : (rcells [r]).length = 4 := by rw [rcells_len]; rfl
  have hdl : (rcells (rs.drop i)).length = (n - i) * 4 := by rw [rcells_len, List.length_drop, hl]
  have htl : (X0.take (i * 4)).length = i * 4 := by rw [List.length_take]; omega
  have hx1 : X1.length = C * 4 := by
    rw [h1]
    simp only [List.length_append, List.length_take, List.length_drop, hr4]
    omega
  have hpre : X1.take ((i + 1) * 4) = rcells (rs.take i) ++ rcells [r] := by
    rw [h1, List.take_left' (by rw [List.length_append, htl, hr4]; omega), ht]
  refine ⟨hx1, ?_, ?_⟩
  · simp only [List.length_append, List.length_take, List.length_drop, hdl, hx1]
    omega
  · rw [hpre, insert_parts r rs i (by omega), rcells_app, rcells_app, ← List.append_assoc (rcells (rs.take i))]
    refine List.take_left' ?_
    rw [List.length_append, List.length_append, hr4, hdl, rcells_len, List.length_take, hl]
    omega
set_option maxRecDepth 100000 in
set_option maxHeartbeats 2000000 in
theorem Insert_grow (B n b vb i : Nat) (vt : TypeId) (rs : List Raw) (r : Raw) (cur : Array Value) (w : World) (hl : rs.length = n) (hB : B ≤ w.heap.size) (hx : Bx w b cur 69) (hcs : cur.size = n * 4) (ht : cur.toList.take (n * 4) = rcells rs) (hfew : n ≤ 67108864) (hv : Bx w vb (rawC r).toArray vt) (hi : i < n) :
    Calls Try.prog 62 #[.slice (some ⟨b, 0, none⟩) n n, .int .i64 i, .slice (some ⟨vb, 0, none⟩) 1 1] w (Inserted w B (some ⟨b, 0, none⟩) rs i r) := by
  obtain ⟨i0, z, hi0, hz0, hzc, hz1, hz2⟩ := block_parts
  have hzs : z.cells.size = 4 := by
    have : z.cells.toList.length = 4 := by rw [hzc]; rfl
    simpa using this
  have hdl : (rcells (rs.drop i)).length = (n - i) * 4 := by rw [rcells_len, List.length_drop, hl]
  have hr4 : (rcells [r]).length = 4 := by rw [rcells_len]; rfl
  have hol : (rcells (rs.take i)).length = i * 4 := by rw [rcells_len, List.length_take, hl, Nat.min_eq_left (by omega)]
  have hblt := hx.lt
  have hvlt := hv.lt
  have hap := fun ty => Lib.run_append_grow_zeros (P := Try.prog) w 62 3 ty 69 i0 z .i64 .i64 Try.underlying62 Try.underlying3 hi0 hz0 (some ⟨b, 0, none⟩) i n (rcells (rs.take i))
    (by
      rw [hz1]
      refine run_firstCells_some w.drew 4 i ⟨b, 0, none⟩ i n _ hol fun j u hu => ?_
      have hjl := (List.getElem?_eq_some_iff.1 hu).1
      rw [← rcells_take, ← ht, List.take_take, Nat.min_eq_left (by omega), List.getElem?_take_of_lt (by omega), Array.getElem?_toList] at hu
      rw [plainAdd, Nat.zero_add]
      exact (hx.c _).trans hu) (n + 1 - i) (by omega) (by omega) (by omega) (by omega) (by rw [hz2]; omega) (by rw [hz2]; exact growslice_fits (by omega) (by omega))
  have hsum : i + (n + 1 - i) = n + 1 := by omega
  rw [hsum] at hap
  have hC1 := grownCap_ge w (n + 1) n 69
  have hC2 : grownCap w (n + 1) n 69 ≤ maxLen := grownCap_le_maxLen w (n + 1) n 69 (by simp only [maxLen]; omega)
  generalize grownCap w (n + 1) n 69 = C at *
  obtain ⟨X0, hX0⟩ : ∃ X0, X0 = (rcells (rs.take i)).toArray ++ Builtin.zeroCells z.cells (n + 1 - i) ++ Builtin.zeroCells z.cells (C - (n + 1)) := ⟨_, rfl⟩
  have hl0 : X0.toList.length = C * 4 := by
    rw [hX0]
    simp only [Array.toList_append, List.length_append, Array.length_toList, size_zeroCells, hzs, hol]
    omega
  have ht0 : X0.toList.take (i * 4) = rcells (rs.take i) := by
    rw [hX0]
    simp only [Array.toList_append, List.append_assoc]
    exact List.take_left' hol
  rw [← hX0] at hap
  obtain ⟨W0, hW0⟩ : ∃ W0, W0 = w.drew.alloc (.cells X0 69) := ⟨_, rfl⟩
  have x0 : Bx W0 w.heap.size X0 69 := by rw [hW0]; exact Bx.new w.drew X0 69
  have b0 : Beside w W0 (fun k => k = w.heap.size) := by rw [hW0]; exact ⟨rfl, rfl, rfl, by simp, fun k hk _ => heap_alloc_old w.drew _ hk⟩
  rw [← hW0] at hap
  obtain ⟨X1, hX1⟩ : ∃ X1, X1 = X0.toList.take (i * 4) ++ rcells [r] ++ X0.toList.drop (i * 4 + (rcells [r]).length) := ⟨_, rfl⟩
  obtain ⟨hl1, hl2, ht2⟩ := grow_cells X0.toList rs r n i C hl (by omega) hC1 hl0 ht0 X1 hX1
  obtain ⟨X2, hX2⟩ : ∃ X2, X2 = X1.take ((i + 1) * 4) ++ rcells (rs.drop i) ++ X1.drop ((i + 1) * 4 + (rcells (rs.drop i)).length) := ⟨_, rfl⟩
  rw [← hX2] at hl2 ht2
  obtain ⟨W1, hW1⟩ : ∃ W1, W1 = W0.setRow w.heap.size X1.toArray := ⟨_, rfl⟩
  have x1 : Bx W1 w.heap.size X1.toArray 69 := by rw [hW1]; exact setRow_heap W0 w.heap.size X0 _ 69 _ x0
  have b1 : Beside w W1 (fun k => k = w.heap.size) := by rw [hW1]; exact b0.row _ _ rfl
  obtain ⟨W2, hW2⟩ : ∃ W2, W2 = W1.drew.setRow w.heap.size X2.toArray := ⟨_, rfl⟩
  have b2 : Beside w W2 (fun k => k = w.heap.size) := by
    rw [hW2]
    have b1' : Beside w W1.drew (fun k => k = w.heap.size) := ⟨b1.os, b1.tape, b1.output, b1.size, b1.block⟩
    exact b1'.row _ _ rfl
  have hcp1 : Hid (∀ ty dl dc, Nat.min 1 dl = 1 → (Builtin.copy_ #[62, 62] ty #[.slice (some ⟨w.heap.size, i * 4, none⟩) dl dc, .slice (some ⟨vb, 0, none⟩) 1 1]).run Try.prog W0 = .ok (goInt (1 : Nat)) W1) := fun ty dl dc hm => by
    rw [hW1, hX1]
    exact run_copy_blocks ty w.heap.size (i * 4) dl dc ⟨vb, 0, none⟩ 1 1 1 (rcells [r]) x0 hm hr4 (rawC_at (hv.beside b0 (by omega))) (by have : X0.toList.length = X0.size := rfl; omega) (rcells_one _)
  have hcp2 : Hid (∀ ty dl dc sl sc, Nat.min sl dl = n - i → (Builtin.copy_ #[62, 62] ty #[.slice (some ⟨w.heap.size, (i + 1) * 4, none⟩) dl dc, .slice (some ⟨b, i * 4, none⟩) sl sc]).run Try.prog W1.drew = .ok (goInt (n - i : Nat)) W2) := fun ty dl dc sl sc hm => by
    rw [hW2, hX2]
    refine run_copy_blocks ty w.heap.size ((i + 1) * 4) dl dc ⟨b, i * 4, none⟩ sl sc (n - i) (rcells (rs.drop i)) x1 hm hdl (fun j v hj => ?_) (by rw [List.size_toArray, hl1]; omega) (rcells_one _)
    have hjl := (List.getElem?_eq_some_iff.1 hj).1
    rw [← rcells_drop, ← ht, List.getElem?_drop, List.getElem?_take_of_lt (by omega), Array.getElem?_toList] at hj
    rw [plainAdd]
    exact ((hx.beside b1 (by omega)).c _).trans hj
  have HEND := Lib.hid (show Inserted w B (some ⟨b, 0, none⟩) rs i r (.returned (.slice (some ⟨w.heap.size, 0, none⟩) (n + 1) C)) W2 by
    subst hl
    refine ⟨_, _, rfl, ⟨by rw [rcells_len, List.length_insertIdx, if_pos (by omega)], .inr ⟨w.heap.size, C, X2.toArray, rfl, hB, by rw [hW2]; exact setRow_heap W1.drew w.heap.size X1.toArray _ 69 _ x1, hC1, hC2, by have : X2.toArray.size = X2.length := rfl; omega, ht2⟩⟩, b2.weak fun k hk e => absurd e (by omega), .inr ⟨_, Nat.le_refl _, rfl⟩⟩)
  have hC63 : C ≤ 9223372036854775807 := by simp only [maxLen] at hC2; omega
  have HAP := Lib.hid (show ∀ ty K, K = ((n + 1 - i : Nat) : Int) → (Builtin.append_ #[62, 3] ty #[.slice (some ⟨b, 0, none⟩) i n, .int .i64 K]).run Try.prog w = .ok (.slice (some ⟨w.heap.size, 0, none⟩) (n + 1) C) W0 from fun ty K hK => by rw [hK]; exact hap ty)
  have hb2 : ¬ (C = i + 1) := by omega
  have hb4 : ¬ (n = i) := by omega
  have hb6 : ¬ (C = i) := by omega
  have hz3 : ¬ ((i : Int) = (n : Int)) := by omega
  have hw1 : IntKind.i64.wrap ((i : Int) + 1) = (i : Int) + 1 := by rw [IntKind.wrap_i64]; omega
  have hb1 : (0 : Int) ≤ (i : Int) + 1 := by omega
  have htn : ((i : Int) + 1).toNat = i + 1 := by omega
  have hb3 : (i : Int) ≤ (n : Int) + 1 := by omega
  have hb5 : (i : Int) + 1 ≤ (n : Int) + 1 := by omega
  have hin : i ≤ n := by omega
  have hk : (n : Int) + 1 - (i : Int) = ((n + 1 - i : Nat) : Int) := by omega
  generalize hL : Inserted w B (some ⟨b, 0, none⟩) rs i r = L at *
  clear hL hW1 hW2 hX1 hX2 hX0 hW0 x0 x1 b0 b1 b2 hl1 hl2 ht2 hdl hr4 hx hv ht hcs hl hap hl0 ht0 hol hz0 hzc hi0 hz1 hz2 hzs hC2
  have hmin1 : Nat.min 1 (n + 1 - i) = 1 := Nat.min_eq_left (by omega)
  have hmin2 : Nat.min (n - i) (n - i) = n - i := Nat.min_self _
  have HM := Lib.hid (And.intro hmin1 hmin2)
  have HC1 := Lib.hid (fun ty => hcp1.out ty (n + 1 - i) (C - i) hmin1)
  have HC2 := Lib.hid (fun ty => hcp2.out ty (n - i) (C - (i + 1)) (n - i) (n - i) hmin2)
  clear hk hsum hmin1 hmin2 hcp1 hcp2
  go_enter Try.func62, Try.ntmps62
  go_wp2_with (first
    | (at_builtin; refine list_append rfl (.tmp 34) (.tmp 39) rfl rfl rfl (HAP.out _ _ (by omega)) ?_)
    | (refine list_copy rfl (.tmp 43) (.tmp 44) rfl rfl rfl (HC1.out _) ?_))
  go_region_law (refine step_copy rfl _ _ rfl (by simp [Act.eval, Act.put]) (by simp [Act.eval, Act.put]) (HC2.out _) ?_)
  go_wp2_with fail
  first | go_ret | skip
  exact HEND.out
theorem Insert_any (B c vb i : Nat) (A : Option Addr) (vt : TypeId) (rs : List Raw) (r : Raw) (w : World) (hown : w.ownsRow B 69 4 (.slice A rs.length c) rs.length (rcells rs)) (hB : B ≤ w.heap.size) (hfew : rs.length ≤ 67108864) (hv : Bx w vb (rawC r).toArray vt) (hne : row A ≠ some vb) (hi : i ≤ rs.length) :
    Calls Try.prog 62 #[.slice A rs.length c, .int .i64 (i : Nat), .slice (some ⟨vb, 0, none⟩) 1 1] w (Inserted w B A rs i r) := by
  by_cases he : i = rs.length
  · subst he
    exact Insert_end B rs.length A c vb vt rs r w rfl hown hB hfew hv
  · rcases hown.2 with ⟨hv0, h0⟩ | ⟨b, cap, cur, hv0, hbB, hx, hnc, hcm, hcs, ht⟩
    · omega
    · injection hv0 with h1 _ h3
      subst h1 h3
      by_cases hroom : rs.length + 1 ≤ c
      · exact Insert_shift B rs.length b c vb i vt rs r cur w rfl hbB hx hcm hcs ht hfew hv (fun e => hne (by rw [e]; rfl)) (by omega) hroom
      · obtain rfl : c = rs.length := by omega
        exact Insert_grow B rs.length b vb i vt rs r cur w rfl hB hx hcs ht hfew hv (by omega)
end Go.Proofs.Ythbdncojekpanaa
