/-
  One block taken out of a list of blocks: slices.Delete.
-/
import Derived.Test.YthbdncojekpanaaR
import Derived.Deep.RegionLaw
import Derived.Shelf.RegionOpen
import Derived.Shelf.RegionOpenPlain
namespace Go.Proofs.Ythbdncojekpanaa
open Go.RowKit

def zblock : List Value := [.int .i64 0, .int .i64 0, .int .i64 0, .slice none 0 0]
theorem Try.info_block : (Try.prog.info? 69).map (fun i => (i.zero.map (fun z => z.cells.toList), i.size, i.bytes)) = some (some zblock, 4, 48) := by kernel_rfl
theorem block_parts : ∃ i z, Try.prog.info? 69 = some i ∧ i.zero = some z ∧ z.cells.toList = zblock ∧ i.size = 4 ∧ i.bytes = 48 := by
  obtain ⟨i, hi, hzz⟩ := Option.map_eq_some_iff.1 Try.info_block
  simp only [Prod.mk.injEq] at hzz
  obtain ⟨z, hz, hz2⟩ := Option.map_eq_some_iff.1 hzz.1
  exact ⟨i, z, hi, hz, hz2, hzz.2.1, hzz.2.2⟩
theorem rcells_drop : ∀ (rs : List Raw) (k : Nat), (rcells rs).drop (k * 4) = rcells (rs.drop k)
  | [], k => by simp [rcells]
  | r :: rs, 0 => rfl
  | r :: rs, k + 1 => by
    rw [rcells_cons, List.drop_succ_cons, ← rcells_drop rs k, show (k + 1) * 4 = 4 + k * 4 by omega, ← List.drop_drop]
    rfl
theorem rcells_take : ∀ (rs : List Raw) (k : Nat), (rcells rs).take (k * 4) = rcells (rs.take k)
  | [], k => by simp [rcells]
  | r :: rs, 0 => rfl
  | r :: rs, k + 1 => by
    rw [rcells_cons, List.take_succ_cons, rcells_cons, ← rcells_take rs k, show (k + 1) * 4 = (rawC r).length + k * 4 by show _ = 4 + k * 4; omega, List.take_length_add_append]
theorem rcells_app (rs rs' : List Raw) : rcells (rs ++ rs') = rcells rs ++ rcells rs' := by simp [rcells]
theorem rcells_one (rs : List Raw) : ∀ u ∈ rcells rs, u.oneCell' = true := by
  intro u hu
  obtain ⟨r, _, hr⟩ := List.mem_flatMap.1 hu
  simp only [rawC, List.mem_cons, List.not_mem_nil, or_false] at hr
  rcases hr with rfl | rfl | rfl | rfl <;> rfl
theorem Bx.setCells {b : Nat} {t : TypeId} : ∀ (vs : List Value) (o : Nat) (w : World) (cur : Array Value), Bx w b cur t → o + vs.length ≤ cur.size → Bx (w.setCells b o vs) b (cur.toList.take o ++ (vs ++ cur.toList.drop (o + vs.length))).toArray t ∧ Beside w (w.setCells b o vs) (fun k => k = b)
  | [], o, w, cur, h, _ => by
    refine ⟨?_, Beside.refl w _⟩
    simpa [World.setCells] using h
  | v :: vs, o, w, cur, h, hf => by
    have h1 : Bx (w.setCell ⟨b, o, none⟩ v) b (cur.setIfInBounds o v) t := by
      show (World.setCell _ _ _).heap[b]? = _
      rw [setCell_eq_setRow w b o cur t _ v h]
      exact setRow_heap w b _ _ t _ h
    have hl : o + 1 + vs.length ≤ (cur.setIfInBounds o v).size := by
      simp only [List.length_cons, Array.size_setIfInBounds] at hf ⊢
      omega
    obtain ⟨h2, h3⟩ := Bx.setCells vs (o + 1) (w.setCell ⟨b, o, none⟩ v) (cur.setIfInBounds o v) h1 hl
    refine ⟨?_, ((Beside.refl w (fun k => k = b)).set ⟨b, o, none⟩ v rfl).trans h3⟩
    have e : ((cur.setIfInBounds o v).toList.take (o + 1) ++ (vs ++ (cur.setIfInBounds o v).toList.drop (o + 1 + vs.length))).toArray = (cur.toList.take o ++ ((v :: vs) ++ cur.toList.drop (o + (v :: vs).length))).toArray := by
      congr 1
      rw [Array.toList_setIfInBounds, List.drop_set_of_lt (by omega), List.take_set, List.length_cons]
      have hol : o < cur.toList.length := by simp only [List.length_cons, Array.length_toList] at hf ⊢; omega
      rw [List.take_succ_eq_append_getElem hol, List.set_append_right _ _ (by rw [List.length_take]; omega), List.length_take, Nat.min_eq_left (by omega), Nat.sub_self, show o + (vs.length + 1) = o + 1 + vs.length by omega]
      simp
    rw [← e]
    exact h2
theorem run_clear_block {w : World} {b o c : Nat} {cur : Array Value} (hx : Bx w b cur 69) (hf : o + 4 ≤ cur.size) (ty : TypeId) : (Builtin.clear_ #[62] ty #[.slice (some ⟨b, o, none⟩) 1 c]).run Try.prog w = .ok (.tuple #[]) (w.setRow b (cur.toList.take o ++ zblock ++ cur.toList.drop (o + 4)).toArray) := by
  obtain ⟨i0, z, hi, hz, hzb, _, _⟩ := block_parts
  have hzc : (Builtin.zeroCells z.cells 1).toList = zblock := by
    rw [← hzb]
    apply List.ext_getElem
    · simp [Builtin.zeroCells]
    · intro i h1 h2
      have h3 : i < z.cells.size := by simpa using h2
      simp [Builtin.zeroCells, Nat.mod_eq_of_lt h3, getElem!_pos z.cells i h3]
  have hst := run_storeCells_at Try.prog b o 69 zblock 0 cur w hx (by simpa [zblock] using hf) (by intro u hu; simp only [zblock, List.mem_cons, List.not_mem_nil, or_false] at hu; rcases hu with rfl | rfl | rfl | rfl <;> rfl)
  have hl4 : zblock.length = 4 := rfl
  simp only [Nat.add_zero, hl4] at hst
  simp [Builtin.clear_, run_underlying Try.underlying62, zeroValue, typeInfo, hi, hz, hzc, hst]
/-- Behind a Delete of one block. -/
def Deleted (w : World) (B b c i : Nat) (rs : List Raw) (e : Ending) (w' : World) : Prop :=
  e = .returned (.slice (some ⟨b, 0, none⟩) (rs.length - 1) c) ∧ (∃ cur' : Array Value, Bx w' b cur' 69 ∧ cur'.size = c * 4 ∧ cur'.toList.take ((rs.length - 1) * 4) = rcells (rs.eraseIdx i)) ∧ Beside w w' (fun k => k = b) ∧ B ≤ b
set_option maxRecDepth 100000 in
set_option maxHeartbeats 2000000 in
theorem Delete_any (B b c i j : Nat) (cur : Array Value) (rs : List Raw) (w : World) (hB : B ≤ b) (hx : Bx w b cur 69) (hnc : rs.length ≤ c) (hcm : c ≤ maxLen) (hcs : cur.size = c * 4) (ht : cur.toList.take (rs.length * 4) = rcells rs) (hj : j = i + 1) (hi : i < rs.length) :
    Calls Try.prog 39 #[.slice (some ⟨b, 0, none⟩) rs.length c, .int .i64 (i : Nat), .int .i64 (j : Nat)] w (Deleted w B b c i rs) := by
  have hcm2 : c ≤ 9223372036854775807 := by simp only [maxLen] at hcm; omega
  obtain ⟨i0, z, hi0, _, _, hz1, _⟩ := block_parts
  obtain ⟨news, hnews⟩ : ∃ news, news = rcells (rs.drop j) := ⟨_, rfl⟩
  have hnl : news.length = (rs.length - j) * 4 := by rw [hnews, rcells_len, List.length_drop]
  obtain ⟨A, hA, hsrc⟩ : ∃ A : Addr, (if c = j then some (⟨b, 0, none⟩ : Addr) else some ⟨b, j * 4, none⟩) = some A ∧ Hid (∀ t u, news[t]? = some u → w.drew.cell? (A.add t) = some u) := by
    by_cases h : c = j
    · refine ⟨⟨b, 0, none⟩, by simp [h], fun t u hu => ?_⟩
      have h0 : news.length = 0 := by rw [hnl]; omega
      rw [List.length_eq_zero_iff.1 h0] at hu
      simp at hu
    · refine ⟨⟨b, j * 4, none⟩, by simp [h], fun t u hu => ?_⟩
      have htl := (List.getElem?_eq_some_iff.1 hu).1
      rw [hnews, ← rcells_drop, ← ht, List.getElem?_drop, List.getElem?_take_of_lt (by omega), Array.getElem?_toList] at hu
      rw [plainAdd]
      exact (hx.c _).trans hu
  have s1 : Hid (news.length = (rs.length - j) * 4) := hnl
  have s2 : Hid (∀ u ∈ news, u.oneCell' = true) := by rw [hnews]; exact rcells_one _
  have s3 : Hid (∀ t, t < news.length → (w.drew.cell? ⟨b, 0 + i * 4 + t, none⟩).isSome = true ∧ w.drew.frozen? ⟨b, 0 + i * 4 + t, none⟩ = false) := by
    intro t htl
    refine ⟨?_, hx.f _⟩
    have h1 : w.drew.cell? ⟨b, 0 + i * 4 + t, none⟩ = cur[0 + i * 4 + t]? := hx.c _
    rw [h1, Array.getElem?_eq_getElem (by omega)]
    rfl
  obtain ⟨W1, hW1⟩ : ∃ W1, W1 = w.drew.setCells b (0 + i * 4) news := ⟨_, rfl⟩
  have hsc := Bx.setCells (w := w.drew) news (0 + i * 4) cur hx (by omega)
  rw [← hW1] at hsc
  obtain ⟨x1, b1⟩ := hsc
  have hcl := fun ty => run_clear_block (c := c - (rs.length - 1)) (o := (rs.length - 1) * 4) x1 (by
    simp only [List.size_toArray, List.length_append, List.length_take, List.length_drop, Array.length_toList]
    omega) ty
  obtain ⟨W2, hW2⟩ : ∃ W2, W2 = W1.setRow b ((List.take (0 + i * 4) cur.toList ++ (news ++ List.drop (0 + i * 4 + news.length) cur.toList)).toArray.toList.take ((rs.length - 1) * 4) ++ zblock ++ (List.take (0 + i * 4) cur.toList ++ (news ++ List.drop (0 + i * 4 + news.length) cur.toList)).toArray.toList.drop ((rs.length - 1) * 4 + 4)).toArray := ⟨_, rfl⟩
  rw [← hW2] at hcl
  have hone : rs.length - (rs.length - 1) = 1 := by omega
  have hn1 : rs.length - 1 ≤ rs.length := by omega
  have hc1 : ¬ c = rs.length - 1 := by omega
  have HEND := Lib.hid (show Deleted w B b c i rs (.returned (.slice (some ⟨b, 0, none⟩) (rs.length - 1) c)) W2 by
    have hxl : (List.take (0 + i * 4) cur.toList).length = i * 4 := by rw [List.length_take, Array.length_toList]; omega
    refine ⟨rfl, ⟨_, by rw [hW2]; exact setRow_heap W1 b _ _ 69 _ x1, ?_, ?_⟩, ?_, hB⟩
    · have hz4 : zblock.length = 4 := rfl
      simp only [List.size_toArray, List.length_append, List.length_take, List.length_drop, Array.length_toList, hz4]
      omega
    · have htl : (List.take ((rs.length - 1) * 4) (List.take (0 + i * 4) cur.toList ++ (news ++ List.drop (0 + i * 4 + news.length) cur.toList))) = rcells (rs.eraseIdx i) := by
        rw [← List.append_assoc, List.take_left' (by rw [List.length_append, hxl, hnl]; omega), hnews, List.eraseIdx_eq_take_drop_succ, ← hj, rcells_app, ← rcells_take, ← ht, List.take_take, Nat.zero_add, Nat.min_eq_left (by omega)]
      simp only [List.append_assoc] at htl ⊢
      rw [htl, List.take_left' (by rw [rcells_len, List.length_eraseIdx, if_pos hi])]
    · rw [hW2]
      have b0 : Beside w W1 (fun k => k = b) := ⟨b1.os, b1.tape, b1.output, b1.size, b1.block⟩
      exact b0.row b _ rfl)
  clear hW2
  have hic : i ≤ c := by omega
  have hjc : j ≤ c := by omega
  have hij : ¬ i = j := by omega
  have hjn : j ≤ rs.length := by omega
  have hsum : i + (rs.length - j) = rs.length - 1 := by omega
  generalize hL : Deleted w B b c i rs = L
  have HL := Lib.hid hL
  have HW1 := Lib.hid hW1
  clear hL hW1 x1 b1 hx ht hnews hnl hcs hj
  go_enter Try.func39, Try.ntmps39
  go_wp2_with fail
  go_region_law (refine step_append_room rfl (.tmp 22) (.tmp 25) 62 rfl 69 i0 4 Try.underlying62 hi0 hz1 b 0 i c (by simp [Act.eval, Act.put]) A (rs.length - j) (c - j) news (by simp [Act.eval, Act.put]) s1.out hsrc.out s2.out (by omega) s3.out ?_; rw [← HW1.out])
  clear hsrc s1 s2 s3 hA
  go_wp2
  rw [← HL.out]
  exact HEND.out
end Go.Proofs.Ythbdncojekpanaa
