/-
  Above, the last part, absolute or not, and a path's pieces: by the library's contracts.
-/
import Derived.Test.YtkpmfahmhmdccaaDoorLA
import Derived.Test.YtkpmfahmhmdccaaDoorSh
import Derived.Lib.SplitLaws
namespace Go.Proofs.YtkpmfahmhmdccaaDoor.Fil
open Go.RowKit

theorem above_any (l : Str) (w : World) (hs : l.length < 4611686018427387904) (h1 : 1 ≤ l.length) :
    Calls Tryd.prog 22 #[str l] w fun e w' => e = .returned (str (above l)) ∧ w = w' := by
  have hb := lastSlash_bounds l
  have hm : 0 ≤ max (lastSlash l) 1 ∧ max (lastSlash l) 1 ≤ (l.length : Int) := by omega
  have hc := Tryd.strings_LastIndexByte ⟨l.toArray⟩ 47 (by simpa [ByteArray.size] using hs) w
  rw [show Lib.lastIndexByte ⟨l.toArray⟩ 47 = lastSlash l from rfl] at hc
  go_enter Tryd.func22, Tryd.ntmps22
  go_wp2_with (go_at_call 37; refine hc.mono ?_; rintro e w' ⟨rfl, rfl⟩)
  go_ret
  refine ⟨?_, rfl⟩
  rw [above, ByteArray.extract_mk]
  simp
def isAbs (l : Str) : Bool := Lib.hasPrefix l [47]
theorem isAbs_any (l : Str) (w : World) :
    Calls Tryd.prog 36 #[str l] w fun e w' => e = .returned (.bool (isAbs l)) ∧ w = w' := by
  have hc := Tryd.strings_HasPrefix ⟨l.toArray⟩ ⟨#[47]⟩ w
  go_enter Tryd.func36, Tryd.ntmps36
  go_wp2_with (go_at_call 44; refine hc.mono ?_; rintro e w' ⟨rfl, rfl⟩)
  go_ret
  exact ⟨rfl, rfl⟩
theorem isAbs_iff (l : Str) : isAbs l = true ↔ l.head? = some 47 := by
  cases l with
  | nil => simp [isAbs, Lib.hasPrefix]
  | cons c t =>
    show (List.isPrefixOf [47] (c :: t)) = true ↔ _
    simp only [List.isPrefixOf, Bool.and_true, beq_iff_eq, List.head?_cons, Option.some.injEq]
    exact eq_comm

/-! A text's pieces between its slashes. -/
def splitS : Str → List Str
  | [] => [[]]
  | c :: l => if c = 47 then [] :: splitS l else match splitS l with
    | [] => [[c]]
    | p :: ps => (c :: p) :: ps
theorem splitS_ne (l : Str) : splitS l ≠ [] := by
  cases l with
  | nil => simp [splitS]
  | cons c l =>
    unfold splitS
    split
    · simp
    · split <;> simp
theorem splitK_eq (l : Str) : Lib.splitK [47] 0 (Lib.count l [47]) l = splitS l := by
  induction l with
  | nil => simp [Lib.count_one, Lib.splitK, splitS]
  | cons c l ih =>
    by_cases h : c = 47
    · subst h
      have hix : Lib.index (47 :: l) [47] = 0 := by rw [Lib.index]; simp [List.isPrefixOf]
      rw [Lib.count_cons_eq, Nat.add_comm, Lib.splitK, hix, splitS, if_pos rfl, ← ih]
      simp
    · have hp : ([47] : List UInt8).isPrefixOf (c :: l) = false := by simp [List.isPrefixOf, Ne.symm h]
      have hix : Lib.index (c :: l) [47] = if Lib.index l [47] == -1 then -1 else Lib.index l [47] + 1 := by rw [Lib.index, hp]; simp
      rw [Lib.count_cons_ne _ _ _ h, splitS, if_neg h, ← ih]
      cases hn : Lib.count l [47] with
      | zero => simp [Lib.splitK]
      | succ k =>
        have hge : Lib.index l [47] = -1 ∨ 0 ≤ Lib.index l [47] := by
          have := Lib.indexByte_ge l 47
          rw [Lib.index_one]
          omega
        rcases hge with hm | hm
        · exfalso
          rw [Lib.count_miss hm] at hn
          omega
        · have h1 : ¬ (Lib.index l [47] == -1) = true := fun e => by have := beq_iff_eq.1 e; omega
          have h2 : ¬ (Lib.index l [47] + 1 == -1) = true := fun e => by have := beq_iff_eq.1 e; omega
          rw [Lib.splitK, Lib.splitK, hix, if_neg h1, if_neg h2]
          simp only [if_neg h1]
          obtain ⟨i, hi⟩ : ∃ i : Nat, Lib.index l [47] = i := ⟨(Lib.index l [47]).toNat, by omega⟩
          rw [hi, show (((i : Int) + 1).toNat) = i + 1 by omega]
          simp
theorem splitB_eq (l : Str) : (Lib.splitB ⟨#[47]⟩ 0 (Lib.countB ⟨l.toArray⟩ ⟨#[47]⟩) ⟨l.toArray⟩).map Value.string = (splitS l).map str := by
  have h := Lib.splitB_data ⟨#[47]⟩ 0 (Lib.countB ⟨l.toArray⟩ ⟨#[47]⟩) ⟨l.toArray⟩
  have h2 : Lib.countB ⟨l.toArray⟩ ⟨#[47]⟩ = Lib.count l [47] := rfl
  have h3 : Lib.splitK (ByteArray.mk #[47]).data.toList 0 (Lib.countB ⟨l.toArray⟩ ⟨#[47]⟩) (ByteArray.mk l.toArray).data.toList = splitS l := splitK_eq l
  rw [h3] at h
  rw [← h, List.map_map]
  refine List.map_congr_left fun s _ => ?_
  exact str_of s
theorem splitB_len (l : Str) : Lib.countB ⟨l.toArray⟩ ⟨#[47]⟩ + 1 = (splitS l).length := by
  have h := congrArg List.length (splitB_eq l)
  rw [List.length_map, List.length_map, Lib.splitB_all ⟨#[47]⟩ (by decide) 0 _ _ rfl] at h
  exact h

/-- The library's own variable of a number, in block 0. -/
def Ml (w : World) : Prop := ∃ m, w.cell? ⟨0, 0, none⟩ = some (.int .i64 m)
def strs (l : List Str) : List Value := l.map str
theorem split_any (l : Str) (w : World) (hs : l.length < 4294967281) (hm : Ml w) :
    Calls Tryd.prog 42 #[str l, .string ⟨#[47]⟩] w fun e w' => e = .returned (.slice (some ⟨w.heap.size, 0, none⟩) (splitS l).length (splitS l).length) ∧ w' = w.alloc (.cells (strs (splitS l)).toArray 9) := by
  obtain ⟨m, hm⟩ := hm
  have h := Tryd.strings_Split ⟨l.toArray⟩ ⟨#[47]⟩ m w (by simpa [ByteArray.size] using hs) hm (by decide)
  rw [splitB_eq, splitB_len] at h
  exact h

/-! The parts of a path. -/
def keepPart (p : Str) : Bool := p != [] && p != [46]
def partsIn : List Str → List Str := List.filter keepPart
/-- The parts of a path, and whether it is one. -/
def partsOf (l : Str) : Option (List Str) := if 200 < l.length then none else if (splitS l).all part then some (partsIn (splitS l)) else none
theorem splitS_length (l : Str) : (splitS l).length ≤ l.length + 1 := by
  induction l with
  | nil => simp [splitS]
  | cons c l ih =>
    unfold splitS
    split
    · simp; omega
    · split
      · simp
      · rename_i h; rw [h] at ih; simp at ih ⊢; omega
theorem splitS_le (l : Str) : ∀ p ∈ splitS l, p.length ≤ l.length := by
  induction l with
  | nil => simp [splitS]
  | cons c l ih =>
    intro p hp
    unfold splitS at hp
    split at hp
    · rcases List.mem_cons.1 hp with rfl | hp
      · simp
      · have := ih p hp; simp; omega
    · split at hp
      · rename_i h; exact absurd h (splitS_ne l)
      · rename_i q qs h
        rw [h] at ih
        rcases List.mem_cons.1 hp with rfl | hp
        · have := ih q (by simp); simp; omega
        · have := ih p (by simp [hp]); simp; omega

theorem own_below {w w' : World} {B : Nat} {e : TypeId} {v : Value} {n : Nat} {xs : List Value} (h : w.ownsRow B e 1 v n xs) (hb : Below w.heap.size w w') : w'.ownsRow B e 1 v n xs :=
  h.kept (row := none) ⟨hb.os, hb.tape, hb.output, hb.size, fun k hk _ => hb.block k hk⟩ (by cases v.ownBlock <;> simp)
theorem cell_below {w w' : World} (hb : Below w.heap.size w w') {a : Addr} {u : Value} (h : w.cell? a = some u) : w'.cell? a = some u := (hb.cell (World.block_lt_of_cell? w _ h)).trans h
theorem cell_alloc {w : World} {a : Addr} {u : Value} (h : w.cell? a = some u) (o : Obj) : (w.alloc o).cell? a = some u := by
  rw [World.cell?_alloc_lt w _ _ (World.block_lt_of_cell? w _ h)]; exact h
theorem Ml.below {w w' : World} {B : Nat} (h : Ml w) (hb : Below B w w') (h0 : 0 < B) : Ml w' := by
  obtain ⟨m, h⟩ := h
  exact ⟨m, (hb.cell h0).trans h⟩
theorem Ml.pos {w : World} (h : Ml w) : 0 < w.heap.size := by
  obtain ⟨m, h⟩ := h
  exact World.block_lt_of_cell? w _ h
theorem Tryd.info_string : (Tryd.prog.info? 9).map (fun i => (i.zero, i.size, i.bytes)) = some (some (.string ⟨#[]⟩), 1, 16) := by kernel_rfl
theorem strs_len (l : List Str) : (strs l).length = l.length := by simp [strs]
theorem strs_one (l : List Str) : ∀ u ∈ strs l, u.oneCell' = true := by
  intro u hu
  obtain ⟨p, _, rfl⟩ := List.mem_map.1 hu
  rfl
theorem strs_app (l m : List Str) : strs (l ++ m) = strs l ++ strs m := by simp [strs]
theorem partsIn_take (l : List Str) (k : Nat) (hk : k < l.length) : partsIn (l.take (k + 1)) = partsIn (l.take k) ++ (if keepPart l[k] then [l[k]] else []) := by
  unfold partsIn
  rw [List.take_succ_eq_append_getElem hk, List.filter_append]
  simp [List.filter_cons]
theorem partsIn_len (l : List Str) : (partsIn l).length ≤ l.length := List.length_filter_le _ _
/-- Behind a call that takes a path apart. -/
def Parted (w : World) (o : Option (List Str)) (e : Ending) (w' : World) : Prop :=
  Below w.heap.size w w' ∧ match o with
    | none => e = .returned (.tuple #[.slice none 0 0, .bool false])
    | some ps => ∃ A c, e = .returned (.tuple #[.slice A ps.length c, .bool true]) ∧ w'.ownsRow w.heap.size 9 1 (.slice A ps.length c) ps.length (strs ps)

theorem partsOf_any (l : Str) (w : World) (hs : l.length ≤ 9223372036854775807) (hm : Ml w) :
    Calls Tryd.prog 35 #[str l] w (Parted w (partsOf l)) := by
  by_cases h2 : 200 < l.length
  · go_enter Tryd.func35, Tryd.ntmps35
    go_wp2_with fail
    go_ret2
    refine ⟨Below.refl _ _, ?_⟩
    rw [partsOf, if_pos h2]
    rfl
  · have hcs := split_any l w (by omega) hm
    have h63 : l.length ≤ 200 := by omega
    have hn := splitS_length l
    have hle := splitS_le l
    have hpo : partsOf l = if (splitS l).all part then some (partsIn (splitS l)) else none := by rw [partsOf, if_neg h2]
    generalize splitS l = ps at *
    have hbx := (Below.refl w.heap.size w).alloc (Nat.le_refl _) (.cells (strs ps).toArray 9)
    have hkx : (w.alloc (.cells (strs ps).toArray 9)).heap[w.heap.size]? = some (.cells (strs ps).toArray 9 (0, 0)) := heap_alloc_new _ _
    have hsz : (w.alloc (.cells (strs ps).toArray 9)).heap.size = w.heap.size + 1 := by simp
    have HCS := Lib.hid hcs
    have HBX := Lib.hid hbx
    have HKX := Lib.hid hkx
    have HSX := Lib.hid hsz
    have HN := Lib.hid hn
    have h201 : ps.length ≤ 201 := by omega
    have HLE := Lib.hid hle
    have HPO := Lib.hid hpo
    clear hcs hbx hkx hsz hn hle hpo hm
    go_enter Tryd.func35, Tryd.ntmps35
    go_wp2_with fail
    refine HCS.out.mono ?_
    rintro e w1 ⟨rfl, rfl⟩
    generalize w.alloc (.cells (strs ps).toArray 9) = w1 at *
    clear HCS
    go_wp2_with fail
    go_loopw [4, 13] (fun t i wr => ∃ k : Nat, k ≤ ps.length ∧ i = .int .i64 k ∧ (ps.take k).all part = true ∧ Below w1.heap.size w1 wr ∧ ∃ A c, t = .slice A (partsIn (ps.take k)).length c ∧ wr.ownsRow w1.heap.size 9 1 (.slice A (partsIn (ps.take k)).length c) (partsIn (ps.take k)).length (strs (partsIn (ps.take k)))) (fun _ i _ => ps.length - (intOf i).toNat)
    case atStart => exact ⟨0, Nat.zero_le _, rfl, by simp, Below.refl _ _, none, 0, rfl, World.ownsRow_nil _ _ _ _⟩
    case round =>
      obtain ⟨k, hk, rfl, hall, hb, A, c, rfl, ho⟩ := hrel
      by_cases hlt : k < ps.length
      · have hcell : wr.cell? ⟨w.heap.size, k, none⟩ = some (str ps[k]) := by
          rw [hb.cell (show w.heap.size < _ by have := HSX.out; omega), Go.cell_of_row _ _ _ _ _ _ HKX.out]
          simp [strs, hlt]
        have hpl : ps[k].length ≤ 200 := Nat.le_trans (HLE.out _ (List.getElem_mem _)) h63
        have htk := partsIn_take ps k hlt
        have hal : (ps.take (k + 1)).all part = part ps[k] := by rw [List.take_succ_eq_append_getElem hlt, List.all_append, hall]; simp
        have hln : (partsIn (ps.take k)).length ≤ 201 := by
          have h1 := partsIn_len (ps.take k)
          have h2 := HN.out
          rw [List.length_take] at h1
          omega
        have hnone : part ps[k] = false → ps.all part = false := fun h => by
          rw [List.all_eq_false]
          exact ⟨ps[k], List.getElem_mem _, by simp [h]⟩
        generalize ps[k] = q at *
        generalize partsIn (ps.take k) = qs at *
        have HB := Lib.hid hb
        have HO := Lib.hid ho
        have HTK := Lib.hid htk
        have HAL := Lib.hid hal
        have HLN := Lib.hid hln
        have HNO := Lib.hid hnone
        have HALL := Lib.hid hall
        have HPC := Lib.hid (isPart_any q wr (by omega))
        clear hb ho htk hal hln hnone hall
        go_wp2_with fail
        refine HPC.out.mono ?_
        rintro e w2 ⟨rfl, rfl⟩
        cases hq : part q
        · go_wp2
          go_ret2
          refine ⟨HBX.out.trans (HB.out.mono (by have := HSX.out; omega)), ?_⟩
          rw [HPO.out, if_neg (by simp [HNO.out hq])]
          rfl
        · cases hkp : keepPart q
          · rw [hkp] at HTK
            have HT : partsIn (ps.take (k + 1)) = qs := by have := HTK.out; simpa using this
            have HT := Lib.hid HT
            have hor : q = [] ∨ q = [46] := by
              unfold keepPart at hkp
              by_cases h1 : q = []
              · exact .inl h1
              · right
                simpa [h1] using hkp
            rcases hor with rfl | rfl
            all_goals
              go_wp2
              go_round
              case rel => exact ⟨k + 1, by omega, by go_num, by rw [HAL.out, hq], HB.out, A, c, by rw [HT.out], by rw [HT.out]; exact HO.out⟩
              case measure => simp [intOf]; omega
          · rw [hkp] at HTK
            have HT : partsIn (ps.take (k + 1)) = qs ++ [q] := by have := HTK.out; simpa using this
            have HT := Lib.hid HT
            have n1 : (q == []) = false := by cases hh : (q == []) <;> simp_all [keepPart]
            have n2 : (q == [46]) = false := by cases hh : (q == [46]) <;> simp_all [keepPart]
            obtain ⟨i0, hi0, hz0, hz1, hz2⟩ := info_parts Tryd.info_string
            have HBA := Lib.hid ((Below.refl wr.heap.size wr).alloc (Nat.le_refl _) (.cells #[str q] 9))
            have HOA := Lib.hid (HO.out.alloc (.cells #[str q] 9))
            have HCN := Lib.hid (cell_one_new wr (str q) 9)
            have HSZ := Lib.hid (show (wr.alloc (.cells #[str q] 9)).heap.size = wr.heap.size + 1 by simp)
            have hs1 := HB.out.size
            go_wp2_with (at_builtin; refine wpList_append_src rfl (.tmp 26) (.tmp 28) 22 rfl w1.heap.size 9 i0 (.string ⟨#[]⟩) 16 Tryd.underlying22 hi0 hz0 hz1 hz2 rfl (.slice A qs.length c) qs.length (strs qs) rfl HOA.out (fun _ => True) _ 1 1 [str q] rfl ⟨rfl, (by intro h; cases h), Nat.le_refl _, (by intro _ _ _; trivial), (by intro ad h; cases h; exact HCN.out)⟩ (by intro u hu; simp at hu; subst hu; rfl) (by have := HLN.out; simp only [maxLen]; omega) (by have := HLN.out; omega) (by have := HSZ.out; omega) ?_; intro v' w2 hown hg hat; obtain ⟨A', c', rfl⟩ := own_slice hown; have HO2 := Lib.hid hown; have HG2 := Lib.hid hg; clear hown hg hat)
            go_round
            case rel =>
              have e1 : (partsIn (ps.take (k + 1))).length = qs.length + 1 := by rw [HT.out]; simp
              refine ⟨k + 1, by omega, by go_num, by rw [HAL.out, hq], (HB.out.trans (HBA.out.mono hs1)).grown HG2.out (by have := HSZ.out; omega) (fun j hj => ?_), A', c', by rw [e1], ?_⟩
              · exact (HOA.out.lt j hj).1
              · rw [HT.out, strs_app]
                simpa [strs] using HO2.out
            case measure => simp [intOf]; omega
      · obtain rfl : k = ps.length := by omega
        rw [List.take_length] at *
        have HB := Lib.hid hb
        have HO := Lib.hid ho
        have HALL := Lib.hid hall
        clear hb ho hall
        go_wp2
        go_ret2
        refine ⟨HBX.out.trans (HB.out.mono (by have := HSX.out; omega)), ?_⟩
        rw [HPO.out, if_pos HALL.out]
        exact ⟨A, c, rfl, own_more HO.out (by have := HSX.out; omega)⟩
end Go.Proofs.YtkpmfahmhmdccaaDoor.Fil
