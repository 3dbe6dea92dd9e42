/-
  One block taken out of a list of blocks: slices.Delete.
  Unmap.
  One block put into a list of blocks: slices.Insert at the end.
-/
import Derived.Test.YtfkhfjefddgkoaaDoorZSR
import Derived.Deep.RegionLaw
import Derived.Shelf.RegionOpen
import Derived.Shelf.RegionOpenPlain
import Derived.Lib.Overlaps
namespace Go.Proofs.YtfkhfjefddgkoaaDoor
open Go.RowKit

def zblock : List Value := [.int .i64 0, .int .i64 0, .int .i64 0, .slice none 0 0]
theorem Tryd.info_block : (Tryd.prog.info? 122).map (fun i => (i.zero.map (fun z => z.cells.toList), i.size, i.bytes)) = some (some zblock, 4, 48) := by kernel_rfl
theorem block_parts : ∃ i z, Tryd.prog.info? 122 = some i ∧ i.zero = some z ∧ z.cells.toList = zblock ∧ i.size = 4 ∧ i.bytes = 48 := by
  obtain ⟨i, hi, hzz⟩ := Option.map_eq_some_iff.1 Tryd.info_block
  simp only [Prod.mk.injEq] at hzz
  obtain ⟨z, hz, hz2⟩ := Option.map_eq_some_iff.1 hzz.1
  exact ⟨i, z, hi, hz, hz2, hzz.2.1, hzz.2.2⟩
theorem rcells_drop : ∀ (rs : List Raw) (k : Nat), (rcells rs).drop (k * 4) = rcells (rs.drop k)
  | [], k => by simp [rcells]
  | r :: rs, 0 => rfl
  | r :: rs, k + 1 => by
    rw [rcells_cons, List.drop_succ_cons, ← rcells_drop rs k, show (k + 1) * 4 = 4 + k * 4 by omega, ← List.drop_drop]
    rfl
theorem rcells_take : ∀ (rs : List Raw) (k : Nat), (rcells rs).take (k * 4) = rcells (rs.take k)
  | [], k => by simp [rcells]
  | r :: rs, 0 => rfl
  | r :: rs, k + 1 => by
    rw [rcells_cons, List.take_succ_cons, rcells_cons, ← rcells_take rs k, show (k + 1) * 4 = (rawC r).length + k * 4 by show _ = 4 + k * 4; omega, List.take_length_add_append]
theorem rcells_app (rs rs' : List Raw) : rcells (rs ++ rs') = rcells rs ++ rcells rs' := by simp [rcells]
theorem rcells_one (rs : List Raw) : ∀ u ∈ rcells rs, u.oneCell' = true := by
  intro u hu
  obtain ⟨r, _, hr⟩ := List.mem_flatMap.1 hu
  simp only [rawC, List.mem_cons, List.not_mem_nil, or_false] at hr
  rcases hr with rfl | rfl | rfl | rfl <;> rfl
theorem Bx.setCells {b : Nat} {t : TypeId} : ∀ (vs : List Value) (o : Nat) (w : World) (cur : Array Value), Bx w b cur t → o + vs.length ≤ cur.size → Bx (w.setCells b o vs) b (cur.toList.take o ++ (vs ++ cur.toList.drop (o + vs.length))).toArray t ∧ Beside w (w.setCells b o vs) (fun k => k = b)
  | [], o, w, cur, h, _ => by
    refine ⟨?_, Beside.refl w _⟩
    simpa [World.setCells] using h
  | v :: vs, o, w, cur, h, hf => by
    have h1 : Bx (w.setCell ⟨b, o, none⟩ v) b (cur.setIfInBounds o v) t := by
      show (World.setCell _ _ _).heap[b]? = _
      rw [setCell_eq_setRow w b o cur t _ v h]
      exact setRow_heap w b _ _ t _ h
    have hl : o + 1 + vs.length ≤ (cur.setIfInBounds o v).size := by
      simp only [List.length_cons, Array.size_setIfInBounds] at hf ⊢
      omega
    obtain ⟨h2, h3⟩ := Bx.setCells vs (o + 1) (w.setCell ⟨b, o, none⟩ v) (cur.setIfInBounds o v) h1 hl
    refine ⟨?_, ((Beside.refl w (fun k => k = b)).set ⟨b, o, none⟩ v rfl).trans h3⟩
    have e : ((cur.setIfInBounds o v).toList.take (o + 1) ++ (vs ++ (cur.setIfInBounds o v).toList.drop (o + 1 + vs.length))).toArray = (cur.toList.take o ++ ((v :: vs) ++ cur.toList.drop (o + (v :: vs).length))).toArray := by
      congr 1
      rw [Array.toList_setIfInBounds, List.drop_set_of_lt (by omega), List.take_set, List.length_cons]
      have hol : o < cur.toList.length := by simp only [List.length_cons, Array.length_toList] at hf ⊢; omega
      rw [List.take_succ_eq_append_getElem hol, List.set_append_right _ _ (by rw [List.length_take]; omega), List.length_take, Nat.min_eq_left (by omega), Nat.sub_self, show o + (vs.length + 1) = o + 1 + vs.length by omega]
      simp
    rw [← e]
    exact h2
theorem run_clear_block {w : World} {b o c : Nat} {cur : Array Value} (hx : Bx w b cur 122) (hf : o + 4 ≤ cur.size) (ty : TypeId) : (Builtin.clear_ #[93] ty #[.slice (some ⟨b, o, none⟩) 1 c]).run Tryd.prog w = .ok (.tuple #[]) (w.setRow b (cur.toList.take o ++ zblock ++ cur.toList.drop (o + 4)).toArray) := by
  obtain ⟨i0, z, hi, hz, hzb, _, _⟩ := block_parts
  have hzc : (Builtin.zeroCells z.cells 1).toList = zblock := by
    rw [← hzb]
    apply List.ext_getElem
    · simp [Builtin.zeroCells]
    · intro i h1 h2
      have h3 : i < z.cells.size := by simpa using h2
      simp [Builtin.zeroCells, Nat.mod_eq_of_lt h3, getElem!_pos z.cells i h3]
  have hst := run_storeCells_at Tryd.prog b o 122 zblock 0 cur w hx (by simpa [zblock] using hf) (by intro u hu; simp only [zblock, List.mem_cons, List.not_mem_nil, or_false] at hu; rcases hu with rfl | rfl | rfl | rfl <;> rfl)
  have hl4 : zblock.length = 4 := rfl
  simp only [Nat.add_zero, hl4] at hst
  simp [Builtin.clear_, run_underlying Tryd.underlying93, zeroValue, typeInfo, hi, hz, hzc, hst]
/-- Behind a Delete of one block. -/
def Deleted (w : World) (B b c i : Nat) (rs : List Raw) (e : Ending) (w' : World) : Prop :=
  e = .returned (.slice (some ⟨b, 0, none⟩) (rs.length - 1) c) ∧ (∃ cur' : Array Value, Bx w' b cur' 122 ∧ cur'.size = c * 4 ∧ cur'.toList.take ((rs.length - 1) * 4) = rcells (rs.eraseIdx i)) ∧ Beside w w' (fun k => k = b) ∧ B ≤ b
set_option maxRecDepth 100000 in
set_option maxHeartbeats 2000000 in
theorem Delete_any (B b c i j : Nat) (cur : Array Value) (rs : List Raw) (w : World) (hB : B ≤ b) (hx : Bx w b cur 122) (hnc : rs.length ≤ c) (hcm : c ≤ maxLen) (hcs : cur.size = c * 4) (ht : cur.toList.take (rs.length * 4) = rcells rs) (hj : j = i + 1) (hi : i < rs.length) :
    Calls Tryd.prog 80 #[.slice (some ⟨b, 0, none⟩) rs.length c, .int .i64 (i : Nat), .int .i64 (j : Nat)] w (Deleted w B b c i rs) := by
  have hcm2 : c ≤ 9223372036854775807 := by simp only [maxLen] at hcm; omega
  obtain ⟨i0, z, hi0, _, _, hz1, _⟩ := block_parts
  obtain ⟨news, hnews⟩ : ∃ news, news = rcells (rs.drop j) := ⟨_, rfl⟩
  have hnl : news.length = (rs.length - j) * 4 := by rw [hnews, rcells_len, List.length_drop]
  obtain ⟨A, hA, hsrc⟩ : ∃ A : Addr, (if c = j then some (⟨b, 0, none⟩ : Addr) else some ⟨b, j * 4, none⟩) = some A ∧ Hid (∀ t u, news[t]? = some u → w.drew.cell? (A.add t) = some u) := by
    by_cases h : c = j
    · refine ⟨⟨b, 0, none⟩, by simp [h], fun t u hu => ?_⟩
      have h0 : news.length = 0 := by rw [hnl]; omega
      rw [List.length_eq_zero_iff.1 h0] at hu
      simp at hu
    · refine ⟨⟨b, j * 4, none⟩, by simp [h], fun t u hu => ?_⟩
      have htl := (List.getElem?_eq_some_iff.1 hu).1
      rw [hnews, ← rcells_drop, ← ht, List.getElem?_drop, List.getElem?_take_of_lt (by omega), Array.getElem?_toList] at hu
      rw [plainAdd]
      exact (hx.c _).trans hu
  have s1 : Hid (news.length = (rs.length - j) * 4) := hnl
  have s2 : Hid (∀ u ∈ news, u.oneCell' = true) := by rw [hnews]; exact rcells_one _
  have s3 : Hid (∀ t, t < news.length → (w.drew.cell? ⟨b, 0 + i * 4 + t, none⟩).isSome = true ∧ w.drew.frozen? ⟨b, 0 + i * 4 + t, none⟩ = false) := by
    intro t htl
    refine ⟨?_, hx.f _⟩
    have h1 : w.drew.cell? ⟨b, 0 + i * 4 + t, none⟩ = cur[0 + i * 4 + t]? := hx.c _
    rw [h1, Array.getElem?_eq_getElem (by omega)]
    rfl
  obtain ⟨W1, hW1⟩ : ∃ W1, W1 = w.drew.setCells b (0 + i * 4) news := ⟨_, rfl⟩
  have hsc := Bx.setCells (w := w.drew) news (0 + i * 4) cur hx (by omega)
  rw [← hW1] at hsc
  obtain ⟨x1, b1⟩ := hsc
  have hcl := fun ty => run_clear_block (c := c - (rs.length - 1)) (o := (rs.length - 1) * 4) x1 (by
    simp only [List.size_toArray, List.length_append, List.length_take, List.length_drop, Array.length_toList]
    omega) ty
  obtain ⟨W2, hW2⟩ : ∃ W2, W2 = W1.setRow b ((List.take (0 + i * 4) cur.toList ++ (news ++ List.drop (0 + i * 4 + news.length) cur.toList)).toArray.toList.take ((rs.length - 1) * 4) ++ zblock ++ (List.take (0 + i * 4) cur.toList ++ (news ++ List.drop (0 + i * 4 + news.length) cur.toList)).toArray.toList.drop ((rs.length - 1) * 4 + 4)).toArray := ⟨_, rfl⟩
  rw [← hW2] at hcl
  have hone : rs.length - (rs.length - 1) = 1 := by omega
  have hn1 : rs.length - 1 ≤ rs.length := by omega
  have hc1 : ¬ c = rs.length - 1 := by omega
  have HEND := Lib.hid (show Deleted w B b c i rs (.returned (.slice (some ⟨b, 0, none⟩) (rs.length - 1) c)) W2 by
    have hxl : (List.take (0 + i * 4) cur.toList).length = i * 4 := by rw [List.length_take, Array.length_toList]; omega
    refine ⟨rfl, ⟨_, by rw [hW2]; exact setRow_heap W1 b _ _ 122 _ x1, ?_, ?_⟩, ?_, hB⟩
    · have hz4 : zblock.length = 4 := rfl
      simp only [List.size_toArray, List.length_append, List.length_take, List.length_drop, Array.length_toList, hz4]
      omega
    · have htl : (List.take ((rs.length - 1) * 4) (List.take (0 + i * 4) cur.toList ++ (news ++ List.drop (0 + i * 4 + news.length) cur.toList))) = rcells (rs.eraseIdx i) := by
        rw [← List.append_assoc, List.take_left' (by rw [List.length_append, hxl, hnl]; omega), hnews, List.eraseIdx_eq_take_drop_succ, ← hj, rcells_app, ← rcells_take, ← ht, List.take_take, Nat.zero_add, Nat.min_eq_left (by omega)]
      simp only [List.append_assoc] at htl ⊢
      rw [htl, List.take_left' (by rw [rcells_len, List.length_eraseIdx, if_pos hi])]
    · rw [hW2]
      have b0 : Beside w W1 (fun k => k = b) := ⟨b1.os, b1.tape, b1.output, b1.size, b1.block⟩
      exact b0.row b _ rfl)
  clear hW2
  have hic : i ≤ c := by omega
  have hjc : j ≤ c := by omega
  have hij : ¬ i = j := by omega
  have hjn : j ≤ rs.length := by omega
  have hsum : i + (rs.length - j) = rs.length - 1 := by omega
  generalize hL : Deleted w B b c i rs = L
  have HL := Lib.hid hL
  have HW1 := Lib.hid hW1
  clear hL hW1 x1 b1 hx ht hnews hnl hcs hj
  go_enter Tryd.func80, Tryd.ntmps80
  go_wp2_with fail
  go_region_law (refine step_append_room rfl (.tmp 22) (.tmp 25) 93 rfl 122 i0 4 Tryd.underlying93 hi0 hz1 b 0 i c (by simp [Act.eval, Act.put]) A (rs.length - j) (c - j) news (by simp [Act.eval, Act.put]) s1.out hsrc.out s2.out (by omega) s3.out ?_; rw [← HW1.out])
  clear hsrc s1 s2 s3 hA
  go_wp2
  rw [← HL.out]
  exact HEND.out
end Go.Proofs.YtfkhfjefddgkoaaDoor

namespace Go.Proofs.YtfkhfjefddgkoaaDoor
open Go.RowKit

theorem mem_erase {rs : List Raw} {i : Nat} {r : Raw} (h : r ∈ rs.eraseIdx i) : r ∈ rs := List.mem_of_mem_eraseIdx h
theorem erase_at {rs : List Raw} {i j : Nat} (hj : j < (rs.eraseIdx i).length) : ∃ j', ∃ hj' : j' < rs.length, (rs.eraseIdx i)[j] = rs[j'] ∧ j' = (if j < i then j else j + 1) := by
  rw [List.length_eraseIdx] at hj
  by_cases h : j < i
  · refine ⟨j, by split at hj <;> omega, ?_, by rw [if_pos h]⟩
    rw [List.getElem_eraseIdx, dif_pos h]
  · refine ⟨j + 1, by split at hj <;> omega, ?_, by rw [if_neg h]⟩
    rw [List.getElem_eraseIdx, dif_neg h]
theorem Sp.erase {w w' : World} {B g b c i : Nat} {rs : List Raw} (h : Sp w B g (some ⟨b, 0, none⟩) c rs) (hi : i < rs.length) (hbox : Bx w' g #[.slice (some ⟨b, 0, none⟩) (rs.length - 1) c] 97) (hnc : rs.length ≤ c) (hcm : c ≤ maxLen)
    (hrow : ∃ cur' : Array Value, Bx w' b cur' 122 ∧ cur'.size = c * 4 ∧ cur'.toList.take ((rs.length - 1) * 4) = rcells (rs.eraseIdx i)) (hb : Beside w w' (fun k => k = b ∨ k = g)) : Sp w' B g (some ⟨b, 0, none⟩) c (rs.eraseIdx i) := by
  have hlen : (rs.eraseIdx i).length = rs.length - 1 := by rw [List.length_eraseIdx, if_pos hi]
  obtain ⟨cur', hx, hcs, ht⟩ := hrow
  refine ⟨h.hg, by rw [hlen]; exact hbox, ?_, ?_, fun r hr => h.short r (mem_erase hr), h.ne, fun r hr => h.apart r (mem_erase hr), h.pair.sublist (List.eraseIdx_sublist _ _), ?_⟩
  · rw [hlen]
    exact ⟨by rw [rcells_len, hlen], .inr ⟨b, c, cur', rfl, (h.lt (k := b) (.inr (.inl rfl))).1, hx, by omega, hcm, hcs, ht⟩⟩
  · intro r hr
    refine own_beside (h.bytes r (mem_erase hr)) hb fun q hq e => ?_
    rw [row_own] at hq
    obtain ⟨p1, p2⟩ := h.apart r (mem_erase hr) q hq
    rcases e with e | e
    · exact p2 (by rw [e]; rfl)
    · exact p1 e
  · refine ⟨fun r hr => h.ord.fit r (mem_erase hr), fun j k hj hk hjk => ?_⟩
    obtain ⟨j', hj', e1, e1'⟩ := erase_at hj
    obtain ⟨k', hk', e2, e2'⟩ := erase_at hk
    rw [e1, e2]
    refine h.ord.next j' k' hj' hk' ?_
    rw [e1', e2']
    split <;> split <;> omega
theorem pos_none {rs : List Raw} (ho : Ord rs) {a : Int} {i : Nat} (hp : Pos rs a i false) (k : Nat) (hk : k < rs.length) : rs[k].b.at_ ≠ a := fun e => by
  by_cases h1 : k < i
  · have := hp.lo k hk h1; omega
  · have h2 := hp.hi k hk (by omega)
    by_cases h3 : k = i
    · subst h3
      have := hp.hit.2 ⟨hk, e⟩
      cases this
    · have hi2 : i < rs.length := by omega
      have h4 := hp.hi i hi2 (Nat.le_refl _)
      have h5 := ho.asc i k hi2 hk (by omega)
      omega
/-- Behind an Unmap. -/
def Unmapped (w : World) (B g : Nat) (A : Option Addr) (c : Nat) (rs : List Raw) (a : Int) (e : Ending) (w' : World) : Prop :=
  ((∀ (k : Nat) (hk : k < rs.length), rs[k].b.at_ ≠ a) ∧ e = .returned (.int .i64 50) ∧ Below w.heap.size w w') ∨
  (∃ (k : Nat) (hk : k < rs.length), rs[k].b.at_ = a ∧ e = .returned (.int .i64 0) ∧ Sp w' B g A c (rs.eraseIdx k) ∧ Beside w w' (Foot g A rs))
theorem unmap_in {w w1 w2 : World} {B g b o k : Nat} {c : Nat} {rs : List Raw} {a : Int} {v : Value} (h : Sp w B g (some ⟨b, o, none⟩) c rs) (hb : Below w.heap.size w w1) (hk : k < rs.length) (ha : rs[k].b.at_ = a) (hd : Deleted w1 B b c k rs (.returned v) w2) :
    v = .slice (some ⟨b, o, none⟩) (rs.length - 1) c ∧ w2.frozen? ⟨g, 0, none⟩ = false ∧ (∃ u, w2.cell? ⟨g, 0, none⟩ = some u) ∧ Unmapped w B g (some ⟨b, o, none⟩) c rs a (.returned (.int .i64 0)) (w2.setCell ⟨g, 0, none⟩ (.slice (some ⟨b, o, none⟩) (rs.length - 1) c)) := by
  have h1 := h.beside (Beside.of_below hb (fun _ => False)) fun _ _ e => e
  obtain ⟨rfl, hbB, hnc, hcm, cur, hx, hcs, ht⟩ := h1.cur
  obtain ⟨hv, ⟨cur', hx', hcs', ht'⟩, hbe, _⟩ := hd
  have hgb : g ≠ b := fun e => h.ne (by rw [e]; rfl)
  have hbox := h1.box.beside hbe hgb
  have hbes : Beside w1 (w2.setCell ⟨g, 0, none⟩ (.slice (some ⟨b, 0, none⟩) (rs.length - 1) c)) (fun k => k = b ∨ k = g) := (hbe.weak fun k _ e => .inl e).set _ _ (.inr rfl)
  refine ⟨by injection hv, hbox.f _, ⟨_, hbox.c 0⟩, .inr ⟨k, hk, ha, rfl, h1.erase hk ?_ hnc hcm ⟨cur', hx'.other (fun e => hgb e.symm) _, hcs', ht'⟩ hbes, ?_⟩⟩
  · show (World.setCell _ _ _).heap[g]? = _
    rw [setCell_eq_setRow w2 g 0 _ 97 _ _ hbox]
    exact setRow_heap w2 g _ _ 97 _ hbox
  · refine (Beside.of_below hb _).then hbes fun q _ e => ?_
    rcases e with rfl | rfl
    · exact .inr (.inl rfl)
    · exact .inl rfl
set_option maxRecDepth 100000 in
set_option maxHeartbeats 2000000 in
theorem Unmap_any (B g : Nat) (A : Option Addr) (c : Nat) (rs : List Raw) (a : Int) (w : World) (h : Sp w B g A c rs) :
    Calls Tryd.prog 56 #[.pointer (some ⟨g, 0, none⟩), .int .i64 a] w (Unmapped w B g A c rs a) := by
  have HS := Lib.hid h
  have hc : w.cell? ⟨g, 0, none⟩ = some (.slice A rs.length c) := h.box.c 0
  have HPO := Lib.hid (position_any A rs.length c g rs a w hc h.bls h.ord.asc (by have := ord_few h.ord; omega))
  clear h
  have HPI := Lib.hid (fun (w1 w2 : World) (b o k : Nat) (v : Value) (hA : A = some ⟨b, o, none⟩) hb (hk : k < rs.length) (ha : rs[k].b.at_ = a) hd => unmap_in (w1 := w1) (w2 := w2) (v := v) (hA ▸ HS.out) hb hk ha hd)
  have HN := Lib.hid (show ∀ w', Below w.heap.size w w' → (∀ (k : Nat) (hk : k < rs.length), rs[k].b.at_ ≠ a) → Unmapped w B g A c rs a (.returned (.int .i64 50)) w' from fun w' hb hn => .inl ⟨hn, rfl, hb⟩)
  generalize hL : Unmapped w B g A c rs a = L at *
  have HL := Lib.hid hL
  clear hL
  go_enter Tryd.func56, Tryd.ntmps56
  go_wp2_with fail
  refine HPO.out.mono ?_
  rintro e w1 ⟨i, f, rfl, hb, hp⟩
  have HB := Lib.hid hb
  have hc1 := cell_below hb hc
  clear hb HPO hc
  cases f with
  | false =>
    have HNO := Lib.hid (show ∀ (k : Nat) (hk : k < rs.length), rs[k].b.at_ ≠ a from pos_none HS.out.ord hp)
    clear hp
    go_wp2_with fail
    exact HN.out _ HB.out HNO.out
  | true =>
    obtain ⟨hi, hat⟩ := hp.hit.1 rfl
    obtain ⟨ad, rfl⟩ : ∃ ad, A = some ad := by
      cases A with
      | none => have := (HS.out.bls.nil rfl).1; omega
      | some ad => exact ⟨ad, rfl⟩
    obtain ⟨b, o, rfl⟩ := HS.out.bls.plain ad rfl
    obtain ⟨rfl, hbB, hnc, hcm, cur, hx, hcs, ht⟩ := (HS.out.beside (Beside.of_below HB.out (fun _ => False)) fun _ _ e => e).cur
    have hfew := ord_few HS.out.ord
    have HD := Lib.hid (Delete_any B b c i (i + 1) cur rs w1 hbB hx hnc hcm hcs ht rfl hi)
    rw [show ((i + 1 : Nat) : Int) = (i : Int) + 1 from by omega] at HD
    have HAT := Lib.hid hat
    clear hp hat HN hx hcs ht
    go_wp2_with fail
    refine HD.out.mono ?_
    intro e w2 hd
    obtain ⟨v, rfl⟩ : ∃ v, e = .returned v := ⟨_, hd.1⟩
    obtain ⟨rfl, hf, ⟨u, hu⟩, hG⟩ := HPI.out w1 w2 b 0 i v rfl HB.out hi HAT.out hd
    have HG := Lib.hid hG
    clear hG hd HPI HD
    go_wp2_with fail
    rw [← HL.out]
    exact HG.out
end Go.Proofs.YtfkhfjefddgkoaaDoor

namespace Go.Proofs.YtfkhfjefddgkoaaDoor
open Go.RowKit

theorem plainA {w : World} {B n c sz : Nat} {e : TypeId} {A : Option Addr} {xs : List Value} (h : w.ownsRow B e sz (.slice A n c) n xs) : A = none ∨ ∃ b, A = some ⟨b, 0, none⟩ := by
  rcases h.2 with ⟨hv, _⟩ | ⟨g, cap, cur, hv, _⟩
  · injection hv with h1
    exact .inl h1
  · injection hv with h1
    exact .inr ⟨g, h1⟩
/-- Behind an Insert of one block. -/
def Inserted (w : World) (B : Nat) (A : Option Addr) (rs : List Raw) (i : Nat) (r : Raw) (e : Ending) (w' : World) : Prop :=
  ∃ A' c', e = .returned (.slice A' (rs.length + 1) c') ∧ w'.ownsRow B 122 4 (.slice A' (rs.length + 1) c') (rs.length + 1) (rcells (rs.insertIdx i r)) ∧ Beside w w' (fun k => some k = row A) ∧ (row A' = row A ∨ ∃ q, w.heap.size ≤ q ∧ row A' = some q)
theorem insert_end (rs : List Raw) (r : Raw) : rs.insertIdx rs.length r = rs ++ [r] := by
  induction rs with
  | nil => rfl
  | cons a rs ih => rw [List.length_cons, List.insertIdx_succ_cons, ih]; rfl
theorem rawC_at {w : World} {vb : Nat} {t : TypeId} {r : Raw} (h : Bx w vb (rawC r).toArray t) : ∀ j u, (rcells [r])[j]? = some u → w.cell? ((⟨vb, 0, none⟩ : Addr).add j) = some u := by
  intro j u hu
  rw [plainAdd, Nat.zero_add, h.c j]
  simpa [rcells] using hu
theorem row_form {w : World} {B n : Nat} {v : Value} {e : TypeId} {xs : List Value} (h : w.ownsRow B e 4 v n xs) : ∃ A c, v = .slice A n c := by
  rcases h.2 with ⟨hv, h0⟩ | ⟨g, cap, cur, hv, _⟩
  · exact ⟨_, _, by rw [hv, h0]⟩
  · exact ⟨_, _, hv⟩
/-- One block behind the others. -/
theorem wpList_app1 {w : World} {ops : Array Oper} {rest : List Oper} {o : Oper} {a : Act} {Q : Exit → Act → World → Prop} (hgd : o.guard = none) (s x : Operand)
    (ho : o.op = .call { callee := .builtin .append, args := #[s, x], argTypes := #[93, 93] })
    (B : Nat) (A : Option Addr) (n c vb : Nat) (rs : List Raw) (r : Raw) (hs : a.eval s = .slice A n c) (hx : a.eval x = .slice (some ⟨vb, 0, none⟩) 1 1) (hown : w.ownsRow B 122 4 (.slice A n c) n (rcells rs)) (hB : B ≤ w.heap.size) (hfew : n ≤ 67108864)
    (hv : ∀ j u, (rcells [r])[j]? = some u → w.cell? ((⟨vb, 0, none⟩ : Addr).add j) = some u)
    (h : ∀ A' c' w', w'.ownsRow B 122 4 (.slice A' (n + 1) c') (n + 1) (rcells (rs ++ [r])) → Beside w w' (fun k => some k = row A) → (row A' = row A ∨ ∃ q, w.heap.size ≤ q ∧ row A' = some q) → wpList Tryd.prog ops Q rest (a.put o.dst (.slice A' (n + 1) c')) w') : wpList Tryd.prog ops Q (o :: rest) a w := by
  obtain ⟨i0, z, hi0, hz0, hzc, hz1, hz2⟩ := block_parts
  have hzs : z.cells.size = 4 := by
    have : z.cells.toList.length = 4 := by rw [hzc]; rfl
    simpa using this
  refine wpList_append_own_at w hgd s x 93 ho B 122 i0 z 4 48 Tryd.underlying93 hi0 hz0 hz1 hz2 hzs (by omega) (.slice A n c) n (rcells rs) hs hown ⟨vb, 0, none⟩ 1 1 (rcells [r]) hx (by rw [rcells_len]; rfl) hv (rcells_one _) (by simp only [maxLen]; omega) (by omega) hB fun v' w' h1 h2 _ h4 => ?_
  obtain ⟨A', c', rfl⟩ := row_form h1
  rw [row_own] at h2
  rw [row_own, row_own] at h4
  rw [← rcells_app] at h1
  exact h A' c' w' h1 (Beside.grown h2 fun k hk => hk.symm) (h4.imp id fun h => ⟨_, Nat.le_refl _, h⟩)
set_option maxRecDepth 100000 in
set_option maxHeartbeats 2000000 in
theorem Insert_end (B n : Nat) (A : Option Addr) (c vb : Nat) (vt : TypeId) (rs : List Raw) (r : Raw) (w : World) (hl : rs.length = n) (hown : w.ownsRow B 122 4 (.slice A n c) n (rcells rs)) (hB : B ≤ w.heap.size) (hfew : n ≤ 67108864) (hv : Bx w vb (rawC r).toArray vt) :
    Calls Tryd.prog 74 #[.slice A n c, .int .i64 n, .slice (some ⟨vb, 0, none⟩) 1 1] w (Inserted w B A rs n r) := by
  have HO := Lib.hid hown
  have HS := Lib.hid (rawC_at hv)
  have hcap : n ≤ c ∧ (A = none → c = 0 ∧ n = 0) := by
    rcases hown.2 with ⟨hv, h0⟩ | ⟨g, cap, cur, hv, _, _, hle, _⟩
    · injection hv with h1 _ h3
      exact ⟨by omega, fun _ => ⟨h3, h0⟩⟩
    · injection hv with h1 _ h3
      subst h1 h3
      exact ⟨hle, fun h => by cases h⟩
  obtain ⟨hnc, hnil⟩ := hcap
  have HNIL := Lib.hid hnil
  have HE := Lib.hid (show ∀ A' c' w', w'.ownsRow B 122 4 (.slice A' (n + 1) c') (n + 1) (rcells (rs ++ [r])) → Beside w w' (fun k => some k = row A) → (row A' = row A ∨ ∃ q, w.heap.size ≤ q ∧ row A' = some q) → Inserted w B A rs n r (.returned (.slice A' (n + 1) c')) w' from fun A' c' w' h1 h2 h3 => by
    subst hl
    exact ⟨A', c', rfl, by rw [insert_end]; exact h1, h2, h3⟩)
  have HP := plainA hown
  generalize hX : Inserted w B A rs n r = L at *
  clear hX hown hv hl hnil
  rcases HP with rfl | ⟨b, rfl⟩
  · obtain ⟨rfl, rfl⟩ := HNIL.out rfl
    go_enter Tryd.func74, Tryd.ntmps74
    go_wp2_with (refine wpList_app1 rfl (.tmp 23) (.tmp 24) rfl B none 0 0 vb rs r rfl rfl HO.out hB hfew HS.out ?_; intro A' c' w' h1 h2 h3; have E := Lib.hid (HE.out A' c' w' h1 h2 h3); clear h1 h2 h3)
    first | go_ret | skip
    exact E.out
  · go_enter Tryd.func74, Tryd.ntmps74
    go_wp2_with (refine wpList_app1 rfl (.tmp 23) (.tmp 24) rfl B (some ⟨b, 0, none⟩) n c vb rs r rfl rfl HO.out hB hfew HS.out ?_; intro A' c' w' h1 h2 h3; have E := Lib.hid (HE.out A' c' w' h1 h2 h3); clear h1 h2 h3)
    all_goals
      first | go_ret | skip
      exact E.out
end Go.Proofs.YtfkhfjefddgkoaaDoor
