/-
  The document's model: a region gone.
-/
import Derived.Test.YtfkhfjefddgkoaaDoorZSDj
namespace Go.Proofs.YtfkhfjefddgkoaaDoor
open Go.RowKit

theorem Tryd.info_part : (Tryd.prog.info? 101).map (fun i => (i.zero.map (fun z => z.cells.toList), i.size, i.bytes)) = some (some zblock, 4, 48) := by kernel_rfl
theorem part_parts : ∃ i z, Tryd.prog.info? 101 = some i ∧ i.zero = some z ∧ z.cells.size = 4 ∧ i.size = 4 ∧ i.bytes = 48 := by
  obtain ⟨i, hi, hzz⟩ := Option.map_eq_some_iff.1 Tryd.info_part
  simp only [Prod.mk.injEq] at hzz
  obtain ⟨z, hz, hz2⟩ := Option.map_eq_some_iff.1 hzz.1
  exact ⟨i, z, hi, hz, by have := congrArg List.length hz2; simpa [zblock] using this, hzz.2.1, hzz.2.2⟩
/-- The model's space behind its list was made anew. -/
theorem Dp.anew {w w' : World} {B g c c' : Nat} {A A' : Option Addr} {rs rs' : List Raw} (h : Dp w B g A c rs) (hsub : rs'.Sublist rs) (hbox : Bx w' g #[.slice A' rs'.length c'] 64) (hown : w'.ownsRow w.heap.size 101 4 (.slice A' rs'.length c') rs'.length (rcells rs')) (hb : Beside w w' (fun q => q = g)) :
    Dp w' B g A' c' rs' := by
  have hgt : ∀ q, row A' = some q → w.heap.size ≤ q := fun q hq => (hown.lt q (by rw [row_own]; exact hq)).1
  have hmem : ∀ r ∈ rs', r ∈ rs := fun r hr => hsub.subset hr
  refine ⟨h.hg, hbox, own_more hown (by have := h.box.lt; have := h.hg; omega), fun r hr => ?_, fun r hr => h.full r (hmem r hr), fun e => by have := hgt g e; have := h.box.lt; omega, fun r hr q hq => ⟨(h.apart r (hmem r hr) q hq).1, fun e => ?_⟩, h.pair.sublist hsub⟩
  · refine own_beside (h.bytes r (hmem r hr)) hb fun q hq e => ?_
    rw [row_own] at hq
    exact (h.apart r (hmem r hr) q hq).1 e
  · have h1 := hgt q e.symm
    have h2 := (h.lt (k := q) (.inr (.inr ⟨r, hmem r hr, hq.symm⟩))).2
    omega
theorem del_dis {rs : List Raw} (hd : Dis rs) (hf : ∀ r ∈ rs, 64 ≤ r.b.size) {k : Nat} (hk : k < rs.length) : segs (rs.eraseIdx k) = delS (segs rs) rs[k].b.at_ := by
  have hu : ∀ (j : Nat) (hj : j < rs.length), rs[j].b.at_ = rs[k].b.at_ → j = k := fun j hj e => by
    have h1 := hf _ (List.getElem_mem hj)
    have h2 := hf _ (List.getElem_mem hk)
    exact dis_one hd (a := rs[k].b.at_) hj hk (by omega) (by omega)
  have key : ∀ (l : List Seg) (k : Nat) (hk : k < l.length), (∀ (j : Nat) (hj : j < l.length), l[j].at_ = l[k].at_ → j = k) → l.eraseIdx k = l.filter fun s => decide (s.at_ ≠ l[k].at_) := by
    intro l
    induction l with
    | nil => intro k hk; simp at hk
    | cons s l ih =>
      intro k hk hu
      cases k with
      | zero =>
        rw [List.eraseIdx_cons_zero, List.getElem_cons_zero, List.filter_cons_of_neg (by simp)]
        refine (List.filter_eq_self.2 fun x hx => ?_).symm
        obtain ⟨j, hj, rfl⟩ := List.getElem_of_mem hx
        simp only [ne_eq, decide_eq_true_eq]
        intro e
        have := hu (j + 1) (by simpa using hj) (by simpa using e)
        omega
      | succ k =>
        have h0 : s.at_ ≠ (s :: l)[k + 1].at_ := fun e => by
          have := hu 0 (by simp) (by simpa using e)
          omega
        rw [List.eraseIdx_cons_succ, List.filter_cons_of_pos (by simpa using h0)]
        congr 1
        exact ih k (by simpa using hk) fun j hj e => by
          have := hu (j + 1) (by simpa using hj) (by simpa using e)
          omega
  have h1 : segs (rs.eraseIdx k) = (segs rs).eraseIdx k := map_erase _ rs k
  have hk' : k < (segs rs).length := by rw [segs_len]; exact hk
  rw [h1, key (segs rs) k hk' fun j hj e => ?_]
  · unfold delS
    rw [segs_at rs k hk]
    rfl
  · have hj' : j < rs.length := by rw [segs_len] at hj; exact hj
    rw [segs_at rs j hj', segs_at rs k hk] at e
    exact hu j hj' e
def UnmD (w : World) (B g : Nat) (A : Option Addr) (rs : List Raw) (a : Int) (e : Ending) (w' : World) : Prop :=
  e = .returned (.int .i64 (unmapS (segs rs) a).1) ∧ Moved w w' B g A rs (unmapS (segs rs) a).2
set_option maxRecDepth 100000 in
set_option maxHeartbeats 2000000 in
theorem rUnmap_any (B g : Nat) (A : Option Addr) (c : Nat) (rs : List Raw) (a : Int) (hd : Dis rs) (w : World) (h : Seen w g A c rs) (hdp : Dp w B g A c rs) :
    Calls Tryd.prog 62 #[.pointer (some ⟨g, 0, none⟩), .int .i64 a] w (UnmD w B g A rs a) := by
  obtain ⟨i0, z, hi0, hz0, hzs, hz1, hz2⟩ := part_parts
  have H := Lib.hid h
  have hfew := h.few
  have HBG := Lib.hid (rBegins_any g A c rs a w h)
  have HN : Hid (∀ w', Below w.heap.size w w' → (∀ (k : Nat) (hk : k < rs.length), rs[k].b.at_ ≠ a) → UnmD w B g A rs a (.returned (.int .i64 50)) w') := Lib.hid fun w' hb hno => by
    unfold UnmD unmapS
    rw [if_neg fun h => by obtain ⟨k, hk, e⟩ := (has_segs rs a).1 h; exact hno k hk e]
    exact ⟨rfl, Moved.stay hdp hb⟩
  have HY : Hid (∀ (w1 : World) w' (k : Nat) (hk : k < rs.length) A' c', Below w.heap.size w w1 → rs[k].b.at_ = a → Bx w' g #[.slice A' (rs.length - 1) c'] 64 → w'.ownsRow w1.heap.size 101 4 (.slice A' (rs.length - 1) c') (rs.length - 1) (rcells (rs.eraseIdx k)) → Beside w1 w' (fun q => q = g) → UnmD w B g A rs a (.returned (.int .i64 0)) w') := Lib.hid fun w1 w' k hk A' c' hb ha hbox hown hbe => by
    unfold UnmD unmapS
    rw [if_pos ((has_segs rs a).2 ⟨k, hk, ha⟩)]
    have hl : (rs.eraseIdx k).length = rs.length - 1 := by rw [List.length_eraseIdx, if_pos hk]
    have hD1 := hdp.beside (Beside.of_below hb (fun _ => False)) fun _ _ e => e
    have hsub := List.eraseIdx_sublist rs k
    have hd' := hD1.anew (c' := c') (A' := A') hsub (by rw [hl]; exact hbox) (by rw [hl]; exact hown) hbe
    refine ⟨rfl, A', c', _, hd', by rw [del_dis hd (fun r hr => (H.out.fit r hr).2.2.1) hk, ha], (Beside.of_below hb _).then hbe fun q _ e => .inl e, fun q hq => ?_⟩
    rcases hq with rfl | hq | ⟨r, hr, hq⟩
    · exact .inl (.inl rfl)
    · exact .inr (Nat.le_trans hb.size (hown.lt q (by rw [row_own]; exact hq.symm)).1)
    · exact .inl (.inr (.inr ⟨r, hsub.subset hr, hq⟩))
  have HDP := Lib.hid hdp
  generalize UnmD w B g A rs a = L at *
  clear h hdp hd
  go_enter Tryd.func62, Tryd.ntmps62
  go_wp2_with fail
  refine HBG.out.mono ?_
  rintro e w1 ⟨hb, ⟨hno, rfl⟩ | ⟨k, hk, ha, rfl⟩⟩
  · have HE := Lib.hid (HN.out w1 hb hno)
    clear hb hno HN HY HBG
    go_wp2_with fail
    first | go_ret | skip
    exact HE.out
  · have hD1 := HDP.out.beside (Beside.of_below hb (fun _ => False)) fun _ _ e => e
    obtain ⟨b, rfl⟩ : ∃ b, A = some ⟨b, 0, none⟩ := by
      rcases plainA hD1.own with e | ⟨b, e⟩
      · have := (hD1.bls.nil e).1; omega
      · exact ⟨b, e⟩
    have HYY := Lib.hid (fun w' A' c' => HY.out w1 w' k hk A' c' hb ha)
    have hc := cell_below hb H.out.box
    have hcap := H.out.bls.cap
    have HCL := Lib.hid (hD1.own.cells (g := b) rfl)
    have HBX := Lib.hid hD1.box
    obtain ⟨A2, hA2, hsrc⟩ : ∃ A2 : Addr, (if c = k + 1 then (some (⟨b, 0, none⟩ : Addr)) else some ⟨b, (k + 1) * 4, none⟩) = some A2 ∧ Hid (∀ w', Below w1.heap.size w1 w' → ∀ t u, (rcells (rs.drop (k + 1)))[t]? = some u → w'.cell? (A2.add t) = some u) := by
      by_cases h : c = k + 1
      · refine ⟨⟨b, 0, none⟩, by simp [h], fun w' _ t u hu => ?_⟩
        have h0 : (rcells (rs.drop (k + 1))).length = 0 := by rw [rcells_len, List.length_drop]; omega
        rw [List.length_eq_zero_iff.1 h0] at hu
        simp at hu
      · refine ⟨⟨b, (k + 1) * 4, none⟩, by simp [h], fun w' hb' t u hu => ?_⟩
        rw [← rcells_drop, List.getElem?_drop] at hu
        have := HCL.out _ u hu
        rw [plainAdd, Nat.zero_add] at this
        rw [plainAdd]
        exact cell_below hb' this
    have HS1 := Lib.hid (show ∀ t u, (rcells (rs.take k))[t]? = some u → w1.cell? ((⟨b, 0, none⟩ : Addr).add t) = some u from fun t u hu => by
      refine HCL.out t u ?_
      have htl := (List.getElem?_eq_some_iff.1 hu).1
      rw [rcells_len, List.length_take] at htl
      rw [← rcells_take, List.getElem?_take_of_lt (by omega)] at hu
      exact hu)
    have HL1 := Lib.hid (show (rcells (rs.take k)).length = k * 4 by rw [rcells_len, List.length_take]; omega)
    have HL2 := Lib.hid (show (rcells (rs.drop (k + 1))).length = (rs.length - (k + 1)) * 4 by rw [rcells_len, List.length_drop])
    have HO := Lib.hid (show w1.ownsRow w1.heap.size 101 4 (.slice none 0 0) 0 [] from ⟨rfl, .inl ⟨rfl, rfl⟩⟩)
    have HCAT := Lib.hid (show rcells (rs.take k) ++ rcells (rs.drop (k + 1)) = rcells (rs.eraseIdx k) by rw [List.eraseIdx_eq_take_drop_succ, rcells_app])
    have HLN := Lib.hid (show k + (rs.length - (k + 1)) = rs.length - 1 by omega)
    have hk0 : (0 : Int) ≤ (k : Int) := by omega
    have hk1 : (k : Int) ≤ (c : Int) := by omega
    have hk2 : (0 : Int) ≤ (k : Int) + 1 := by omega
    have hk3 : (k : Int) + 1 ≤ (rs.length : Int) := by omega
    have hk4 : ((k : Int) + 1).toNat = k + 1 := by omega
    have hkm : k ≤ 67108864 := by omega
    clear hb ha HN HY HBG hD1 HCL
    go_wp2_with (first
      | (at_builtin; refine wpList_append_own_at _ rfl (.tmp 12) (.tmp 18) 62 rfl w1.heap.size 101 i0 z 4 48 Tryd.underlying62 hi0 hz0 hz1 hz2 hzs (by omega) (.slice none 0 0) 0 [] rfl HO.out ⟨b, 0, none⟩ k c (rcells (rs.take k)) rfl HL1.out HS1.out (rcells_one _) (by simp only [maxLen]; omega) (by omega) (Nat.le_refl _) ?_; intro v' w2 hown hg _ hat; rw [Nat.zero_add, List.nil_append] at hown; obtain ⟨A', c', rfl⟩ := row_form hown; have HO2 := Lib.hid hown; have HB2 := Lib.hid ((Below.refl w1.heap.size w1).grown hg (Nat.le_refl _) (fun q hq => by cases hq)); have hc2 := cell_below HB2.out hc; have HS2 := Lib.hid (hsrc.out _ HB2.out); have hsz2 := HB2.out.size; clear hown hg hat)
      | (at_builtin; refine wpList_append_own_at _ rfl (.tmp 20) (.tmp 27) 62 rfl w1.heap.size 101 i0 z 4 48 Tryd.underlying62 hi0 hz0 hz1 hz2 hzs (by omega) (.slice A' k c') k (rcells (rs.take k)) rfl HO2.out A2 (rs.length - (k + 1)) (c - (k + 1)) (rcells (rs.drop (k + 1))) rfl HL2.out HS2.out (rcells_one _) (by simp only [maxLen]; omega) (by omega) hsz2 ?_; intro v'' w3 hown hg _ hat; rw [HCAT.out, HLN.out] at hown; obtain ⟨A3, c3, rfl⟩ := row_form hown; have HO3 := Lib.hid hown; have HB3 := Lib.hid (HB2.out.grown hg hsz2 (fun q hq => (HO2.out.lt q hq).1)); have hc3 := cell_below HB3.out hc; have hf3 := (HBX.out.below HB3.out).f 0; clear hown hg hat))
    have hbx := HBX.out.below HB3.out
    have hbox : Bx (w3.setCell ⟨g, 0, none⟩ (.slice A3 (rs.length - 1) c3)) g #[.slice A3 (rs.length - 1) c3] 64 := by
      show (World.setCell _ _ _).heap[g]? = _
      rw [setCell_eq_setRow w3 g 0 _ 64 _ _ hbx]
      exact setRow_heap w3 g _ _ 64 _ hbx
    exact HYY.out _ A3 c3 hbox (own_beside HO3.out ((Beside.refl w3 (fun q => q = g)).set _ _ rfl) fun q hq e => by
      have := (HO3.out.lt q hq).1
      have := HBX.out.lt
      omega) ((Beside.of_below HB3.out _).set _ _ rfl)
end Go.Proofs.YtfkhfjefddgkoaaDoor
