/-
  A table copied.
-/
import Derived.Test.YtlkhmpnahbbpeaaN
import Derived.Test.YtlkhmpnahbbpeaaFF
namespace Go.Proofs.Ytlkhmpnahbbpeaa
open Go.RowKit

/-- A copy that is made row by row: in the box g3, behind the world w3. -/
structure Cp (w w3 : World) (g3 : Nat) (f : Nat → List Int) (Af : Option Addr) (wl cf : Nat) (sh : Int) (wr : World) (k : Nat) (A' : Option Addr) (c' : Nat) (s : Nat → Option Addr × Nat) : Prop where
  bel : Below w.heap.size w wr
  kp : ∀ q, q < w3.heap.size → q ≠ g3 → wr.heap[q]? = w3.heap[q]?
  sz : w3.heap.size ≤ wr.heap.size
  box : Tx wr g3 (tabA A' k c' Af wl cf sh)
  out : wr.ownsRow w3.heap.size 58 1 (.slice A' k c') k (slvs k f s)
  own : ∀ i, i < k → wr.ownsRow w3.heap.size 3 1 (sl (s i) (f i)) (f i).length (il (f i))
section
variable {w w3 wr w' w6 : World} {g3 wl cf k c' : Nat} {f : Nat → List Int} {Af A' : Option Addr} {sh : Int} {s : Nat → Option Addr × Nat}
theorem Cp.grow (h : Cp w w3 g3 f Af wl cf sh wr k A' c' s) (hg3 : g3 < w3.heap.size) (hg : wr.grownBy w' none) : Cp w w3 g3 f Af wl cf sh w' k A' c' s :=
  ⟨h.bel.grown hg h.bel.size (fun q hq => by cases hq), fun q hq hn => (hg.block q (Nat.lt_of_lt_of_le hq h.sz) (by intro e; cases e)).trans (h.kp q hq hn), Nat.le_trans h.sz hg.size,
    (hg.block g3 (Nat.lt_of_lt_of_le hg3 h.sz) (by intro e; cases e)).trans h.box,
    h.out.kept hg (by cases hq : (Value.slice A' k c').ownBlock with
      | none => exact .inl rfl
      | some q => exact .inr fun e => by cases e),
    fun i hi => (h.own i hi).kept hg (by cases hq : (sl (s i) (f i)).ownBlock with
      | none => exact .inl rfl
      | some q => exact .inr fun e => by cases e)⟩
theorem Cp.push (h : Cp w w3 g3 f Af wl cf sh wr k A' c' s) (hg3 : g3 < w3.heap.size) (hw : w.heap.size ≤ g3) {A2 A3 : Option Addr} {c2 c3 : Nat} (hr : wr.ownsRow w3.heap.size 3 1 (.slice A2 (f k).length c2) (f k).length (il (f k)))
    (ho : w6.ownsRow w3.heap.size 58 1 (.slice A3 (k + 1) c3) (k + 1) (slvs k f s ++ [.slice A2 (f k).length c2])) (hg : wr.grownBy w6 (Value.slice A' k c').ownBlock) :
    Cp w w3 g3 f Af wl cf sh (w6.setCell ⟨g3, 0, none⟩ (.slice A3 (k + 1) c3)) (k + 1) A3 c3 (fun i => if i = k then (A2, c2) else s i) := by
  have hne : ∀ q, q < w3.heap.size → some q ≠ (Value.slice A' k c').ownBlock := fun q hq e => by
    have := (h.out.lt q e.symm).1
    omega
  have hsz : w3.heap.size ≤ w6.heap.size := Nat.le_trans h.sz hg.size
  have hbox : Tx w6 g3 (tabA A' k c' Af wl cf sh) := (hg.block g3 (Nat.lt_of_lt_of_le hg3 h.sz) (hne g3 hg3)).trans h.box
  have hel : slvs k f s ++ [.slice A2 (f k).length c2] = slvs (k + 1) f (fun i => if i = k then (A2, c2) else s i) := by
    unfold slvs
    rw [List.range_succ, List.map_append]
    congr 1
    · apply List.map_congr_left
      intro i hi
      have : i ≠ k := by have := List.mem_range.1 hi; omega
      show sl (s i) (f i) = sl (if i = k then (A2, c2) else s i) (f i)
      rw [if_neg this]
    · simp
  rw [hel] at ho
  refine ⟨?_, ?_, ?_, ?_, ?_, ?_⟩
  · exact (h.bel.grown hg h.bel.size (fun q hq => by have := (h.out.lt q hq).1; omega)).setCell (p := ⟨g3, 0, none⟩) hw _
  · intro q hq hn
    rw [Below.heap_setCell w6 ⟨g3, 0, none⟩ _ q hn, hg.block q (Nat.lt_of_lt_of_le hq h.sz) (hne q hq)]
    exact h.kp q hq hn
  · simp [World.setCell]
    exact hsz
  · exact heap_setCell_same w6 g3 0 _ _ _ hbox
  · exact own_cell ho hg3 0 _
  · intro i hi
    refine own_cell ?_ hg3 0 _
    by_cases hik : i = k
    · subst hik
      simp only [if_true]
      refine hr.kept hg ?_
      cases hq : (Value.slice A2 (f i).length c2).ownBlock with
      | none => exact .inl rfl
      | some q => exact .inr fun e => own_ne hr h.out (by decide) q hq e.symm
    · simp only [if_neg hik]
      have hki := h.own i (by omega)
      refine hki.kept hg ?_
      cases hq : (sl (s i) (f i)).ownBlock with
      | none => exact .inl rfl
      | some q => exact .inr fun e => own_ne hki h.out (by decide) q hq e.symm
end
theorem rws_of_own {w : World} {B n c : Nat} {A : Option Addr} {f : Nat → List Int} {s : Nat → Option Addr × Nat} (ho : w.ownsRow B 58 1 (.slice A n c) n (slvs n f s)) (hr : ∀ i, i < n → w.ownsRow B 3 1 (sl (s i) (f i)) (f i).length (il (f i))) : Rws w (fun k => k < w.heap.size) A n c f := by
  have h := Src.of_own ho
  exact ⟨h.nil, h.cap, fun ad hA hn => (h.blk ad hA hn).2.2, fun ad hA k hk => ⟨(s k).1, (s k).2, h.at_ ad hA k _ (slvs_get hk), (Src.of_own (hr k hk)).weak fun q hq => hq.2.2⟩⟩
theorem results_cell_one {fn : Func} {p : Tmp} {ty : TypeId} (h : fn.results = #[.cell p ty]) (tmps : Array Value) (P : Program) (w : World) :
    (results fn tmps).run P w = ((asAddr (tmps.getD p undef)).run P w).andThen fun a w₁ => (loadVar ty a).run P w₁ := by
  simp only [results, h]
  simp [Sem.run_bind, Result.andThen]
set_option maxRecDepth 100000 in
set_option maxHeartbeats 4000000 in
theorem copied_any (A : Option Addr) (n c : Nat) (Af : Option Addr) (cf : Nat) (f : Nat → List Int) (L : List UInt64) (sh : Int) (w : World)
    (ht : TabV w (fun k => k < w.heap.size) A n c Af cf f L) (hn : n * 24 ≤ 140737488351232) (hL : L.length * 8 ≤ 140737488351232) (hf : ∀ k, k < n → (f k).length * 8 ≤ 140737488351232) :
    Calls Try.prog 17 #[.agg (tabA A n c Af L.length cf sh)] w fun e w' => ∃ A' c' Af' cf', e = .returned (.agg (tabA A' n c' Af' L.length cf' sh)) ∧ TabV w' (fun k => k < w'.heap.size) A' n c' Af' cf' f L ∧ Below w.heap.size w w' := by
  obtain ⟨i0, hi, hz0, hz1, hz2⟩ : ∃ i0, Try.prog.info? 3 = some i0 ∧ i0.zero = some (.int .i64 0) ∧ i0.size = 1 ∧ i0.bytes = 8 := by
    have h := Try.info_int
    cases hq : Try.prog.info? 3 with
    | none => rw [hq] at h; cases h
    | some i =>
      rw [hq] at h
      simp only [Option.map_some, Option.some.injEq, Prod.mk.injEq] at h
      exact ⟨i, rfl, h⟩
  obtain ⟨hb1, hx1, hy1⟩ := tab_two w (tabA A n c Af L.length cf sh) (tabA none 0 0 none 0 0 0)
  have hs1 : ((w.alloc (.cells (tabA A n c Af L.length cf sh) 29)).alloc (.cells (tabA none 0 0 none 0 0 0) 29)).heap.size = w.heap.size + 2 := by simp
  have HT := Lib.hid ht
  have HFL := Lib.hid hf
  have hxc := ht.rows.cap
  clear ht hf
  go_enter Try.func17, Try.ntmps17
  go_upto_region 1 with (fail)
  change Code.wp _ _ _ _ ((w.alloc (.cells (tabA A n c Af L.length cf sh) 29)).alloc (.cells (tabA none 0 0 none 0 0 0) 29))
  generalize (w.alloc (.cells (tabA A n c Af L.length cf sh) 29)).alloc (.cells (tabA none 0 0 none 0 0 0) 29) = w1 at *
  have HAD := Lib.hid ((Siv.radd_any _ Af L.length cf sh L none 0 [] w1 (HT.out.lt hb1).words ⟨rfl, fun _ => ⟨rfl, rfl⟩, Nat.le_refl _, (by intro ad h; cases h), (by intro ad h; cases h)⟩ (by decide) (by omega) (.inl rfl)).mono fun e w' hh => show ∃ Af' cf', e = .returned (.agg #[.slice Af' L.length cf', .int .i64 sh]) ∧ w'.ownsRow w1.heap.size 65 1 (.slice Af' L.length cf') L.length (Siv.wds L) ∧ Below w1.heap.size w1 w' from by
    obtain ⟨A', c', h1, h2, h3⟩ := hh
    rw [Siv.setAll_nil] at h2
    exact ⟨A', c', h1, h2, h3⟩)
  have t1 := cell_of_row w1 w.heap.size 1 _ _ _ hx1
  have t2 := cell_of_row w1 w.heap.size 2 _ _ _ hx1
  simp only [List.getElem?_toArray, List.getElem?_cons_succ, List.getElem?_cons_zero] at t1 t2
  have HB1 := Lib.hid hb1
  have HX1 := Lib.hid hx1
  have HY1 := Lib.hid hy1
  clear hb1 hx1 hy1
  generalize hll : L.length = ll at *
  go_upto_region 3 with (go_at_call 36; refine (HAD.out).mono ?_; rintro e w2 ⟨Af', cf', rfl, ho2, hb2⟩)
  have hbx := tab_box w2 (tabA none 0 0 Af' ll cf' sh)
  have hzz : w.heap.size + 2 ≤ w2.heap.size := by have := hb2.size; omega
  have hs3 : (w2.alloc (.cells (tabA none 0 0 Af' ll cf' sh) 29)).heap.size = w2.heap.size + 1 := by simp
  have HB3 := Lib.hid ((HB1.out.trans (hb2.mono HB1.out.size)).trans (hbx.1.mono (HB1.out.trans (hb2.mono HB1.out.size)).size))
  have HX3 := Lib.hid ((HX1.out.below hb2).below hbx.1)
  have HY3 := Lib.hid ((HY1.out.below hb2).below hbx.1)
  have HZ3 := Lib.hid hbx.2
  have HW3 := Lib.hid ((Src.of_own ho2).keep fun k hk _ => hbx.1.block k hk.2.2)
  clear hbx ho2 hb2 HB1 HX1 HY1 HAD t1 t2
  change Code.wp _ _ _ _ (w2.alloc (.cells (tabA none 0 0 Af' ll cf' sh) 29))
  generalize w2.alloc (.cells (tabA none 0 0 Af' ll cf' sh) 29) = w3 at *
  generalize w2.heap.size = g3 at *
  have hg3 : g3 < w3.heap.size := by omega
  go_loopw [4] (fun t wr => ∃ (k : Nat) (A' : Option Addr) (c' : Nat) (s : Nat → Option Addr × Nat), k ≤ n ∧ t = .int .i64 k ∧ Cp w w3 g3 f Af' ll cf' sh wr k A' c' s) (fun t _ => n - (intOf t).toNat)
  case atStart => exact ⟨0, none, 0, fun _ => (none, 0), Nat.zero_le _, rfl, HB3.out, fun _ _ _ => rfl, Nat.le_refl _, HZ3.out, World.ownsRow_nil _ _ _ _, fun i hi => absurd hi (Nat.not_lt_zero _)⟩
  case round =>
    obtain ⟨k, A', c', s, hk, rfl, hc⟩ := hrel
    have HC := Lib.hid hc
    have hxr : Tx wr w.heap.size (tabA A n c Af ll cf sh) := (hc.kp w.heap.size (by omega) (by omega)).trans HX3.out
    have x0 := cell_of_row wr w.heap.size 0 _ _ _ hxr
    simp only [List.getElem?_toArray, List.getElem?_cons_zero] at x0
    clear hxr
    by_cases hki : k < n
    · obtain ⟨ad, rfl⟩ : ∃ ad, A = some ad := by
        cases A with
        | none => have := (HT.out.rows.nil rfl).1; omega
        | some ad => exact ⟨ad, rfl⟩
      obtain ⟨Ai, ci, r1, r2⟩ := (HT.out.lt hc.bel).rows.at_ ad rfl k hki
      have HRS := Lib.hid r2
      have hfl := HFL.out k hki
      have h1 : ∀ u ∈ il (f k), u.oneCell' = true := by
        intro u hu
        obtain ⟨z, _, rfl⟩ := List.mem_map.1 hu
        rfl
      have m1 : 0 + (f k).length ≤ maxLen := by simp only [maxLen]; omega
      have m2 : (0 + (f k).length) * 8 ≤ 140737488355328 := by omega
      have hbase := hc.sz
      clear r2 hc
      go_upto_region 7 with (at_builtin; refine wpList_append_src rfl (.tmp 17) (.tmp 22) _ rfl w3.heap.size 3 i0 _ 8 Try.underlying58 hi hz0 hz1 hz2 rfl (.slice none 0 0) 0 [] rfl (World.ownsRow_nil _ _ _ _) _ Ai (f k).length ci (il (f k)) rfl HRS.out h1 m1 m2 hbase ?_; intro v' w4 hown hg hat; obtain ⟨A2, c2, rfl⟩ := own_slice hown; simp only [Nat.zero_add, List.nil_append] at hown; simp only [Nat.zero_add])
      have HC4 := Lib.hid (HC.out.grow hg3 hg)
      have HR4 := Lib.hid hown
      clear hown hg hat x0
      have HCN := Lib.hid ((Bx.new w4 #[.slice A2 (f k).length c2] 58).c 0)
      have HC5 := Lib.hid (HC4.out.grow hg3 (Siv.grow_below ((Below.refl w4.heap.size w4).alloc (Nat.le_refl _) (.cells #[.slice A2 (f k).length c2] 58)) none))
      have HR5 := Lib.hid (own_alloc HR4.out (.cells #[.slice A2 (f k).length c2] 58))
      have x0 : w4.cell? ⟨g3, 0, none⟩ = some (.slice A' k c') := cell_of_row w4 g3 0 _ _ _ HC4.out.box
      have m3 : k + 1 ≤ maxLen := by simp only [maxLen]; omega
      have m4 : (k + 1) * 24 ≤ 140737488355328 := by omega
      have HBX := Lib.hid (fun (X : World) (hg : (w4.alloc (.cells #[.slice A2 (f k).length c2] 58)).grownBy X (Value.slice A' k c').ownBlock) => show Tx X g3 (tabA A' k c' Af' ll cf' sh) from (hg.block g3 (Nat.lt_of_lt_of_le hg3 HC5.out.sz) (fun e => by have := (HC5.out.out.lt g3 e.symm).1; omega)).trans HC5.out.box)
      have hbase5 := HC5.out.sz
      go_upto_region 4 with (at_builtin; refine append_one rfl (.tmp 25) (.tmp 27) 24 58 (.slice none 0 0) 24 rfl Try.underlying24 Try.info_ints rfl w3.heap.size A' k c' (slvs k f s) rfl HC5.out.out w4.heap.size (.slice A2 (f k).length c2) rfl HCN.out rfl m3 m4 hbase5 ?_; intro A3 c3 w6 hown hg; have HC7 := Lib.hid (HC5.out.push hg3 (by omega) HR5.out hown hg); have hb6 := HBX.out w6 hg; have k2 := cell_of_row w6 g3 0 _ _ _ hb6; have k3 := frozen_of_row w6 g3 0 _ _ hb6; clear hown hg hb6)
      clear k2 k3 x0 m1 m2 m3 m4
      go_wp2_with fail
      go_roundw
      case rel => exact ⟨k + 1, A3, c3, _, hki, by go_num, HC7.out⟩
      case measure => simp [intOf]; omega
    · obtain rfl : k = n := by omega
      have hy0 : Tx wr (w.heap.size + 1) (tabA none 0 0 none 0 0 0) := (hc.kp (w.heap.size + 1) (by omega) (by omega)).trans HY3.out
      have u0 := cell_of_row wr (w.heap.size + 1) 0 _ _ _ hy0
      have u1 := cell_of_row wr (w.heap.size + 1) 1 _ _ _ hy0
      have u2 := cell_of_row wr (w.heap.size + 1) 2 _ _ _ hy0
      have v0 := frozen_of_row wr (w.heap.size + 1) 0 _ _ hy0
      have v1 := frozen_of_row wr (w.heap.size + 1) 1 _ _ hy0
      have v2 := frozen_of_row wr (w.heap.size + 1) 2 _ _ hy0
      have z0 := cell_of_row wr g3 0 _ _ _ hc.box
      have z1 := cell_of_row wr g3 1 _ _ _ hc.box
      have z2 := cell_of_row wr g3 2 _ _ _ hc.box
      simp only [List.getElem?_toArray, List.getElem?_cons_succ, List.getElem?_cons_zero] at u0 u1 u2 z0 z1 z2
      have hgn : g3 ≠ w.heap.size + 1 := by omega
      clear hc hy0
      go_upto_region 99 with (fail)
      have hg2 : w.heap.size + 1 < w3.heap.size := by omega
      have hW : ∀ q, q ≠ w.heap.size + 1 → (((wr.setCell ⟨w.heap.size + 1, 0, none⟩ (.slice A' k c')).setCell ⟨w.heap.size + 1, 1, none⟩ (.slice Af' ll cf')).setCell ⟨w.heap.size + 1, 2, none⟩ (.int .i64 sh)).heap[q]? = wr.heap[q]? := fun q hq => by
        rw [Below.heap_setCell _ ⟨w.heap.size + 1, 2, none⟩ _ q hq, Below.heap_setCell _ ⟨w.heap.size + 1, 1, none⟩ _ q hq, Below.heap_setCell _ ⟨w.heap.size + 1, 0, none⟩ _ q hq]
      refine bodyPost_ret (v := .agg (tabA A' k c' Af' L.length cf' sh)) ?_ rfl ⟨A', c', Af', cf', rfl, ⟨?_, ?_⟩, ?_⟩
      · rw [results_cell_one rfl, hll]
        go_simp
      · exact rws_of_own (own_cell (own_cell (own_cell HC.out.out hg2 0 _) hg2 1 _) hg2 2 _) (fun i hi => own_cell (own_cell (own_cell (HC.out.own i hi) hg2 0 _) hg2 1 _) hg2 2 _)
      · rw [hll]
        refine ((HW3.out.keep fun q hq _ => ?_).weak fun q hq => ?_)
        · rw [hW q (by have := hq.2.1; omega)]
          exact HC.out.kp q (by have := hq.2.2; omega) (by have := hq.2.2; omega)
        · have h1 := hq.2.2
          have h2 := HC.out.sz
          simp [World.setCell]
          omega
      · exact ((HC.out.bel.setCell (p := ⟨w.heap.size + 1, 0, none⟩) (Nat.le_succ _) _).setCell (p := ⟨w.heap.size + 1, 1, none⟩) (Nat.le_succ _) _).setCell (p := ⟨w.heap.size + 1, 2, none⟩) (Nat.le_succ _) _
end Go.Proofs.Ytlkhmpnahbbpeaa
