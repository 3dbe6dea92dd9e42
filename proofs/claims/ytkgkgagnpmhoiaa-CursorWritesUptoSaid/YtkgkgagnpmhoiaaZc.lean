/-
  Appending a string's bytes, and where the new row lies; the document's own writer, on: Num.
-/
import Derived.Test.YtkgkgagnpmhoiaaZb
namespace Go.Proofs.Ytkgkgagnpmhoiaa
open Go.RowKit

theorem str_cells (l : List UInt8) : Lib.strCells ⟨l.toArray⟩ = cells l := by
  simp [Lib.strCells, cells, u8]
theorem run_append_str_at {P : Program} {w : World} (base : Nat) (t u ty e : TypeId) (i : TypeInfo) (ht : P.underlying t = some (.slice e)) (hu : P.underlying u = some .string) (hi : P.info? e = some i) (hz : i.zero = some (.int .u8 0))
    (hsize : i.size = 1) (hby : i.bytes = 1) (A : Option Addr) (n c : Nat) (xs : List Value) (hown : w.ownsRow base e 1 (.slice A n c) n xs) (l : List UInt8)
    (hb : n + l.length ≤ 140737488355328) (hbase : base ≤ w.heap.size) :
    ∃ A' c' w', (Builtin.append_ #[t, u] ty #[.slice A n c, .string ⟨l.toArray⟩]).run P w = .ok (.slice A' (n + l.length) c') w' ∧ w'.ownsRow base e 1 (.slice A' (n + l.length) c') (n + l.length) (xs ++ cells l) ∧
      w.grownBy w' (Value.slice A n c).ownBlock ∧ (row A' = row A ∨ ∃ k, w.heap.size ≤ k ∧ row A' = some k) := by
  have hs : (⟨l.toArray⟩ : ByteArray).size = l.length := rfl
  obtain ⟨v', w', hr, ho, hg, hn⟩ := Lib.run_append_own_string (P := P) w base t u ty e i ht hu hi hz hsize hby (.slice A n c) n xs hown ⟨l.toArray⟩ (by rw [hs]; simp only [maxLen]; omega) (by rw [hs]; omega) hbase
  rw [hs, str_cells] at ho
  obtain ⟨A', c', rfl⟩ := own_slice ho
  refine ⟨A', c', w', hr, ho, hg, ?_⟩
  rcases hown.2 with ⟨h1, rfl⟩ | ⟨g, cap, cur, h1, hbg, hh, hnc, hcm, hcs, htake⟩
  · injection h1 with h1 _ h2
    subst h1 h2
    have hx0 : xs = [] := List.eq_nil_of_length_eq_zero (by have := hown.1; omega)
    obtain ⟨v2, w2, hr2, ho2, _, _⟩ := Lib.run_append_own_string (P := P) w w.heap.size t u ty e i ht hu hi hz hsize hby (.slice none 0 0) 0 [] (World.ownsRow_nil _ _ _ _) ⟨l.toArray⟩ (by rw [hs]; simp only [maxLen]; omega) (by rw [hs]; omega) (Nat.le_refl _)
    rw [hr] at hr2
    injection hr2 with e1 e2
    subst e1 e2
    cases A' with
    | none => exact .inl rfl
    | some a => exact .inr ⟨a.block, (ho2.lt a.block rfl).1, rfl⟩
  · injection h1 with h1 _ h2
    subst h1 h2
    by_cases hroom : n + l.length ≤ c
    · have hr2 := Lib.run_append_room_string (P := P) w t u ty e i ht hu hi hsize g n c cur hh ⟨l.toArray⟩ hroom (by rw [hs, hcs]; omega)
      rw [hr] at hr2
      injection hr2 with e1 e2
      injection e1 with e1
      subst e1
      exact .inl rfl
    · have holds : ∀ j u, xs[j]? = some u → w.cell? ((⟨g, 0, none⟩ : Addr).add j) = some u := hown.cells (g := g) rfl
      have hr2 := Lib.run_append_grow_string (P := P) w t u ty e i (.int .u8 0) ht hu hi hz ⟨g, 0, none⟩ n c xs (by rw [hsize]; simpa using hown.1) holds ⟨l.toArray⟩ (by rw [hs]; omega) (by rw [hs]; omega) (by rw [hs, hby]; exact growslice_fits (by omega) (by omega))
      rw [hr] at hr2
      injection hr2 with e1 e2
      injection e1 with e1
      subst e1
      exact .inr ⟨w.heap.size, Nat.le_refl _, rfl⟩

/-- At a step of a region that draws its order. -/
theorem step_append_str {P : Program} {w : World} {ops : Array Oper} {o : Oper} {a : Act} {K : Act → World → Prop} {Q : Exit → Act → World → Prop} {E : Prop} (hgd : o.guard = none) (s x : Operand) (t u : TypeId)
    (ho : o.op = .call { callee := .builtin .append, args := #[s, x], argTypes := #[t, u] })
    (base : Nat) (e : TypeId) (i : TypeInfo) (ht : P.underlying t = some (.slice e)) (hu : P.underlying u = some .string) (hi : P.info? e = some i) (hz : i.zero = some (.int .u8 0))
    (hsize : i.size = 1) (hby : i.bytes = 1) (A : Option Addr) (n c : Nat) (xs : List Value) (hs : a.eval s = .slice A n c) (hown : w.ownsRow base e 1 (.slice A n c) n xs) (l : List UInt8) (hx : a.eval x = .string ⟨l.toArray⟩)
    (hb : n + l.length ≤ 140737488355328) (hbase : base ≤ w.heap.size)
    (h : ∀ A' c' w', w'.ownsRow base e 1 (.slice A' (n + l.length) c') (n + l.length) (xs ++ cells l) → w.grownBy w' (Value.slice A n c).ownBlock → (row A' = row A ∨ ∃ k, w.heap.size ≤ k ∧ row A' = some k) → K (a.put o.dst (.slice A' (n + l.length) c')) w') :
    if Region.wanted o (yielded ops a.tmps) = true then Oper.wp P o a w K Q else E := by
  have hw : Region.wanted o (yielded ops a.tmps) = true := by simp [Region.wanted, hgd]
  rw [if_pos hw]
  obtain ⟨A', c', w', hr, h1, h2, h3⟩ := run_append_str_at (P := P) (w := w) base t u o.type e i ht hu hi hz hsize hby A n c xs hown l hb hbase
  unfold Oper.wp execOp
  simp only [ho, resolve, invoke, builtin, Sem.run_bind, Sem.run_pure, Result.andThen_ok, List.map_toArray, List.map_cons, List.map_nil, hs, hx, hr]
  exact h A' c' w' h1 h2 h3

theorem wNums_err (size : Nat) (ns : List Int) : ∀ s : St, s.1 ≠ 0 → wNums size ns s = s := by
  induction ns with
  | nil => intro s _; rfl
  | cons n ns ih =>
    intro s h
    have e : wNum1 size n s = s := by unfold wNum1; rw [if_neg h]
    have : wNums size (n :: ns) s = wNums size ns (wNum1 size n s) := rfl
    rw [this, e]
    exact ih s h
theorem wNums_stop (size : Nat) (ns : List Int) (k : Nat) (s : St) (h : (wNums size (ns.take k) s).1 ≠ 0) : wNums size ns s = wNums size (ns.take k) s := by
  have e : ns = ns.take k ++ ns.drop k := (List.take_append_drop k ns).symm
  conv => lhs; rw [e]
  unfold wNums at *
  rw [List.foldl_append]
  exact wNums_err size _ _ h
theorem wTexts_err (ss : List (List UInt8)) : ∀ s : St, s.1 ≠ 0 → wTexts ss s = s := by
  induction ss with
  | nil => intro s _; rfl
  | cons l ss ih =>
    intro s h
    have e : wMeas 2 4096 l s = s := by unfold wMeas; rw [if_neg h]
    have : wTexts (l :: ss) s = wTexts ss (wMeas 2 4096 l s) := rfl
    rw [this, e]
    exact ih s h
theorem wTexts_stop (ss : List (List UInt8)) (k : Nat) (s : St) (h : (wTexts (ss.take k) s).1 ≠ 0) : wTexts ss s = wTexts (ss.take k) s := by
  have e : ss = ss.take k ++ ss.drop k := (List.take_append_drop k ss).symm
  conv => lhs; rw [e]
  unfold wTexts at *
  rw [List.foldl_append]
  exact wTexts_err _ _ h

theorem Wm.below' {w w' : World} {B g : Nat} {e : Int} {A : Option Addr} {c : Nat} {bs : List UInt8} (h : Wm w B g e A c bs) (hb : Below w.drew.heap.size w.drew w') : Wm w' B g e A c bs := h.drew.below hb

set_option maxHeartbeats 1000000 in
theorem vnum_err (B g : Nat) (e : Int) (bs : List UInt8) (A : Option Addr) (c : Nat) (size : Int) (An : Option Addr) (n cn : Nat) (w : World) (h : Wm w B g e A c bs) (he : e ≠ 0) (hnn : n ≤ 140737488355328) :
    Calls Try.prog 35 #[.pointer (some ⟨g, 0, none⟩), .int .i64 size, .slice An n cn] w (WroteM w B g A e bs) := by
  have hc0 := h.cell1
  have hb : (e == 0) = false := by simpa using he
  have H := Lib.hid h
  clear h he
  go_enter Try.func35, Try.ntmps35
  go_wp2_with fail
  go_loopw [6] (fun i wr => i = .int .i64 0 ∧ wr = w) (fun i _ => n - (intOf i).toNat)
  case atStart => exact ⟨rfl, rfl⟩
  case round =>
    obtain ⟨rfl, rfl⟩ := hrel
    by_cases hlt : 0 < n
    · go_wp2
      go_end0
      exact ⟨rfl, A, c, H.out, Step.refl _ _ _⟩
    · obtain rfl : n = 0 := by omega
      go_wp2
      go_end0
      exact ⟨rfl, A, c, H.out, Step.refl _ _ _⟩

set_option maxHeartbeats 2000000 in
theorem vnum_ok (B g : Nat) (bs : List UInt8) (A : Option Addr) (c : Nat) (size : Nat) (An : Option Addr) (n cn : Nat) (ns : List Int) (w : World) (h : Wm w B g 0 A c bs) (hs : sized size = true)
    (hx : Src w (fun k => k ≠ g ∧ row A ≠ some k) An n cn (ints ns)) (hn : bs.length + 8 * n ≤ 140737488355328) :
    Calls Try.prog 35 #[.pointer (some ⟨g, 0, none⟩), .int .i64 size, .slice An n cn] w (WroteM w B g A (wNums size ns (0, bs)).1 (wNums size ns (0, bs)).2) := by
  obtain ⟨i0, hi, hz0, hz1, hz2⟩ := info_parts Try.info_byte
  have h8 : size ≤ 8 ∧ 0 < size := by simp only [sized, decide_eq_true_eq] at hs; omega
  have hl : ns.length = n := by have := hx.len; simpa [ints] using this
  have hc0 := h.cell1
  have HL := Lib.hid hl
  have H := Lib.hid h
  have HS := Lib.hid hs
  have HX := Lib.hid hx
  clear h hs hx hl
  go_enter Try.func35, Try.ntmps35
  go_wp2_with (go_at_call 53; refine (sizedR_any size _).mono ?_; rw [HS.out]; rintro e w' ⟨rfl, rfl⟩)
  go_loopw [6] (fun i wr => ∃ k : Nat, k ≤ n ∧ i = .int .i64 k ∧ AtM w B g A (wNums size (ns.take k) (0, bs)).1 (wNums size (ns.take k) (0, bs)).2 wr) (fun i _ => n - (intOf i).toNat)
  case atStart => exact ⟨0, Nat.zero_le _, rfl, A, c, H.out, Step.refl _ _ _⟩
  case round =>
    obtain ⟨k, hk, rfl, A2, c2, hw2, hst2⟩ := hrel
    by_cases hlt : k < n
    · have hkl : k < ns.length := by rw [HL.out]; exact hlt
      have hbl := wNums_len size (ns.take k) h8.1 (0, bs)
      rw [List.length_take, Nat.min_eq_left (by omega)] at hbl
      have hsn := wNums_snoc size ns k hkl (0, bs)
      have hstop := wNums_stop size ns k (0, bs)
      generalize hsk : wNums size (ns.take k) (0, bs) = sk at *
      obtain ⟨ek, bk⟩ := sk
      have hce := hw2.cell1
      have hcb := hw2.cell0
      have hsf := hw2.soft 0
      have hsf1 := hw2.soft 1
      simp only at hce hcb hbl hsf hsf1 hstop
      by_cases he : ek = 0
      · subst he
        obtain ⟨ad, rfl⟩ : ∃ ad, An = some ad := by
          cases An with
          | none => have := (HX.out.nil rfl).1; omega
          | some ad => exact ⟨ad, rfl⟩
        have hcell : wr.cell? (ad.add k) = some (.int .i64 ns[k]) := (HX.out.step hst2).at_ ad rfl k _ (by simp [ints, List.getElem?_eq_getElem hkl])
        have hcap := HX.out.cap
        have HST := Lib.hid hst2
        have HW2 := Lib.hid hw2
        clear hstop hst2 hw2 hsk
        by_cases hf : fitB size ns[k] = true
        · have e1 : wNum1 size ns[k] (0, bk) = (0, bk ++ digs ns[k] size) := by unfold wNum1; rw [if_pos rfl, if_pos hf]
          have HSN := Lib.hid (hsn.trans e1)
          have HF := Lib.hid hf
          have HD := Lib.hid (digits_any size ns[k] wr.drew h8.1)
          clear hsn e1 hf
          go_wp2_with (go_at_call 54; refine (fitsR_any size _ _ HS.out).mono ?_; rw [HF.out]; rintro e w' ⟨rfl, rfl⟩)
          have h1d := cells_one (digs ns[k] size)
          have hkn : bk.length + size ≤ 140737488355328 := by omega
          go_region_law (first
            | (go_simp; go_at_call 55; refine HD.out.mono ?_; rintro en w3 ⟨A4, c4, rfl, hown4, hb4⟩; obtain ⟨gd, rfl, hnews⟩ := digs_src hown4 h8.2; have hw3 := HW2.out.below' hb4; have hcb3 := hw3.cell0; have HW3 := Lib.hid hw3; have HN := Lib.hid hnews; have HB4 := Lib.hid hb4; clear hown4 hnews hw3 hb4)
            | (refine step_append_lies _ rfl (.tmp 43) (.tmp 49) 27 rfl B 5 i0 (.int .u8 0) 1 1 Try.underlying27 hi hz0 hz1 hz2 rfl (by decide) (.slice A2 bk.length c2) bk.length (cells bk) rfl HW3.out.own ⟨gd, 0, none⟩ size c4 (cells (digs ns[k] size)) rfl (by rw [cells_len, digs_len, Nat.mul_one]) HN.out h1d h8.2 (by simp only [maxLen]; omega) (by omega) HW3.out.base w3.heap.size rfl ?_; intro g5 c5 w5 hown hgr hat hlt5; obtain ⟨q1, q2⟩ := HW3.out.grownCell hgr _ rfl))
          all_goals
            obtain ⟨hw6, hst6⟩ := HW3.out.put _ rfl size (digs_len _ _) hown hgr (atRow' hat)
            have hst := (((HST.out.trans (Step.below (drew_below wr) (row A2))).trans (Step.below HB4.out (row A2))).trans hst6)
            generalize w5.setCell ⟨g, 0, none⟩ (.slice (some ⟨g5, 0, none⟩) (bk.length + size) c5) = w6 at *
            have HW6 := Lib.hid hw6
            have HST6 := Lib.hid hst
            clear hown hgr hat hlt5 q1 q2 hw6 hst6 hst
            go_wp2_with fail
            go_roundw
            case rel => exact ⟨k + 1, by omega, by go_num, by rw [HSN.out]; exact ⟨_, c5, HW6.out, HST6.out⟩⟩
            case measure => simp [intOf]; omega
        · have e1 : wNum1 size ns[k] (0, bk) = (10, bk) := by unfold wNum1; rw [if_pos rfl, if_neg hf]
          have HSN := Lib.hid (hsn.trans e1)
          have HF := Lib.hid (show fitB size ns[k] = false by simpa using hf)
          clear hsn e1 hf
          go_wp2_with (go_at_call 54; refine (fitsR_any size _ _ HS.out).mono ?_; rw [HF.out]; rintro e w' ⟨rfl, rfl⟩)
          refine ⟨⟨k + 1, by omega, by go_num, ?_⟩, by simp [intOf]; omega⟩
          rw [HSN.out]
          exact AtM.trans HST.out (HW2.out.fail 10)
      · have hb : (ek == 0) = false := by simpa using he
        have hfin := hstop he
        have HFN := Lib.hid hfin
        have HST := Lib.hid hst2
        have HW2 := Lib.hid hw2
        have HE := Lib.hid he
        clear hst2 hw2 hfin hstop hsn hsk he
        go_wp2_with fail
        go_end0
        refine ⟨rfl, ?_⟩
        rw [HFN.out]
        exact ⟨A2, c2, HW2.out, HST.out⟩
    · obtain rfl : k = n := by omega
      have HW := Lib.hid hw2
      have HST := Lib.hid hst2
      clear hw2 hst2
      go_wp2
      go_end0
      have : ns.take k = ns := List.take_of_length_le (by rw [HL.out]; exact Nat.le_refl _)
      have hw := HW.out
      rw [this] at hw
      exact ⟨rfl, A2, c2, hw, HST.out⟩
end Go.Proofs.Ytkgkgagnpmhoiaa
