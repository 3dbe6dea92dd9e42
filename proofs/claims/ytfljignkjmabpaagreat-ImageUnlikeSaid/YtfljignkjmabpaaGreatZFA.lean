/-
  Appending a string's bytes, and where the new row lies; the document's own writer, on: Num.
  The document's own writer, on: Num of any size, Text.
  Plain words on what is written and read, out of stage 1.
  What hashes are, and the leaf functions of package sieve and of the document's own answer that hash names.
-/
import Derived.Test.YtfljignkjmabpaaGreatZCZb
import Derived.Test.YtfljignkjmabpaaGreatZYA
import Derived.Test.YtfljignkjmabpaaGreatRows
import Derived.WalkKit
import Derived.Lib.Hide
import Derived.WalkSpells
import Derived.Deep.Draws
import Derived.Deep.QuietTactic
import Derived.BigQuiet
import Derived.Laws.BitsAllLaws
import Derived.Laws.Bits64
namespace Go.Proofs.YtfljignkjmabpaaGreat
set_option maxRecDepth 100000
set_option linter.unusedSimpArgs false
set_option linter.unusedVariables false
open Go.RowKit

theorem str_cells (l : List UInt8) : Lib.strCells ⟨l.toArray⟩ = cells l := by
  simp [Lib.strCells, cells, u8]
theorem run_append_str_at {P : Program} {w : World} (base : Nat) (t u ty e : TypeId) (i : TypeInfo) (ht : P.underlying t = some (.slice e)) (hu : P.underlying u = some .string) (hi : P.info? e = some i) (hz : i.zero = some (.int .u8 0))
    (hsize : i.size = 1) (hby : i.bytes = 1) (A : Option Addr) (n c : Nat) (xs : List Value) (hown : w.ownsRow base e 1 (.slice A n c) n xs) (l : List UInt8)
    (hb : n + l.length ≤ 140737488355328) (hbase : base ≤ w.heap.size) :
    ∃ A' c' w', (Builtin.append_ #[t, u] ty #[.slice A n c, .string ⟨l.toArray⟩]).run P w = .ok (.slice A' (n + l.length) c') w' ∧ w'.ownsRow base e 1 (.slice A' (n + l.length) c') (n + l.length) (xs ++ cells l) ∧
      w.grownBy w' (Value.slice A n c).ownBlock ∧ (row A' = row A ∨ ∃ k, w.heap.size ≤ k ∧ row A' = some k) := by
  have hs : (⟨l.toArray⟩ : ByteArray).size = l.length := rfl
  obtain ⟨v', w', hr, ho, hg, hn⟩ := Lib.run_append_own_string (P := P) w base t u ty e i ht hu hi hz hsize hby (.slice A n c) n xs hown ⟨l.toArray⟩ (by rw [hs]; simp only [maxLen]; omega) (by rw [hs]; omega) hbase
  rw [hs, str_cells] at ho
  obtain ⟨A', c', rfl⟩ := own_slice ho
  refine ⟨A', c', w', hr, ho, hg, ?_⟩
  rcases hown.2 with ⟨h1, rfl⟩ | ⟨g, cap, cur, h1, hbg, hh, hnc, hcm, hcs, htake⟩
  · injection h1 with h1 _ h2
    subst h1 h2
    have hx0 : xs = [] := List.eq_nil_of_length_eq_zero (by have := hown.1; omega)
    obtain ⟨v2, w2, hr2, ho2, _, _⟩ := Lib.run_append_own_string (P := P) w w.heap.size t u ty e i ht hu hi hz hsize hby (.slice none 0 0) 0 [] (World.ownsRow_nil _ _ _ _) ⟨l.toArray⟩ (by rw [hs]; simp only [maxLen]; omega) (by rw [hs]; omega) (Nat.le_refl _)
    rw [hr] at hr2
    injection hr2 with e1 e2
    subst e1 e2
    cases A' with
    | none => exact .inl rfl
    | some a => exact .inr ⟨a.block, (ho2.lt a.block rfl).1, rfl⟩
  · injection h1 with h1 _ h2
    subst h1 h2
    by_cases hroom : n + l.length ≤ c
    · have hr2 := Lib.run_append_room_string (P := P) w t u ty e i ht hu hi hsize g n c cur hh ⟨l.toArray⟩ hroom (by rw [hs, hcs]; omega)
      rw [hr] at hr2
      injection hr2 with e1 e2
      injection e1 with e1
      subst e1
      exact .inl rfl
    · have holds : ∀ j u, xs[j]? = some u → w.cell? ((⟨g, 0, none⟩ : Addr).add j) = some u := hown.cells (g := g) rfl
      have hr2 := Lib.run_append_grow_string (P := P) w t u ty e i (.int .u8 0) ht hu hi hz ⟨g, 0, none⟩ n c xs (by rw [hsize]; simpa using hown.1) holds ⟨l.toArray⟩ (by rw [hs]; omega) (by rw [hs]; omega) (by rw [hs, hby]; exact growslice_fits (by omega) (by omega))
      rw [hr] at hr2
      injection hr2 with e1 e2
      injection e1 with e1
      subst e1
      exact .inr ⟨w.heap.size, Nat.le_refl _, rfl⟩

/-- At a step of a region that draws its order. -/
theorem step_append_str {P : Program} {w : World} {ops : Array Oper} {o : Oper} {a : Act} {K : Act → World → Prop} {Q : Exit → Act → World → Prop} {E : Prop} (hgd : o.guard = none) (s x : Operand) (t u : TypeId)
    (ho : o.op = .call { callee := .builtin .append, args := #[s, x], argTypes := #[t, u] })
    (base : Nat) (e : TypeId) (i : TypeInfo) (ht : P.underlying t = some (.slice e)) (hu : P.underlying u = some .string) (hi : P.info? e = some i) (hz : i.zero = some (.int .u8 0))
    (hsize : i.size = 1) (hby : i.bytes = 1) (A : Option Addr) (n c : Nat) (xs : List Value) (hs : a.eval s = .slice A n c) (hown : w.ownsRow base e 1 (.slice A n c) n xs) (l : List UInt8) (hx : a.eval x = .string ⟨l.toArray⟩)
    (hb : n + l.length ≤ 140737488355328) (hbase : base ≤ w.heap.size)
    (h : ∀ A' c' w', w'.ownsRow base e 1 (.slice A' (n + l.length) c') (n + l.length) (xs ++ cells l) → w.grownBy w' (Value.slice A n c).ownBlock → (row A' = row A ∨ ∃ k, w.heap.size ≤ k ∧ row A' = some k) → K (a.put o.dst (.slice A' (n + l.length) c')) w') :
    if Region.wanted o (yielded ops a.tmps) = true then Oper.wp P o a w K Q else E := by
  have hw : Region.wanted o (yielded ops a.tmps) = true := by simp [Region.wanted, hgd]
  rw [if_pos hw]
  obtain ⟨A', c', w', hr, h1, h2, h3⟩ := run_append_str_at (P := P) (w := w) base t u o.type e i ht hu hi hz hsize hby A n c xs hown l hb hbase
  unfold Oper.wp execOp
  simp only [ho, resolve, invoke, builtin, Sem.run_bind, Sem.run_pure, Result.andThen_ok, List.map_toArray, List.map_cons, List.map_nil, hs, hx, hr]
  exact h A' c' w' h1 h2 h3

theorem wNums_err (size : Nat) (ns : List Int) : ∀ s : St, s.1 ≠ 0 → wNums size ns s = s := by
  induction ns with
  | nil => intro s _; rfl
  | cons n ns ih =>
    intro s h
    have e : wNum1 size n s = s := by unfold wNum1; rw [if_neg h]
    have : wNums size (n :: ns) s = wNums size ns (wNum1 size n s) := rfl
    rw [this, e]
    exact ih s h
theorem wNums_stop (size : Nat) (ns : List Int) (k : Nat) (s : St) (h : (wNums size (ns.take k) s).1 ≠ 0) : wNums size ns s = wNums size (ns.take k) s := by
  have e : ns = ns.take k ++ ns.drop k := (List.take_append_drop k ns).symm
  conv => lhs; rw [e]
  unfold wNums at *
  rw [List.foldl_append]
  exact wNums_err size _ _ h
theorem wTexts_err (ss : List (List UInt8)) : ∀ s : St, s.1 ≠ 0 → wTexts ss s = s := by
  induction ss with
  | nil => intro s _; rfl
  | cons l ss ih =>
    intro s h
    have e : wMeas 2 4096 l s = s := by unfold wMeas; rw [if_neg h]
    have : wTexts (l :: ss) s = wTexts ss (wMeas 2 4096 l s) := rfl
    rw [this, e]
    exact ih s h
theorem wTexts_stop (ss : List (List UInt8)) (k : Nat) (s : St) (h : (wTexts (ss.take k) s).1 ≠ 0) : wTexts ss s = wTexts (ss.take k) s := by
  have e : ss = ss.take k ++ ss.drop k := (List.take_append_drop k ss).symm
  conv => lhs; rw [e]
  unfold wTexts at *
  rw [List.foldl_append]
  exact wTexts_err _ _ h

theorem Wm.below' {w w' : World} {B g : Nat} {e : Int} {A : Option Addr} {c : Nat} {bs : List UInt8} (h : Wm w B g e A c bs) (hb : Below w.drew.heap.size w.drew w') : Wm w' B g e A c bs := h.drew.below hb

set_option maxHeartbeats 1000000 in
theorem vnum_err (B g : Nat) (e : Int) (bs : List UInt8) (A : Option Addr) (c : Nat) (size : Int) (An : Option Addr) (n cn : Nat) (w : World) (h : Wm w B g e A c bs) (he : e ≠ 0) (hnn : n ≤ 140737488355328) :
    Calls Tryz.prog 71 #[.pointer (some ⟨g, 0, none⟩), .int .i64 size, .slice An n cn] w (WroteM w B g A e bs) := by
  have hc0 := h.cell1
  have hb : (e == 0) = false := by simpa using he
  have H := Lib.hid h
  clear h he
  go_enter Tryz.func71, Tryz.ntmps71
  go_wp2_with fail
  go_loopw [6] (fun i wr => i = .int .i64 0 ∧ wr = w) (fun i _ => n - (intOf i).toNat)
  case atStart => exact ⟨rfl, rfl⟩
  case round =>
    obtain ⟨rfl, rfl⟩ := hrel
    by_cases hlt : 0 < n
    · go_wp2
      go_end0
      exact ⟨rfl, A, c, H.out, Step.refl _ _ _⟩
    · obtain rfl : n = 0 := by omega
      go_wp2
      go_end0
      exact ⟨rfl, A, c, H.out, Step.refl _ _ _⟩

set_option maxHeartbeats 2000000 in
theorem vnum_ok (B g : Nat) (bs : List UInt8) (A : Option Addr) (c : Nat) (size : Nat) (An : Option Addr) (n cn : Nat) (ns : List Int) (w : World) (h : Wm w B g 0 A c bs) (hs : sized size = true)
    (hx : Src w (fun k => k ≠ g ∧ row A ≠ some k) An n cn (ints ns)) (hn : bs.length + 8 * n ≤ 140737488355328) :
    Calls Tryz.prog 71 #[.pointer (some ⟨g, 0, none⟩), .int .i64 size, .slice An n cn] w (WroteM w B g A (wNums size ns (0, bs)).1 (wNums size ns (0, bs)).2) := by
  obtain ⟨i0, hi, hz0, hz1, hz2⟩ := info_parts Tryz.info_byte
  have h8 : size ≤ 8 ∧ 0 < size := by simp only [sized, decide_eq_true_eq] at hs; omega
  have hl : ns.length = n := by have := hx.len; simpa [ints] using this
  have hc0 := h.cell1
  have HL := Lib.hid hl
  have H := Lib.hid h
  have HS := Lib.hid hs
  have HX := Lib.hid hx
  clear h hs hx hl
  go_enter Tryz.func71, Tryz.ntmps71
  go_wp2_with (go_at_call 139; refine (sizedR_any size _).mono ?_; rw [HS.out]; rintro e w' ⟨rfl, rfl⟩)
  go_loopw [6] (fun i wr => ∃ k : Nat, k ≤ n ∧ i = .int .i64 k ∧ AtM w B g A (wNums size (ns.take k) (0, bs)).1 (wNums size (ns.take k) (0, bs)).2 wr) (fun i _ => n - (intOf i).toNat)
  case atStart => exact ⟨0, Nat.zero_le _, rfl, A, c, H.out, Step.refl _ _ _⟩
  case round =>
    obtain ⟨k, hk, rfl, A2, c2, hw2, hst2⟩ := hrel
    by_cases hlt : k < n
    · have hkl : k < ns.length := by rw [HL.out]; exact hlt
      have hbl := wNums_len size (ns.take k) h8.1 (0, bs)
      rw [List.length_take, Nat.min_eq_left (by omega)] at hbl
      have hsn := wNums_snoc size ns k hkl (0, bs)
      have hstop := wNums_stop size ns k (0, bs)
      generalize hsk : wNums size (ns.take k) (0, bs) = sk at *
      obtain ⟨ek, bk⟩ := sk
      have hce := hw2.cell1
      have hcb := hw2.cell0
      have hsf := hw2.soft 0
      have hsf1 := hw2.soft 1
      simp only at hce hcb hbl hsf hsf1 hstop
      by_cases he : ek = 0
      · subst he
        obtain ⟨ad, rfl⟩ : ∃ ad, An = some ad := by
          cases An with
          | none => have := (HX.out.nil rfl).1; omega
          | some ad => exact ⟨ad, rfl⟩
        have hcell : wr.cell? (ad.add k) = some (.int .i64 ns[k]) := (HX.out.step hst2).at_ ad rfl k _ (by simp [ints, List.getElem?_eq_getElem hkl])
        have hcap := HX.out.cap
        have HST := Lib.hid hst2
        have HW2 := Lib.hid hw2
        clear hstop hst2 hw2 hsk
        by_cases hf : fitB size ns[k] = true
        · have e1 : wNum1 size ns[k] (0, bk) = (0, bk ++ digs ns[k] size) := by unfold wNum1; rw [if_pos rfl, if_pos hf]
          have HSN := Lib.hid (hsn.trans e1)
          have HF := Lib.hid hf
          have HD := Lib.hid (digits_any size ns[k] wr.drew h8.1)
          clear hsn e1 hf
          go_wp2_with (go_at_call 152; refine (fitsR_any size _ _ HS.out).mono ?_; rw [HF.out]; rintro e w' ⟨rfl, rfl⟩)
          have h1d := cells_one (digs ns[k] size)
          have hkn : bk.length + size ≤ 140737488355328 := by omega
          go_region_law (first
            | (go_simp; go_at_call 151; refine HD.out.mono ?_; rintro en w3 ⟨A4, c4, rfl, hown4, hb4⟩; obtain ⟨gd, rfl, hnews⟩ := digs_src hown4 h8.2; have hw3 := HW2.out.below' hb4; have hcb3 := hw3.cell0; have HW3 := Lib.hid hw3; have HN := Lib.hid hnews; have HB4 := Lib.hid hb4; clear hown4 hnews hw3 hb4)
            | (refine step_append_lies _ rfl (.tmp 43) (.tmp 49) 22 rfl B 5 i0 (.int .u8 0) 1 1 Tryz.underlying22 hi hz0 hz1 hz2 rfl (by decide) (.slice A2 bk.length c2) bk.length (cells bk) rfl HW3.out.own ⟨gd, 0, none⟩ size c4 (cells (digs ns[k] size)) rfl (by rw [cells_len, digs_len, Nat.mul_one]) HN.out h1d h8.2 (by simp only [maxLen]; omega) (by omega) HW3.out.base w3.heap.size rfl ?_; intro g5 c5 w5 hown hgr hat hlt5; obtain ⟨q1, q2⟩ := HW3.out.grownCell hgr _ rfl))
          all_goals
            obtain ⟨hw6, hst6⟩ := HW3.out.put _ rfl size (digs_len _ _) hown hgr (atRow' hat)
            have hst := (((HST.out.trans (Step.below (drew_below wr) (row A2))).trans (Step.below HB4.out (row A2))).trans hst6)
            generalize w5.setCell ⟨g, 0, none⟩ (.slice (some ⟨g5, 0, none⟩) (bk.length + size) c5) = w6 at *
            have HW6 := Lib.hid hw6
            have HST6 := Lib.hid hst
            clear hown hgr hat hlt5 q1 q2 hw6 hst6 hst
            go_wp2_with fail
            go_roundw
            case rel => exact ⟨k + 1, by omega, by go_num, by rw [HSN.out]; exact ⟨_, c5, HW6.out, HST6.out⟩⟩
            case measure => simp [intOf]; omega
        · have e1 : wNum1 size ns[k] (0, bk) = (10, bk) := by unfold wNum1; rw [if_pos rfl, if_neg hf]
          have HSN := Lib.hid (hsn.trans e1)
          have HF := Lib.hid (show fitB size ns[k] = false by simpa using hf)
          clear hsn e1 hf
          go_wp2_with (go_at_call 152; refine (fitsR_any size _ _ HS.out).mono ?_; rw [HF.out]; rintro e w' ⟨rfl, rfl⟩)
          refine ⟨⟨k + 1, by omega, by go_num, ?_⟩, by simp [intOf]; omega⟩
          rw [HSN.out]
          exact AtM.trans HST.out (HW2.out.fail 10)
      · have hb : (ek == 0) = false := by simpa using he
        have hfin := hstop he
        have HFN := Lib.hid hfin
        have HST := Lib.hid hst2
        have HW2 := Lib.hid hw2
        have HE := Lib.hid he
        clear hst2 hw2 hfin hstop hsn hsk he
        go_wp2_with fail
        go_end0
        refine ⟨rfl, ?_⟩
        rw [HFN.out]
        exact ⟨A2, c2, HW2.out, HST.out⟩
    · obtain rfl : k = n := by omega
      have HW := Lib.hid hw2
      have HST := Lib.hid hst2
      clear hw2 hst2
      go_wp2
      go_end0
      have : ns.take k = ns := List.take_of_length_le (by rw [HL.out]; exact Nat.le_refl _)
      have hw := HW.out
      rw [this] at hw
      exact ⟨rfl, A2, c2, hw, HST.out⟩
end Go.Proofs.YtfljignkjmabpaaGreat

namespace Go.Proofs.YtfljignkjmabpaaGreat
set_option maxRecDepth 100000
set_option linter.unusedSimpArgs false
set_option linter.unusedVariables false
open Go.RowKit

set_option maxHeartbeats 1000000 in
theorem vnum_bad (B g : Nat) (bs : List UInt8) (A : Option Addr) (c : Nat) (size : Int) (An : Option Addr) (n cn : Nat) (w : World) (h : Wm w B g 0 A c bs) (hs : sized size = false) (hnn : n ≤ 140737488355328) :
    Calls Tryz.prog 71 #[.pointer (some ⟨g, 0, none⟩), .int .i64 size, .slice An n cn] w (WroteM w B g A 1 bs) := by
  have hc0 := h.cell1
  have hf := h.soft 1
  have H := Lib.hid h
  have HS := Lib.hid hs
  have hat := h.fail 1
  obtain ⟨A1, c1, hw1, hst1⟩ := hat
  have hce := hw1.cell1
  have HW1 := Lib.hid hw1
  have HST1 := Lib.hid hst1
  clear h hs hw1 hst1
  go_enter Tryz.func71, Tryz.ntmps71
  go_wp2_with (go_at_call 139; refine (sizedR_any size _).mono ?_; rw [HS.out]; rintro e w' ⟨rfl, rfl⟩)
  generalize w.setCell ⟨g, 1, none⟩ (.int .i64 1) = wx at *
  go_loopw [6] (fun i wr => i = .int .i64 0 ∧ wr = wx) (fun i _ => n - (intOf i).toNat)
  case atStart => exact ⟨rfl, rfl⟩
  case round =>
    obtain ⟨rfl, rfl⟩ := hrel
    by_cases hlt : 0 < n
    · go_wp2
      go_end0
      exact ⟨rfl, A1, c1, HW1.out, HST1.out⟩
    · obtain rfl : n = 0 := by omega
      go_wp2
      go_end0
      exact ⟨rfl, A1, c1, HW1.out, HST1.out⟩

theorem vnum_any (B g : Nat) (s : St) (A : Option Addr) (c : Nat) (size : Int) (An : Option Addr) (n cn : Nat) (ns : List Int) (w : World) (h : Wm w B g s.1 A c s.2)
    (hx : Src w (fun k => k ≠ g ∧ row A ≠ some k) An n cn (ints ns)) (hn : s.2.length + 8 * n ≤ 140737488355328) :
    Calls Tryz.prog 71 #[.pointer (some ⟨g, 0, none⟩), .int .i64 size, .slice An n cn] w (WroteM w B g A (wNumsA size ns s).1 (wNumsA size ns s).2) := by
  obtain ⟨e, bs⟩ := s
  simp only at hn
  by_cases he : e = 0
  · subst he
    by_cases hs : sized size = true
    · obtain ⟨k, rfl⟩ : ∃ k : Nat, size = k := ⟨size.toNat, by simp only [sized, decide_eq_true_eq] at hs; omega⟩
      have := vnum_ok B g bs A c k An n cn ns w h hs hx hn
      simpa only [wNumsA, hs, if_true, Int.toNat_natCast] using this
    · have := vnum_bad B g bs A c size An n cn w h (by simpa using hs) (by omega)
      simpa only [wNumsA, if_neg hs, if_true] using this
  · have e1 : wNumsA size ns (e, bs) = (e, bs) := by
      unfold wNumsA
      by_cases hs : sized size = true
      · rw [if_pos hs]; exact wNums_err _ _ _ he
      · rw [if_neg hs, if_neg he]
    rw [e1]
    exact vnum_err B g e bs A c size An n cn w h he (by omega)

set_option maxHeartbeats 2000000 in
theorem vtext_ok (B g : Nat) (bs : List UInt8) (A : Option Addr) (c : Nat) (An : Option Addr) (n cn : Nat) (ss : List (List UInt8)) (w : World) (h : Wm w B g 0 A c bs)
    (hx : Src w (fun k => k ≠ g ∧ row A ≠ some k) An n cn (strs ss)) (hn : bs.length + room ss ≤ 140737488355328) :
    Calls Tryz.prog 70 #[.pointer (some ⟨g, 0, none⟩), .slice An n cn] w (WroteM w B g A (wTexts ss (0, bs)).1 (wTexts ss (0, bs)).2) := by
  obtain ⟨i0, hi, hz0, hz1, hz2⟩ := info_parts Tryz.info_byte
  have hl : ss.length = n := by have := hx.len; simpa [strs] using this
  have hnn : n ≤ 140737488355328 := by have := room_ge ss; omega
  have HL := Lib.hid hl
  have H := Lib.hid h
  have HX := Lib.hid hx
  clear h hx hl
  go_enter Tryz.func70, Tryz.ntmps70
  go_wp2_with fail
  go_loopw [4] (fun i wr => ∃ k : Nat, k ≤ n ∧ i = .int .i64 k ∧ AtM w B g A (wTexts (ss.take k) (0, bs)).1 (wTexts (ss.take k) (0, bs)).2 wr) (fun i _ => n - (intOf i).toNat)
  case atStart => exact ⟨0, Nat.zero_le _, rfl, A, c, H.out, Step.refl _ _ _⟩
  case round =>
    obtain ⟨k, hk, rfl, A2, c2, hw2, hst2⟩ := hrel
    by_cases hlt : k < n
    · have hkl : k < ss.length := by rw [HL.out]; exact hlt
      have hbl := wTexts_len (ss.take k) (0, bs)
      have hbt := room_take ss k hkl
      have hsn := wTexts_snoc ss k hkl (0, bs)
      have hstop := wTexts_stop ss k (0, bs)
      generalize hsk : wTexts (ss.take k) (0, bs) = sk at *
      obtain ⟨ek, bk⟩ := sk
      have hce := hw2.cell1
      have hcb := hw2.cell0
      have hsf := hw2.soft 0
      have hsf1 := hw2.soft 1
      simp only at hce hcb hbl hsf hsf1 hstop
      by_cases he : ek = 0
      · subst he
        obtain ⟨ad, rfl⟩ : ∃ ad, An = some ad := by
          cases An with
          | none => have := (HX.out.nil rfl).1; omega
          | some ad => exact ⟨ad, rfl⟩
        have hcell : wr.cell? (ad.add k) = some (.string ⟨ss[k].toArray⟩) := (HX.out.step hst2).at_ ad rfl k _ (by simp [strs, List.getElem?_eq_getElem hkl])
        have hcap := HX.out.cap
        have HST := Lib.hid hst2
        have HW2 := Lib.hid hw2
        have hkb : bk.length + 8 + ss[k].length ≤ 140737488355328 := by omega
        clear hstop hst2 hw2 hsk hbl hbt
        by_cases hf : ss[k].length ≤ 4096
        · have e1 : wMeas 2 4096 ss[k] (0, bk) = (0, bk ++ digs ss[k].length 2 ++ ss[k]) := by unfold wMeas; rw [if_pos rfl, if_pos hf]
          have HSN := Lib.hid (hsn.trans e1)
          have HD := Lib.hid (digits_any 2 ss[k].length wr.drew (by omega))
          clear hsn e1
          go_wp2_with fail
          have h1d := cells_one (digs ss[k].length 2)
          have hsm : ss[k].length ≤ 9223372036854775807 := by omega
          go_region_law (first
            | (go_simp; go_at_call 151; refine HD.out.mono ?_; rintro en w3 ⟨A4, c4, rfl, hown4, hb4⟩; obtain ⟨gd, rfl, hnews⟩ := digs_src hown4 (by omega); have hw3 := HW2.out.below' hb4; have hcb3 := hw3.cell0; have HW3 := Lib.hid hw3; have HN := Lib.hid hnews; have HB4 := Lib.hid hb4; clear hown4 hnews hw3 hb4)
            | (refine step_append_lies _ rfl (.tmp 31) (.tmp 37) 22 rfl B 5 i0 (.int .u8 0) 1 1 Tryz.underlying22 hi hz0 hz1 hz2 rfl (by decide) (.slice A2 bk.length c2) bk.length (cells bk) rfl HW3.out.own ⟨gd, 0, none⟩ 2 c4 (cells (digs ss[k].length 2)) rfl (by rw [cells_len, digs_len]) HN.out h1d (by omega) (by simp only [maxLen]; omega) (by omega) HW3.out.base w3.heap.size rfl ?_; intro g5 c5 w5 hown hgr hat hlt5; obtain ⟨q1, q2⟩ := HW3.out.grownCell hgr _ rfl))
          all_goals
            obtain ⟨hw6, hst6⟩ := HW3.out.put _ rfl 2 (digs_len _ _) hown hgr (atRow' hat)
            have hst := (((HST.out.trans (Step.below (drew_below wr) (row A2))).trans (Step.below HB4.out (row A2))).trans hst6)
            generalize w5.setCell ⟨g, 0, none⟩ (.slice (some ⟨g5, 0, none⟩) (bk.length + 2) c5) = w6 at *
            have e4 : (bk ++ digs ss[k].length 2).length = bk.length + 2 := by rw [List.length_append, digs_len]
            have h60 := hw6.cell0
            rw [e4] at h60
            have hcell6 : w6.cell? (ad.add k) = some (.string ⟨ss[k].toArray⟩) := (HX.out.step hst).at_ ad rfl k _ (by simp [strs, List.getElem?_eq_getElem hkl])
            have HO6 := Lib.hid hw6.drew.own
            rw [e4] at HO6
            have HW6 := Lib.hid hw6.drew
            have HST6 := Lib.hid hst
            have E4 := Lib.hid e4
            have hbs := HW6.out.base
            clear hown hgr hat hlt5 q1 q2 hw6 hst6 hst hcb3 hcb hce hcell hsf hsf1 e4
            go_wp2_with fail
            go_region_law (refine step_append_str rfl (.tmp 45) (.tmp 49) 22 9 rfl B 5 i0 Tryz.underlying22 Tryz.underlying9 hi hz0 hz1 hz2 (some ⟨g5, 0, none⟩) (bk.length + 2) c5 (cells (bk ++ digs ss[k].length 2)) rfl HO6.out ss[k] rfl (by omega) hbs ?_; intro A7 c7 w7 hown hgr hat; obtain ⟨q1, q2⟩ := HW6.out.grownCell hgr _ E4.out)
            all_goals
              obtain ⟨hw8, hst8⟩ := HW6.out.put _ E4.out _ rfl hown hgr hat
              have hst := (HST6.out.trans (Step.below (drew_below w6) _)).trans hst8
              generalize w7.setCell ⟨g, 0, none⟩ (.slice A7 (bk.length + 2 + ss[k].length) c7) = w8 at *
              have HW8 := Lib.hid hw8
              have HST8 := Lib.hid hst
              clear hown hgr hat q1 q2 hw8 hst8 hst
              go_wp2_with fail
              go_roundw
              case rel => exact ⟨k + 1, by omega, by go_num, by rw [HSN.out]; exact ⟨A7, c7, HW8.out, HST8.out⟩⟩
              case measure => simp [intOf]; omega
        · have e1 : wMeas 2 4096 ss[k] (0, bk) = (2, bk) := by unfold wMeas; rw [if_pos rfl, if_neg hf]
          have hfin := wTexts_stop ss (k + 1) (0, bs) (by rw [hsn.trans e1]; exact (by decide : (2 : Int) ≠ 0))
          have HFN := Lib.hid (hfin.trans (hsn.trans e1))
          have hfk : 4096 < ss[k].length := by omega
          clear hsn e1 hf hfin
          go_wp2_with fail
          refine bodyPost_ret (results_none rfl _ _ _) rfl ?_
          refine ⟨rfl, ?_⟩
          rw [HFN.out]
          exact AtM.trans HST.out (HW2.out.fail 2)
      · have hb : (ek == 0) = false := by simpa using he
        have hfin := hstop he
        have HFN := Lib.hid hfin
        have HST := Lib.hid hst2
        have HW2 := Lib.hid hw2
        have HE := Lib.hid he
        clear hst2 hw2 hfin hstop hsn hsk he hbl hbt
        go_wp2_with fail
        go_end0
        refine ⟨rfl, ?_⟩
        rw [HFN.out]
        exact ⟨A2, c2, HW2.out, HST.out⟩
    · obtain rfl : k = n := by omega
      have HW := Lib.hid hw2
      have HST := Lib.hid hst2
      clear hw2 hst2
      go_wp2
      go_end0
      have : ss.take k = ss := List.take_of_length_le (by rw [HL.out]; exact Nat.le_refl _)
      have hw := HW.out
      rw [this] at hw
      exact ⟨rfl, A2, c2, hw, HST.out⟩

set_option maxHeartbeats 1000000 in
theorem vtext_err (B g : Nat) (e : Int) (bs : List UInt8) (A : Option Addr) (c : Nat) (An : Option Addr) (n cn : Nat) (w : World) (h : Wm w B g e A c bs) (he : e ≠ 0) (hnn : n ≤ 140737488355328) :
    Calls Tryz.prog 70 #[.pointer (some ⟨g, 0, none⟩), .slice An n cn] w (WroteM w B g A e bs) := by
  have hc0 := h.cell1
  have hb : (e == 0) = false := by simpa using he
  have H := Lib.hid h
  clear h he
  go_enter Tryz.func70, Tryz.ntmps70
  go_wp2_with fail
  go_loopw [4] (fun i wr => i = .int .i64 0 ∧ wr = w) (fun i _ => n - (intOf i).toNat)
  case atStart => exact ⟨rfl, rfl⟩
  case round =>
    obtain ⟨rfl, rfl⟩ := hrel
    by_cases hlt : 0 < n
    · go_wp2
      go_end0
      exact ⟨rfl, A, c, H.out, Step.refl _ _ _⟩
    · obtain rfl : n = 0 := by omega
      go_wp2
      go_end0
      exact ⟨rfl, A, c, H.out, Step.refl _ _ _⟩

theorem vtext_any (B g : Nat) (s : St) (A : Option Addr) (c : Nat) (An : Option Addr) (n cn : Nat) (ss : List (List UInt8)) (w : World) (h : Wm w B g s.1 A c s.2)
    (hx : Src w (fun k => k ≠ g ∧ row A ≠ some k) An n cn (strs ss)) (hn : s.2.length + room ss ≤ 140737488355328) :
    Calls Tryz.prog 70 #[.pointer (some ⟨g, 0, none⟩), .slice An n cn] w (WroteM w B g A (wTexts ss s).1 (wTexts ss s).2) := by
  obtain ⟨e, bs⟩ := s
  by_cases he : e = 0
  · subst he
    exact vtext_ok B g bs A c An n cn ss w h hx hn
  · have hl : ss.length = n := by have := hx.len; simpa [strs] using this
    rw [wTexts_err ss (e, bs) he]
    exact vtext_err B g e bs A c An n cn w h he (by have := room_ge ss; omega)
end Go.Proofs.YtfljignkjmabpaaGreat

namespace Go.Proofs.YtfljignkjmabpaaGreat
set_option maxRecDepth 100000
set_option linter.unusedSimpArgs false
set_option linter.unusedVariables false
open Go.RowKit

theorem val_i64 (l : List UInt8) : I64 (val l) := by unfold val I64 wrap64; omega
theorem rNum_i64 (size : Int) (s : St) : I64 (rNum size s).1 := by
  unfold rNum
  split
  · exact val_i64 _
  · unfold I64; simp
theorem val_digs' (n : Int) (size : Nat) (hs : sized size = true) (hf : fitB size n = true) (hi : I64 n) : val (digs n size) = n := by
  have hs' : size = 1 ∨ size = 2 ∨ size = 4 ∨ size = 8 := by simp only [sized, decide_eq_true_eq] at hs; omega
  have d0 := dig_val n 0
  have d1 := dig_val n 1
  have d2 := dig_val n 2
  have d3 := dig_val n 3
  have d4 := dig_val n 4
  have d5 := dig_val n 5
  have d6 := dig_val n 6
  have d7 := dig_val n 7
  simp only [Nat.mul_zero, Nat.reduceMul, Int.reducePow] at d0 d1 d2 d3 d4 d5 d6 d7
  unfold I64 at hi
  rcases hs' with rfl | rfl | rfl | rfl
  · simp [fitB] at hf
    simp only [digs, show List.range 1 = [0] from rfl, List.map, val, valN, wrap64]
    omega
  · simp [fitB] at hf
    simp only [digs, show List.range 2 = [0, 1] from rfl, List.map, val, valN, wrap64]
    omega
  · simp [fitB] at hf
    simp only [digs, show List.range 4 = [0, 1, 2, 3] from rfl, List.map, val, valN, wrap64]
    omega
  · simp only [digs, show List.range 8 = [0, 1, 2, 3, 4, 5, 6, 7] from rfl, List.map, val, valN, wrap64]
    omega
theorem rTake_app' (n : Nat) (l rest : List UInt8) (h : l.length = n) : rTake n (0, l ++ rest) = (l, (0, rest)) := by
  subst h
  unfold rTake
  simp
theorem rNum_back' (n : Int) (size : Nat) (rest : List UInt8) (hs : sized size = true) (hf : fitB size n = true) (hi : I64 n) : rNum size (0, digs n size ++ rest) = (n, (0, rest)) := by
  have h := val_digs' n size hs hf hi
  unfold rNum
  rw [if_pos hs, Int.toNat_natCast, rTake_app' size _ rest (digs_len n size)]
  show (val (digs n size), ((0, rest) : St)) = _
  rw [h]
def encNums (size : Nat) (ns : List Int) : List UInt8 := ns.flatMap fun n => digs n size
def encText (size : Nat) (l : List UInt8) : List UInt8 := digs l.length size ++ l
def encTexts (ss : List (List UInt8)) : List UInt8 := ss.flatMap (encText 2)
/-- The length ahead of a piece. -/
theorem len_digs (size most : Nat) (l : List UInt8) (hs : sized size = true) (h4 : size ≤ 4) (hf : ∀ k : Nat, k ≤ most → fitB size k = true) (hm : most ≤ 1048576) (hl : l.length ≤ most) : valN (digs l.length size) = l.length := by
  have h1 := val_digs' (l.length : Int) size hs (hf _ hl) (by unfold I64; omega)
  have h2 := val_small (digs l.length size) (by rw [digs_len]; exact h4)
  rw [h1] at h2
  omega
theorem rMeas_back (size most : Nat) (l rest : List UInt8) (hs : sized size = true) (h4 : size ≤ 4) (hf : ∀ k : Nat, k ≤ most → fitB size k = true) (hm : most ≤ 1048576) (hl : l.length ≤ most) :
    rMeas size most (0, encText size l ++ rest) = (l, (0, rest)) := by
  have hd := digs_len (l.length : Int) size
  have hv := len_digs size most l hs h4 hf hm hl
  have e : encText size l ++ rest = digs l.length size ++ (l ++ rest) := by simp [encText]
  have ht : (digs l.length size ++ (l ++ rest)).take size = digs l.length size := List.take_left' hd
  have hdr : (digs l.length size ++ (l ++ rest)).drop size = l ++ rest := List.drop_left' hd
  unfold rMeas
  rw [e]
  simp only [ht, hdr, hv, if_true, List.length_append, hd]
  rw [if_neg (by omega), if_neg (by omega), if_neg (by omega), List.take_left' rfl, List.drop_left' rfl]
theorem wMeas_ok (size most : Nat) (l bs : List UInt8) (h : (wMeas size most l (0, bs)).1 = 0) : wMeas size most l (0, bs) = (0, bs ++ encText size l) ∧ l.length ≤ most := by
  by_cases hl : l.length ≤ most
  · exact ⟨by simp [wMeas, hl, encText], hl⟩
  · simp [wMeas, hl] at h
theorem rNum_stick (size : Int) (s : St) (h : s.1 ≠ 0) : (rNum size s).2 = s := by
  unfold rNum
  split
  · show (rTake size.toNat s).2 = s
    simp [rTake, h]
  · simp
theorem rMeas_stick (size most : Nat) (s : St) (h : s.1 ≠ 0) : (rMeas size most s).2 = s := by simp [rMeas, h]
theorem valN_div (l : List UInt8) : ∀ (i : Nat) (h : i < l.length), valN l / 256 ^ i % 256 = l[i].toNat := by
  induction l with
  | nil => intro i h; simp at h
  | cons b l ih =>
    intro i h
    have hb := b.toNat_lt
    cases i with
    | zero =>
      simp only [valN, Nat.pow_zero, Nat.div_one, List.getElem_cons_zero]
      omega
    | succ i =>
      have e : valN (b :: l) / 256 ^ (i + 1) = valN l / 256 ^ i := by
        rw [Nat.pow_succ, Nat.mul_comm, ← Nat.div_div_eq_div_mul]
        congr 1
        simp only [valN]
        omega
      rw [e, List.getElem_cons_succ]
      exact ih i (by simpa using h)
theorem wrap_div (x : Int) (i : Nat) (h : i < 8) : wrap64 x / 2 ^ (8 * i) % 256 = x / 2 ^ (8 * i) % 256 := by
  have h' : i = 0 ∨ i = 1 ∨ i = 2 ∨ i = 3 ∨ i = 4 ∨ i = 5 ∨ i = 6 ∨ i = 7 := by omega
  unfold wrap64
  rcases h' with rfl | rfl | rfl | rfl | rfl | rfl | rfl | rfl
  all_goals
    simp only [Nat.mul_zero, Nat.reduceMul, Int.reducePow]
    omega
theorem dig_of_val (l : List UInt8) (i : Nat) (h : i < l.length) (h8 : i < 8) : dig (val l) i = l[i] := by
  have h1 := dig_val (val l) i
  unfold val at h1
  rw [wrap_div _ i h8] at h1
  have hp : (2 : Int) ^ (8 * i) = ((256 ^ i : Nat) : Int) := by
    rw [show (256 : Nat) = 2 ^ 8 from rfl, ← Nat.pow_mul]
    simp
  rw [hp] at h1
  have h2 := valN_div l i h
  have h3 : ((valN l : Int) / ((256 ^ i : Nat) : Int)) % 256 = ((valN l / 256 ^ i % 256 : Nat) : Int) := by
    rw [Int.natCast_emod, Int.natCast_ediv]
    rfl
  rw [h3, h2] at h1
  exact UInt8.toNat_inj.1 (by show (dig (wrap64 (valN l)) i).toNat = _; omega)
/-- The bytes of the number of some bytes are these bytes; and it fits. -/
theorem digs_val (l : List UInt8) (size : Nat) (hs : sized size = true) (hl : l.length = size) : digs (val l) size = l ∧ fitB size (val l) = true := by
  have hs' : size = 1 ∨ size = 2 ∨ size = 4 ∨ size = 8 := by simp only [sized, decide_eq_true_eq] at hs; omega
  constructor
  · refine List.ext_getElem (by rw [digs_len, hl]) fun i h1 h2 => ?_
    have hi : i < 8 := by omega
    have e : (digs (val l) size)[i] = dig (val l) i := by simp [digs]
    rw [e]
    exact dig_of_val l i h2 hi
  · have h1 := valN_lt l
    rw [hl] at h1
    rcases hs' with rfl | rfl | rfl | rfl
    · rw [val_small l (by omega)]
      simp at h1
      simp [fitB]
      omega
    · rw [val_small l (by omega)]
      simp at h1
      simp [fitB]
      omega
    · rw [val_small l (by omega)]
      simp at h1
      simp [fitB]
      omega
    · simp [fitB]
/-- A number that was read without a fault is put as it stood. -/
theorem num_form (size : Int) (s : St) (bs : List UInt8) (h : (rNum size s).2.1 = 0) : ∃ d, s.2 = d ++ (rNum size s).2.2 ∧ wNumsA size [(rNum size s).1] (0, bs) = (0, bs ++ d) := by
  by_cases hs : sized size = true
  · obtain ⟨k, rfl⟩ : ∃ k : Nat, size = k := ⟨size.toNat, by simp only [sized, decide_eq_true_eq] at hs; omega⟩
    unfold rNum at h ⊢
    rw [if_pos hs, Int.toNat_natCast] at h ⊢
    simp only at h ⊢
    unfold rTake at h ⊢
    by_cases h0 : s.1 = 0
    · rw [if_pos h0] at h ⊢
      by_cases h1 : k ≤ s.2.length
      · rw [if_pos h1] at h ⊢
        obtain ⟨e1, e2⟩ := digs_val (s.2.take k) k hs (by rw [List.length_take]; omega)
        refine ⟨s.2.take k, (List.take_append_drop k s.2).symm, ?_⟩
        unfold wNumsA
        rw [if_pos hs, Int.toNat_natCast]
        show wNum1 k (val (s.2.take k)) (0, bs) = _
        unfold wNum1
        rw [if_pos rfl, if_pos e2, e1]
      · rw [if_neg h1] at h
        exact absurd h (show ¬ (11 : Int) = 0 by decide)
    · rw [if_neg h0] at h
      exact absurd h h0
  · unfold rNum at h
    rw [if_neg hs] at h
    by_cases h0 : s.1 = 0
    · rw [if_pos h0] at h
      exact absurd h (show ¬ (1 : Int) = 0 by decide)
    · rw [if_neg h0] at h
      exact absurd h h0
theorem meas_form (size most : Nat) (s : St) (bs : List UInt8) (hs : sized size = true) (h4 : size ≤ 4) (h : (rMeas size most s).2.1 = 0) :
    ∃ d, s.2 = d ++ (rMeas size most s).2.2 ∧ wMeas size most (rMeas size most s).1 (0, bs) = (0, bs ++ d) ∧ d.length = size + (rMeas size most s).1.length := by
  unfold rMeas at h ⊢
  by_cases h0 : s.1 = 0
  · rw [if_pos h0] at h ⊢
    by_cases h1 : s.2.length < size
    · rw [if_pos h1] at h
      exact absurd h (show ¬ (11 : Int) = 0 by decide)
    rw [if_neg h1] at h ⊢
    by_cases h2 : most < valN (s.2.take size)
    · rw [if_pos h2] at h
      exact absurd h (show ¬ (2 : Int) = 0 by decide)
    rw [if_neg h2] at h ⊢
    by_cases h3 : s.2.length - size < valN (s.2.take size)
    · rw [if_pos h3] at h
      exact absurd h (show ¬ (11 : Int) = 0 by decide)
    rw [if_neg h3] at h ⊢
    have htl : (s.2.take size).length = size := by rw [List.length_take]; omega
    obtain ⟨e1, _⟩ := digs_val (s.2.take size) size hs htl
    have e2 := val_small (s.2.take size) (by omega)
    rw [e2] at e1
    generalize hN : valN (s.2.take size) = N at *
    have hl : ((s.2.drop size).take N).length = N := by rw [List.length_take, List.length_drop]; omega
    refine ⟨s.2.take size ++ (s.2.drop size).take N, ?_, ?_, ?_⟩
    · show s.2 = _ ++ (s.2.drop size).drop N
      rw [List.append_assoc, List.take_append_drop, List.take_append_drop]
    · show wMeas size most ((s.2.drop size).take N) (0, bs) = _
      unfold wMeas
      rw [if_pos rfl, if_pos (by rw [hl]; omega), hl, e1, List.append_assoc]
    · show (s.2.take size ++ (s.2.drop size).take N).length = size + ((s.2.drop size).take N).length
      rw [List.length_append, htl]
  · rw [if_neg h0] at h
    exact absurd h h0
end Go.Proofs.YtfljignkjmabpaaGreat

namespace Go.Proofs.YtfljignkjmabpaaGreat.Siv
set_option maxRecDepth 100000
set_option linter.unusedSimpArgs false
set_option linter.unusedVariables false
open Go.RowKit

abbrev u32v (x : UInt32) : Value := .int .u32 (x.toNat : Int)
abbrev u32n (k : Nat) : Value := .int .u32 (k : Int)
abbrev u64v (x : UInt64) : Value := .int .u64 (x.toNat : Int)
def step (h : UInt32) (b : UInt8) : UInt32 := h * 33 + b.toUInt32
def hashFrom (h : UInt32) (l : List UInt8) : UInt32 := l.foldl step h
theorem hashFrom_take (h : UInt32) (l : List UInt8) (k : Nat) (hk : k < l.length) : hashFrom h (l.take (k + 1)) = step (hashFrom h (l.take k)) l[k] := by
  unfold hashFrom
  rw [List.take_succ_eq_append_getElem hk, List.foldl_append]
  rfl
theorem step_val (h : UInt32) (b : UInt8) : ((step h b).toNat : Int) = (((h.toNat : Int) * 33 % 4294967296 + (b.toNat : Int) % 4294967296) % 4294967296) := by
  simp [step]
theorem step_eq (h : UInt32) (b : UInt8) : Value.int .u32 (((h.toNat : Int) * 33 % 4294967296 + (b.toNat : Int) % 4294967296) % 4294967296) = u32v (step h b) := by rw [u32v, step_val]
theorem more_any (h : UInt32) (s : ByteArray) (w : World) (hs : s.size ≤ 9223372036854775807) :
    Calls Tryz.prog 206 #[u32v h, .string s] w fun e w' => e = .returned (u32v (hashFrom h s.data.toList)) ∧ w = w' := by
  go_enter Tryz.func206, Tryz.ntmps206
  go_wp2
  go_loop [0, 5, 8] (fun t _ i => ∃ k : Nat, k ≤ s.size ∧ i = .int .i64 k ∧ t = u32v (hashFrom h (s.data.toList.take k))) (fun _ _ i => s.size - (intOf i).toNat)
  case atStart => exact ⟨0, Nat.zero_le _, rfl, rfl⟩
  case round =>
    obtain ⟨k, hk, rfl, rfl⟩ := hrel
    go_wp2
    · have hlt : k < s.size := by assumption
      go_round
      case rel => exact ⟨k + 1, by omega, by go_num, by rw [hashFrom_take h _ k (by simpa using hlt)]; exact step_eq _ _⟩
      case measure => simp [intOf]; omega
    · obtain rfl : k = s.size := by omega
      go_ret
      rw [List.take_of_length_le (by simp)]
      exact ⟨rfl, rfl⟩

theorem hash_any (s : ByteArray) (w : World) (hs : s.size ≤ 9223372036854775807) :
    Calls Tryz.prog 178 #[.string s] w fun e w' => e = .returned (u32v (hashFrom 5381 s.data.toList)) ∧ w = w' := by
  go_enter Tryz.func178, Tryz.ntmps178
  go_wp2_with (go_at_call 206; refine (more_any 5381 s _ hs).mono ?_; rintro e w' ⟨rfl, rfl⟩)
  go_ret
  exact ⟨rfl, rfl⟩

theorem rmore_any (h : UInt32) (s : ByteArray) (w : World) (hs : s.size ≤ 9223372036854775807) :
    Calls Tryz.prog 161 #[u32v h, .string s] w fun e w' => e = .returned (u32v (hashFrom h s.data.toList)) ∧ w = w' := by
  have h0 := h.toNat_lt
  go_enter Tryz.func161, Tryz.ntmps161
  go_wp2
  go_loop [5, 6] (fun t i => ∃ k : Nat, k ≤ s.size ∧ i = .int .i64 k ∧ t = .int .u64 ((hashFrom h (s.data.toList.take k)).toNat : Int)) (fun _ i => s.size - (intOf i).toNat)
  case atStart => exact ⟨0, Nat.zero_le _, rfl, by simp [hashFrom]⟩
  case round =>
    obtain ⟨k, hk, rfl, rfl⟩ := hrel
    have h32 := (hashFrom h (s.data.toList.take k)).toNat_lt
    have h8 : ∀ hk : k < s.size, s[k].toNat < 256 := fun hk => s[k].toNat_lt
    go_wp2
    · have hlt : k < s.size := by assumption
      go_round
      case rel => exact ⟨k + 1, by omega, by go_num, by rw [hashFrom_take h _ k (by simpa using hlt), step_val]; have := h8 hlt; have e : s.data.toList[k]'(by simpa using hlt) = s[k] := rfl; rw [e]; congr 1; rw [IntKind.wrap_u64, IntKind.wrap_u64, tmod_of_emod]; omega⟩
      case measure => simp [intOf]; omega
    · obtain rfl : k = s.size := by omega
      go_ret
      rw [List.take_of_length_le (by simp)]
      exact ⟨rfl, rfl⟩

theorem rhash_any (s : ByteArray) (w : World) (hs : s.size ≤ 9223372036854775807) :
    Calls Tryz.prog 98 #[.string s] w fun e w' => e = .returned (u32v (hashFrom 5381 s.data.toList)) ∧ w = w' := by
  go_enter Tryz.func98, Tryz.ntmps98
  go_wp2_with (go_at_call 161; refine (rmore_any 5381 s _ hs).mono ?_; rintro e w' ⟨rfl, rfl⟩)
  go_ret
  exact ⟨rfl, rfl⟩

/-! Bits of words. -/
def bit (k : Nat) : UInt64 := UInt64.ofNat (2 ^ k)
theorem pow64 (k : Nat) (hk : k < 64) : (2 : Int) ^ k < 18446744073709551616 ∧ 1 ≤ (2 : Int) ^ k := by
  have h1 : (2 : Nat) ^ k < 2 ^ 64 := Nat.pow_lt_pow_right (by omega) hk
  have h2 : 1 ≤ (2 : Nat) ^ k := Nat.one_le_two_pow
  have e : ((2 ^ k : Nat) : Int) = (2 : Int) ^ k := by simp
  omega
theorem bit_val (k : Nat) (hk : k < 64) : ((bit k).toNat : Int) = 2 ^ k := by
  have : (2 : Nat) ^ k < 2 ^ 64 := Nat.pow_lt_pow_right (by omega) hk
  have e : ((2 ^ k : Nat) : Int) = (2 : Int) ^ k := by simp
  rw [← e, bit, UInt64.toNat_ofNat', Nat.mod_eq_of_lt this]
theorem power_any (k : Nat) (w : World) (hk : k < 64) :
    Calls Tryz.prog 93 #[u32n k] w fun e w' => e = .returned (u64v (bit k)) ∧ w = w' := by
  go_enter Tryz.func93, Tryz.ntmps93
  go_wp2
  go_loop [3, 4] (fun t i => ∃ j : Nat, j ≤ k ∧ i = .int .u32 (j : Int) ∧ t = u64v (bit j)) (fun _ i => k - (intOf i).toNat)
  case atStart => exact ⟨0, Nat.zero_le _, rfl, rfl⟩
  case round =>
    obtain ⟨j, hj, rfl, rfl⟩ := hrel
    go_wp2
    · have hlt : j < k := by assumption
      go_round
      case rel => exact ⟨j + 1, by omega, by go_num, by rw [u64v, bit_val (j + 1) (by omega), bit_val j (by omega), IntKind.wrap_u64]; have := pow64 (j + 1) (by omega); congr 1; omega⟩
      case measure => simp [intOf]; omega
    · obtain rfl : j = k := by omega
      go_ret
      exact ⟨rfl, rfl⟩

theorem bit_nat (k : Nat) (hk : k < 64) : (bit k).toNat = 2 ^ k := by
  have := bit_val k hk
  have e : ((2 ^ k : Nat) : Int) = (2 : Int) ^ k := by simp
  omega
def has (x : UInt64) (k : Nat) : Bool := x.toNat.testBit k
theorem has_val (x : UInt64) (k : Nat) (hk : k < 64) : ((IntKind.u64.wrap ((x.toNat : Int) / ((bit k).toNat : Int))).tmod 2 == 1) = has x k := by
  rw [bit_nat k hk, IntKind.wrap_u64, tmod_of_emod, has, Nat.testBit_eq_decide_div_mod_eq]
  have h := x.toNat_lt
  have hd : x.toNat / 2 ^ k ≤ x.toNat := Nat.div_le_self _ _
  have e : (x.toNat : Int) / ((2 ^ k : Nat) : Int) = ((x.toNat / 2 ^ k : Nat) : Int) := by simp
  rw [e, Bool.eq_iff_iff]
  simp only [beq_iff_eq, decide_eq_true_eq]
  omega
theorem rhas_any (x : UInt64) (k : Nat) (w : World) (hk : k < 64) :
    Calls Tryz.prog 92 #[u64v x, u32n k] w fun e w' => e = .returned (.bool (has x k)) ∧ w = w' := by
  have hb := Lib.hid (has_val x k hk)
  have h1 : (1 : Int) ≤ ((bit k).toNat : Int) := by rw [bit_val k hk]; exact (pow64 _ hk).2
  have h2 := x.toNat_lt
  go_enter Tryz.func92, Tryz.ntmps92
  go_wp2_with (go_at_call 93; refine (power_any k _ hk).mono ?_; rintro e w' ⟨rfl, rfl⟩)
  go_ret
  rw [← hb.out]
  exact ⟨rfl, rfl⟩

theorem or_bit (x : UInt64) (k : Nat) (hk : k < 64) (h : has x k = true) : x ||| bit k = x := by
  apply UInt64.toNat_inj.1
  rw [UInt64.toNat_or, bit_nat k hk]
  apply Nat.eq_of_testBit_eq
  intro i
  rw [Nat.testBit_or, Nat.testBit_two_pow]
  by_cases hi : k = i
  · subst hi; rw [show x.toNat.testBit k = true from h]; rfl
  · simp [hi]
theorem add_bit (x : UInt64) (k : Nat) (hk : k < 64) (h : has x k = false) : x ||| bit k = x + bit k := by
  apply UInt64.toBitVec_inj.1
  rw [UInt64.toBitVec_or, UInt64.toBitVec_add, BitVec.add_eq_or_of_and_eq_zero]
  apply BitVec.eq_of_toNat_eq
  rw [BitVec.toNat_and]
  show x.toNat &&& (bit k).toNat = 0
  rw [bit_nat k hk, nat_bit]
  rw [has, Nat.testBit_eq_decide_div_mod_eq] at h
  have : ¬ (x.toNat / 2 ^ k % 2 = 1) := by simpa using h
  have : x.toNat / 2 ^ k % 2 = 0 := by omega
  rw [this]
  simp
theorem rwith_any (x : UInt64) (k : Nat) (w : World) (hk : k < 64) :
    Calls Tryz.prog 25 #[u64v x, u32n k] w fun e w' => e = .returned (u64v (x ||| bit k)) ∧ w = w' := by
  by_cases h : has x k = true
  · have H := Lib.hid h
    go_enter Tryz.func25, Tryz.ntmps25
    go_wp2_with (go_at_call 92; refine (rhas_any x k _ hk).mono ?_; rw [H.out]; rintro e w' ⟨rfl, rfl⟩)
    go_ret
    rw [or_bit x _ hk h]
    exact ⟨rfl, rfl⟩
  · have h' : has x k = false := by simpa using h
    have H := Lib.hid h'
    clear h h'
    go_enter Tryz.func25, Tryz.ntmps25
    go_wp2_with (first
      | (go_at_call 92; refine (rhas_any x k _ hk).mono ?_; rw [H.out]; rintro e w' ⟨rfl, rfl⟩)
      | (go_at_call 93; refine (power_any k _ hk).mono ?_; rintro e w' ⟨rfl, rfl⟩))
    go_ret
    have e : u64v (x + bit k) = Value.int .u64 (IntKind.u64.wrap ((x.toNat : Int) + ((bit k).toNat : Int))) := by
      rw [u64v, IntKind.wrap_u64, UInt64.toNat_add]
      congr 1
    rw [add_bit x _ hk H.out, e]
    exact ⟨rfl, rfl⟩

theorem half {a b : Nat} (hx : a / 2 ^ b < 4294967296) : Value.int .u32 (((a : Int) / 2 ^ b).tdiv 2 % 4294967296) = .int .u32 ((a / 2 ^ b / 2 : Nat) : Int) := by
  have e : (a : Int) / 2 ^ b = ((a / 2 ^ b : Nat) : Int) := by simp
  rw [e, Int.tdiv_eq_ediv_of_nonneg (Int.natCast_nonneg _)]
  generalize a / 2 ^ b = z at hx ⊢
  congr 1
  omega
theorem rshifted_any (h : UInt32) (s : Int) (w : World) (hs : 0 ≤ s) (hs2 : s ≤ 31) :
    Calls Tryz.prog 26 #[u32v h, .int .i64 s] w fun e w' => e = .returned (.int .u32 ((h.toNat / 2 ^ s.toNat : Nat) : Int)) ∧ w = w' := by
  have h32 := h.toNat_lt
  go_enter Tryz.func26, Tryz.ntmps26
  go_wp2
  go_loop [0, 5] (fun t i => ∃ j : Nat, j ≤ s.toNat ∧ i = .int .i64 (j : Int) ∧ t = .int .u32 ((h.toNat / 2 ^ j : Nat) : Int)) (fun _ i => s.toNat - (intOf i).toNat)
  case atStart => exact ⟨0, Nat.zero_le _, rfl, by simp⟩
  case round =>
    obtain ⟨j, hj, rfl, rfl⟩ := hrel
    have hd : h.toNat / 2 ^ j ≤ h.toNat := Nat.div_le_self _ _
    have hd' : h.toNat / 2 ^ j < 4294967296 := by omega
    have hn : (h.toNat / 2 ^ (j + 1) : Nat) = (h.toNat / 2 ^ j) / 2 := by rw [Nat.pow_succ, ← Nat.div_div_eq_div_mul]
    have HN := Lib.hid hn
    clear hn
    go_wp2
    · have hlt : (j : Int) < s := by assumption
      go_round
      case rel => exact ⟨j + 1, by omega, by go_num, by rw [HN.out]; exact half hd'⟩
      case measure => simp [intOf]; omega
    · obtain rfl : j = s.toNat := by omega
      go_ret
      exact ⟨rfl, rfl⟩

def pow7 (n : Int) : Bool := decide (n = 1 ∨ n = 2 ∨ n = 4 ∨ n = 8 ∨ n = 16 ∨ n = 32 ∨ n = 64)
def formB (n s : Int) : Bool := pow7 n && (decide (1 ≤ s) && decide (s ≤ 31))
theorem pow_all : ∀ k : Fin 65, 0 < k.val → (bits .and .i64 (k.val : Int) ((k.val : Int) - 1) == 0) = pow7 (k.val : Int) := by decide +kernel
theorem pow_and (n : Int) (h0 : 0 < n) (h1 : n ≤ 64) : (bits .and .i64 n (n - 1) == 0) = pow7 n := by
  have := pow_all ⟨n.toNat, by omega⟩ (by simp; omega)
  simpa [show ((n.toNat : Nat) : Int) = n by omega] using this
theorem pow_big (n : Int) (h : ¬ (0 < n ∧ n ≤ 64)) : pow7 n = false := by
  simp [pow7]
  omega
theorem isForm_any (n s : Int) (w : World) (hn : -9223372036854775808 ≤ n ∧ n ≤ 9223372036854775807) : Calls Tryz.prog 202 #[.int .i64 n, .int .i64 s] w fun e w' => e = .returned (.bool (formB n s)) ∧ w = w' := by
  by_cases h0 : 0 < n
  · by_cases h1 : n ≤ 64
    · have hb : (bits .and .i64 n (n - 1) == 0) = pow7 n := pow_and n h0 h1
      cases hp : pow7 n
      · rw [hp] at hb
        go_enter Tryz.func202, Tryz.ntmps202
        go_wp2
        go_ret
        simp [formB, hp]
      · rw [hp] at hb
        by_cases h2 : 1 ≤ s
        · go_enter Tryz.func202, Tryz.ntmps202
          go_wp2
          go_ret
          simp [formB, hp, h2]
        · go_enter Tryz.func202, Tryz.ntmps202
          go_wp2
          go_ret
          have h3 : decide (1 ≤ s) = false := by simpa using h2
          simp only [formB, h3]
          simp
    · have hp := Lib.hid (pow_big n (by omega))
      go_enter Tryz.func202, Tryz.ntmps202
      go_wp2
      all_goals
        go_ret
        simp [formB, hp.out]
  · have hp := Lib.hid (pow_big n (by omega))
    go_enter Tryz.func202, Tryz.ntmps202
    go_wp2
    go_ret
    simp [formB, hp.out]

end Go.Proofs.YtfljignkjmabpaaGreat.Siv
