/-
  The laws' helpers Lent and Back: bytes in a list of their own with marks behind them, looked at and written over.
  The laws' helper Owned: rows that lie apart, marked and looked at.
-/
import Derived.Test.YthbdncojekpanaaDp
import Derived.Laws.CopyOwn
import Derived.ArgAppend
namespace Go.Proofs.Ythbdncojekpanaa
section
open Go.RowKit

theorem grown_set (w : World) (g i : Nat) (u : Value) : w.grownBy (w.setCell ⟨g, i, none⟩ u) (some g) :=
  ⟨rfl, rfl, rfl, by simp [World.setCell], fun k _ hne => heap_setCell_other _ _ _ _ (fun e => hne (by rw [show k = g from e]))⟩
theorem Try.info_byte : (Try.prog.info? 5).map (fun i => (i.zero, i.size, i.bytes)) = some (some (.int .u8 0), 1, 1) := by kernel_rfl
def marks (k : Nat) : List Value := List.replicate k (.int .u8 201)
/-- The cells of lent bytes. -/
def lentCells (l : List UInt8) : List Value := cells l ++ marks 3
def LentAt (w : World) (l : List UInt8) (en : Ending) (w' : World) : Prop :=
  ∃ g, en = .returned (.slice (some ⟨g, 0, none⟩) l.length (l.length + 3)) ∧ w'.heap[g]? = some (.cells (lentCells l).toArray 5 (0, 0)) ∧ Below w.heap.size w w' ∧ w.heap.size ≤ g

theorem set_mid (a : List Value) (x v : Value) (b : List Value) : (a ++ x :: b).toArray.setIfInBounds a.length v = (a ++ v :: b).toArray := by
  apply Array.ext'
  simp

theorem own_cellsB {w : World} {B n g c : Nat} {xs : List Value} (h : w.ownsRow B 5 1 (.slice (some ⟨g, 0, none⟩) n c) n xs) : ∃ cur : List Value, w.heap[g]? = some (.cells cur.toArray 5 (0, 0)) ∧ cur.length = c := by
  rcases h.2 with ⟨h1, _⟩ | ⟨g', cap, cur, hv, _, hh, _, _, hs, _⟩
  · cases h1
  · injection hv with h1 _ h3
    injection h1 with h1
    injection h1 with h1
    subst h1 h3
    exact ⟨cur.toList, by simpa using hh, by simpa using hs⟩
theorem below_of_grown {w w' : World} (h : w.grownBy w' none) : Below w.heap.size w w' := ⟨h.os, h.tape, h.output, h.size, fun k hk => h.block k hk (by intro e; cases e)⟩

theorem src_pos {w w1 : World} {P : Nat → Prop} {A : Option Addr} {n c g : Nat} {xs : List Value} (h : Src w P A n c xs) (hg : w.grownBy w1 none) (h0 : 0 < xs.length) :
    some (⟨g, 0, none⟩ : Addr) = some ⟨g, 0, none⟩ ∧ ∃ ad, A = some ad ∧ ∀ j v, xs[j]? = some v → w1.cell? (ad.add j) = some v := by
  refine ⟨rfl, ?_⟩
  cases A with
  | none => have := (h.nil rfl).1; have := h.len; omega
  | some ad => exact ⟨ad, rfl, (h.keep (w' := w1) fun k _ hk => hg.block k hk (by intro e; cases e)).at_ ad rfl⟩

set_option maxRecDepth 100000 in
set_option maxHeartbeats 1000000 in
theorem lent_any (P : Nat → Prop) (A : Option Addr) (n c : Nat) (l : List UInt8) (w : World) (h : Src w P A n c (cells l)) (hn : n ≤ 140737488351232) :
    Calls Try.prog 16 #[.slice A n c] w (LentAt w l) := by
  have hl : l.length = n := by have := h.len; simpa [cells_len] using this
  subst hl
  obtain ⟨i0, hi, hz0, hz1, hz2⟩ := info_parts Try.info_byte
  have m1 : i0.bytes * (l.length + 3) ≤ 281474976710656 := by rw [hz2]; omega
  have m2 : l.length + 3 ≤ maxLen := by simp only [maxLen]; omega
  have ho := cells_one l
  have HX := Lib.hid h
  clear h
  go_enter Try.func16, Try.ntmps16
  go_wp2_with (first
    | (refine wpList_make_full _ rfl (.tmp 7) (.tmp 7) 31 rfl w.heap.size 5 i0 (.int .u8 0) 1 Try.underlying31 hi hz0 hz1 .i64 .i64 _ _ (l.length + 3) rfl rfl (by simp) (by simp) m1 m2 (Nat.le_refl _) ?_; intro w1 hown hg1; obtain ⟨cur, hcur, hcl⟩ := own_cellsB hown; have HG1 := Lib.hid hg1; have HCU := Lib.hid hcur; have HCL := Lib.hid hcl; clear hown hg1 hcur hcl)
    | (refine wpList_copy_splice rfl (.tmp 9) (.tmp 10) 31 31 rfl 5 Try.underlying31 Try.one_byte _ _ (l.length + 3) (l.length + 3) l.length c rfl rfl w.heap.size 0 cur 5 HCU.out (cells l) (by rw [cells_len]; show _ = min l.length (l.length + 3); omega) (fun h0 => src_pos HX.out HG1.out h0) (by rw [cells_len, HCL.out]; omega) ho w.heap.size w (below_of_grown HG1.out) (Nat.le_refl _) ?_; intro w2 hh2 hb2; have HB2 := Lib.hid hb2; clear hb2))
  have hs : splice cur 0 (cells l) = cells l ++ cur.drop l.length := by simp [splice, cells_len]
  rw [hs] at hh2
  have hdl : (cur.drop l.length).length = 3 := by rw [List.length_drop, HCL.out]; omega
  generalize cur.drop l.length = tl0 at *
  have HD := Lib.hid hdl
  have HH2 := Lib.hid hh2
  clear hh2 hs hdl
  go_loopw [4] (fun i wr => ∃ (k : Nat) (tl : List Value), k ≤ 3 ∧ tl.length = 3 - k ∧ i = .int .i64 (l.length + k : Nat) ∧ wr.heap[w.heap.size]? = some (.cells (cells l ++ (marks k ++ tl)).toArray 5 (0, 0)) ∧ Below w.heap.size w wr) (fun i _ => l.length + 3 - (intOf i).toNat)
  case atStart => exact ⟨0, tl0, by omega, HD.out, rfl, HH2.out.out, HB2.out⟩
  case round =>
    obtain ⟨k, tl, hk, htl, rfl, hh, hb⟩ := hrel
    have HB := Lib.hid hb
    by_cases hlt : k < 3
    · obtain ⟨x, tl', rfl⟩ : ∃ x tl', tl = x :: tl' := by
        cases tl with
        | nil => simp at htl; omega
        | cons x tl' => exact ⟨x, tl', rfl⟩
      have hc : wr.cell? ⟨w.heap.size, l.length + k, none⟩ = some x := by
        rw [cell_of_row wr w.heap.size (l.length + k) _ _ _ hh]
        simp [marks, cells_len]
      have hf : wr.frozen? ⟨w.heap.size, l.length + k, none⟩ = false := frozen_of_row wr w.heap.size (l.length + k) _ _ hh
      have hset := heap_setCell_same wr w.heap.size (l.length + k) _ _ (.int .u8 201) hh
      have e1 : (cells l ++ (marks k ++ x :: tl')).toArray.setIfInBounds (l.length + k) (.int .u8 201) = (cells l ++ (marks (k + 1) ++ tl')).toArray := by
        have e2 : cells l ++ (marks k ++ x :: tl') = (cells l ++ marks k) ++ x :: tl' := by simp
        have e3 : (cells l ++ marks k).length = l.length + k := by simp [cells_len, marks]
        rw [e2, ← e3, set_mid]
        simp [marks, List.replicate_succ', List.append_assoc]
      rw [e1] at hset
      have HS := Lib.hid hset
      have HT := Lib.hid htl
      clear hb hh hset e1 htl
      go_wp2
      have ht := HT.out
      exact ⟨⟨k + 1, tl', by omega, by simp at ht; omega, by rw [show ((l.length : Int) + (k : Int) + 1) = ((l.length + (k + 1) : Nat) : Int) from by omega], HS.out, HB.out.setCell (Nat.le_refl _) _⟩, by simp [intOf]; omega⟩
    · obtain rfl : k = 3 := by omega
      have : tl = [] := List.eq_nil_of_length_eq_zero (by omega)
      subst this
      rw [List.append_nil] at hh
      have HH := Lib.hid hh
      clear hh hb htl
      go_wp2
      go_ret
      exact ⟨w.heap.size, rfl, HH.out, HB.out, Nat.le_refl _⟩

theorem lent_at (l : List UInt8) (k : Nat) (h : k < l.length + 3) : ∃ x : Int, (lentCells l)[k]? = some (.int .u8 x) ∧ (k < l.length → (cells l)[k]? = some (.int .u8 x)) ∧ (l.length ≤ k → x = 201) := by
  by_cases hk : k < l.length
  · refine ⟨(l[k].toNat : Int), ?_, fun _ => by simp [cells, hk], fun h => by omega⟩
    unfold lentCells
    rw [List.getElem?_append_left (by rw [cells_len]; exact hk)]
    simp [cells, hk]
  · refine ⟨201, ?_, fun h => by omega, fun _ => rfl⟩
    unfold lentCells
    rw [List.getElem?_append_right (by rw [cells_len]; omega), cells_len]
    unfold marks
    rw [List.getElem?_replicate, if_pos (by omega)]

set_option maxRecDepth 100000 in
set_option maxHeartbeats 2000000 in
/-- Back: lent bytes that are as they were. -/
theorem back_any' (P : Nat → Prop) (g : Nat) (A : Option Addr) (n c : Nat) (l : List UInt8) (w : World) (h : Src w P A n c (cells l)) (hg : w.heap[g]? = some (.cells (lentCells l).toArray 5 (0, 0))) (hP : ¬ P g) (hn : n ≤ 140737488351232) :
    Calls Try.prog 18 #[.slice (some ⟨g, 0, none⟩) n (n + 3), .slice A n c] w fun en w' => en = .returned (.bool true) ∧ w.grownBy w' (some g) := by
  have hl : l.length = n := by have := h.len; simpa [cells_len] using this
  subst hl
  have HX := Lib.hid h
  have HG := Lib.hid hg
  have HP := Lib.hid hP
  have hcap := h.cap
  clear h hg hP
  go_enter Try.func18, Try.ntmps18
  go_wp2_with fail
  go_loopw [6, 7, 8] (fun ok i _ wr => ∃ (k : Nat) (pre : List Value), k ≤ l.length + 3 ∧ pre.length = k ∧ i = .int .i64 k ∧ ok = .bool true ∧ wr.heap[g]? = some (.cells (pre ++ (lentCells l).drop k).toArray 5 (0, 0)) ∧ w.grownBy wr (some g)) (fun _ i _ _ => l.length + 3 - (intOf i).toNat)
  case atStart => exact ⟨0, [], by omega, rfl, rfl, rfl, HG.out, World.grownBy.refl _ _⟩
  case round =>
    obtain ⟨k, pre, hk, hpl, rfl, rfl, hh, hgr⟩ := hrel
    by_cases hlt : k < l.length + 3
    · obtain ⟨x, hx1, hx2, hx3⟩ := lent_at l k hlt
      have hxl : k < (lentCells l).length := by simp [lentCells, cells_len, marks]; omega
      have hdr : (lentCells l).drop k = .int .u8 x :: (lentCells l).drop (k + 1) := by
        rw [List.drop_eq_getElem_cons hxl]
        congr 1
        rw [List.getElem?_eq_getElem hxl] at hx1
        injection hx1
      rw [hdr] at hh
      have hc : wr.cell? ⟨g, k, none⟩ = some (.int .u8 x) := by
        rw [cell_of_row wr g k _ _ _ hh]
        simp [← hpl]
      have hf : wr.frozen? ⟨g, k, none⟩ = false := frozen_of_row wr g k _ _ hh
      have hset : ∀ v, (wr.setCell ⟨g, k, none⟩ v).heap[g]? = some (.cells ((pre ++ [v]) ++ (lentCells l).drop (k + 1)).toArray 5 (0, 0)) := by
        intro v
        have h1 := heap_setCell_same wr g k _ _ v hh
        rw [h1]
        subst hpl
        rw [set_mid]
        simp
      have HS := Lib.hid hset
      have HPL := Lib.hid hpl
      have HGR := Lib.hid hgr
      by_cases hin : k < l.length
      · obtain ⟨ad, rfl⟩ : ∃ ad, A = some ad := by
          cases A with
          | none => have := (HX.out.nil rfl).1; omega
          | some ad => exact ⟨ad, rfl⟩
        have hb : wr.cell? (ad.add k) = some (.int .u8 x) := (HX.out.keep (w' := wr) fun j hj hjl => hgr.block j hjl (fun e => HP.out (by injection e with e; rw [← e]; exact hj))).at_ ad rfl k _ (hx2 hin)
        clear hx1 hx2 hx3 hh hset hpl hgr hdr hxl
        go_wp2
        exact ⟨⟨k + 1, pre ++ [.int .u8 (bits .xor .u8 x 33)], by omega, by rw [List.length_append, HPL.out]; rfl, by go_num, rfl, HS.out _, HGR.out.trans (grown_set _ _ _ _)⟩, by simp [intOf]; omega⟩
      · have hx : x = 201 := hx3 (by omega)
        subst hx
        clear hx1 hx2 hx3 hh hset hpl hgr hdr hxl
        go_wp2
        exact ⟨⟨k + 1, pre ++ [.int .u8 (bits .xor .u8 201 33)], by omega, by rw [List.length_append, HPL.out]; rfl, by go_num, rfl, HS.out _, HGR.out.trans (grown_set _ _ _ _)⟩, by simp [intOf]; omega⟩
    · obtain rfl : k = l.length + 3 := by omega
      have HGR := Lib.hid hgr
      clear hh hpl hgr
      go_wp2
      go_ret
      exact ⟨rfl, HGR.out⟩
end

section
open Go.RowKit

def ones (k : Nat) (x : Int) : List Value := List.replicate k (.int .u8 x)
theorem ones_len (k : Nat) (x : Int) : (ones k x).length = k := by simp [ones]
theorem ones_one (k : Nat) (x : Int) : ∀ u ∈ ones k x, u.oneCell' = true := by
  intro u hu
  simp only [ones, List.mem_replicate] at hu
  rw [hu.2]
  rfl
/-- A row of so many marks. -/
def RowIs (w : World) (B : Nat) (A : Option Addr) (n c : Nat) (x : Int) : Prop := w.ownsRow B 5 1 (.slice A n c) n (ones n x)
theorem RowIs.keep {w w' : World} {B : Nat} {A : Option Addr} {n c : Nat} {x : Int} (h : RowIs w B A n c x) (hk : ∀ k, row A = some k → w'.heap[k]? = w.heap[k]?) : RowIs w' B A n c x := by
  refine ⟨h.1, ?_⟩
  rcases h.2 with h1 | ⟨g', cap, cur, hv, hb, hh, hx⟩
  · exact .inl h1
  · refine .inr ⟨g', cap, cur, hv, hb, (hk g' ?_).trans hh, hx⟩
    injection hv with h1
    subst h1
    rfl
theorem RowIs.lt {w : World} {B : Nat} {A : Option Addr} {n c : Nat} {x : Int} (h : RowIs w B A n c x) : ∀ k, row A = some k → B ≤ k ∧ k < w.heap.size := by
  intro k hk
  exact World.ownsRow.lt h k (by rw [row_own]; exact hk)
/-- Two rows in one block: the shorter one is the longer one's front. -/
theorem RowIs.front {w w' : World} {B : Nat} {A Ag : Option Addr} {n c m cg : Nat} {x : Int} {m' : Nat} (h : RowIs w B A n c x) (hg : RowIs w B Ag m cg x) (hg' : RowIs w' B Ag m' cg x) (hA : A = Ag) (hn : n ≤ m') : RowIs w' B A n c x := by
  subst hA
  rcases h.2 with ⟨h1, h2⟩ | ⟨g1, cap1, cur1, hv1, hb1, hh1, _, hm1, hs1, _⟩
  · exact ⟨h.1, .inl ⟨h1, h2⟩⟩
  · rcases hg.2 with ⟨h1, _⟩ | ⟨g2, cap2, cur2, hv2, _, hh2, _, _, hs2, _⟩
    · injection h1 with h1
      subst h1
      injection hv1 with e
      cases e
    · injection hv1 with e1 _ e2
      injection hv2 with e3 _ e4
      subst e1
      injection e3 with e3
      injection e3 with e3
      subst e2 e3 e4
      rw [hh1] at hh2
      injection hh2 with hh2
      injection hh2 with hh2
      subst hh2
      have hcc : c = cg := by omega
      subst hcc
      rcases hg'.2 with ⟨h1, _⟩ | ⟨g3, cap3, cur3, hv3, hb3, hh3, hle3, hm3, hs3, ht3⟩
      · cases h1
      · injection hv3 with e5 _ e6
        injection e5 with e5
        injection e5 with e5
        subst e5 e6
        refine ⟨by simp [ones], .inr ⟨g1, c, cur3, rfl, hb1, hh3, by omega, hm3, hs3, ?_⟩⟩
        have : cur3.toList.take (n * 1) = (cur3.toList.take (m' * 1)).take n := by rw [List.take_take]; congr 1; omega
        rw [this, ht3]
        simp [ones]
        omega

set_option maxRecDepth 100000 in
/-- One mark more behind a row; another row of the same marks, of the same block or of another one, reads as it did. -/
theorem wpList_append_twin {w : World} {ops : Array Oper} {rest : List Oper} {o : Oper} {a : Act} {Q : Exit → Act → World → Prop} (hgd : o.guard = none) (s x : Operand)
    (ho : o.op = .call { callee := .builtin .append, args := #[s, x], argTypes := #[31, 31] })
    (B : Nat) (A : Option Addr) (n c : Nat) (Ag : Option Addr) (m cg : Nat) (y : Int) (hs : a.eval s = .slice Ag m cg) (hA : RowIs w B A n c y) (hg : RowIs w B Ag m cg y) (hnm : n ≤ m)
    (ad : Addr) (hx : a.eval x = .slice (some ad) 1 1) (hc : w.cell? ad = some (.int .u8 y)) (hb : m + 1 ≤ 140737488355328) (hB : B ≤ w.heap.size)
    (hK : ∀ A' c' w', RowIs w' B A n c y → RowIs w' B A' (m + 1) c' y → w.grownBy w' (row Ag) → (∀ q, row A' = some q → row Ag = some q ∨ w.heap.size ≤ q) → wpList Try.prog ops Q rest (a.put o.dst (.slice A' (m + 1) c')) w') : wpList Try.prog ops Q (o :: rest) a w := by
  obtain ⟨i0, hi, hz0, hz1, hz2⟩ := info_parts Try.info_byte
  have hnew : ∀ j u, [Value.int .u8 y][j]? = some u → w.cell? (ad.add j) = some u := by
    intro j u hj
    match j, hj with
    | 0, hj =>
      simp at hj
      subst hj
      have e : ad.add 0 = ad := by unfold Addr.add; simp
      rw [e]
      exact hc
  have h1c : ∀ u ∈ [Value.int .u8 y], u.oneCell' = true := by intro u hu; simp at hu; subst hu; rfl
  have hones : ones m y ++ [.int .u8 y] = ones (m + 1) y := by simp [ones, List.replicate_succ']
  by_cases hroom : m + 1 ≤ cg
  · -- there is room: the row's own block is written
    rcases hg.2 with ⟨h1, _⟩ | ⟨g, cap, cur, hv, hbg, hh, hle, hmx, hsz, htk⟩
    · injection h1 with _ _ h1; omega
    · injection hv with e1 _ e2
      subst e1 e2
      refine wpList_append_fits w hgd s x 31 ho B 5 i0 1 Try.underlying31 hi hz1 g m cg (ones m y) hs hg ad 1 1 [.int .u8 y] hx rfl hnew h1c hroom ?_
      intro w' hown hgr
      rw [hones] at hown
      refine hK _ _ w' ?_ hown hgr fun q hq => .inl hq
      by_cases hAg : A = some ⟨g, 0, none⟩
      · exact RowIs.front hA hg hown hAg (by omega)
      · refine hA.keep fun k hk => hgr.block k (hA.lt k hk).2 ?_
        intro e
        injection e with e
        subst e
        rcases hA.2 with ⟨h1, _⟩ | ⟨g', cap', cur', hv', _⟩
        · injection h1 with h1; subst h1; cases hk
        · injection hv' with h1
          subst h1
          injection hk with hk
          have : g' = k := hk
          subst this
          exact hAg rfl
  · refine wpList_append_grows w hgd s x 31 ho 5 i0 (.int .u8 0) 1 1 Try.underlying31 hi hz0 hz1 hz2 rfl (by omega) Ag m cg (ones m y) hs ?_ (by simp [ones]) ?_ ad 1 1 [.int .u8 y] hx rfl hnew h1c (by omega) (by simp only [maxLen]; omega) (by omega) ?_
    · intro e
      rcases hg.2 with ⟨h1, h2⟩ | ⟨g, cap, cur, hv, _⟩
      · injection h1 with _ _ h1; exact ⟨h2, h1⟩
      · rw [e] at hv; injection hv with h1; cases h1
    · intro b hb' j u hu
      subst hb'
      rcases hg.2 with ⟨h1, _⟩ | ⟨g, cap, cur, hv, _⟩
      · cases h1
      · have h2 := World.ownsRow.cells hg (g := b.block) rfl
        injection hv with h1
        injection h1 with h1
        subst h1
        exact h2 j u hu
    · intro v' w' hown hgr
      rw [hones] at hown
      obtain ⟨A', c', rfl⟩ := own_slice hown
      exact hK A' c' w' (hA.keep fun k hk => hgr.block k (hA.lt k hk).2 (by intro e; cases e)) (own_more hown hB) ⟨hgr.os, hgr.tape, hgr.output, hgr.size, fun k hk _ => hgr.block k hk (by intro e; cases e)⟩ fun q hq => .inr (World.ownsRow.lt hown q (by rw [row_own]; exact hq)).1

theorem own_cap {w : World} {B : Nat} {e : TypeId} {n c : Nat} {A : Option Addr} {xs : List Value} (h : w.ownsRow B e 1 (.slice A n c) n xs) : c ≤ 9223372036854775807 := by
  rcases h.2 with ⟨h1, _⟩ | ⟨g', cap, cur, hv, _, _, _, hm, _⟩
  · injection h1 with _ _ h1; omega
  · injection hv with _ _ h1; subst h1; simpa [maxLen] using hm
theorem Try.info_bytes : (Try.prog.info? 31).map (fun i => (i.zero, i.size, i.bytes)) = some (some (.slice none 0 0), 1, 24) := by kernel_rfl

theorem ones_get (k i : Nat) (x : Int) (h : i < k) : (ones k x)[i]? = some (.int .u8 x) := by
  unfold ones
  rw [List.getElem?_replicate, if_pos h]

set_option maxHeartbeats 4000000 in
set_option maxRecDepth 100000 in
theorem owned_one (B gr : Nat) (A : Option Addr) (n c : Nat) (xs : List Value) (w : World) (hrow : w.heap[gr]? = some (.cells #[.slice A n c] 31 (0, 0))) (hown : w.ownsRow B 5 1 (.slice A n c) n xs) (hB : B ≤ w.heap.size) (hn : n ≤ 140737488351232) :
    Calls Try.prog 52 #[.slice (some ⟨gr, 0, none⟩) 1 1] w fun en w' => en = .returned (.bool true) ∧ Below B w w' := by
  have hcw := own_cap hown
  have HR := Lib.hid hrow
  have HO := Lib.hid hown
  have hgl : gr < w.heap.size := lt_of_block hrow
  have hne : ∀ k, row A = some k → k ≠ gr := by
    intro k hk e
    subst e
    rcases hown.2 with ⟨h1, _⟩ | ⟨g', cap, cur, hv, _, hh, _⟩
    · injection h1 with h1; subst h1; cases hk
    · injection hv with h1
      subst h1
      injection hk with hk
      have : g' = k := hk
      subst this
      rw [hrow] at hh
      injection hh with hh
      injection hh with _ ht
      cases ht
  have HNE := Lib.hid hne
  clear hrow hown hne
  go_enter Try.func52, Try.ntmps52
  go_wp2_with fail
  go_loopw [3, 4] (fun lg i wr => (i = .int .i64 0 ∧ lg = .slice none 0 0 ∧ w = wr) ∨ (i = .int .i64 1 ∧ ∃ Al cl AG cG gl, lg = .slice Al 2 cl ∧ Al = some ⟨gl, 0, none⟩ ∧ 2 ≤ cl ∧ wr.cell? ⟨gl, 0, none⟩ = some (.slice AG (n + 9) cG) ∧ wr.cell? ⟨gl, 1, none⟩ = some (.slice A n c) ∧ RowIs wr B AG (n + 9) cG 1 ∧ RowIs wr B A n c 1 ∧ Below B w wr)) (fun _ i _ => 1 - (intOf i).toNat)
  case atStart => exact .inl ⟨rfl, rfl, rfl⟩
  case round =>
    rcases hrel with ⟨rfl, rfl, rfl⟩ | ⟨rfl, Al, cl, AG, cG, gl, rfl, rfl, hcl, hc0, hc1, hG, hA, hb⟩
    · have hk0 : w.cell? ⟨gr, 0, none⟩ = some (.slice A n c) := cell_of_row w gr 0 _ _ _ HR.out
      go_wp2_with fail
      go_loopw [6] (fun k wr => ∃ j : Nat, j ≤ n ∧ k = .int .i64 j ∧ wr.ownsRow B 5 1 (.slice A n c) n (ones j 1 ++ xs.drop j) ∧ wr.heap[gr]? = w.heap[gr]? ∧ Below B w wr) (fun k _ => n - (intOf k).toNat)
      case atStart => exact ⟨0, Nat.zero_le _, rfl, HO.out, rfl, Below.refl _ _⟩
      case round =>
        obtain ⟨j, hj, rfl, ho, hgr, hb⟩ := hrel
        have hk1 : wr.cell? ⟨gr, 0, none⟩ = some (.slice A n c) := cell_of_row wr gr 0 _ _ _ (hgr.trans HR.out)
        by_cases hlt : j < n
        · obtain ⟨g1, rfl⟩ : ∃ g1, A = some ⟨g1, 0, none⟩ := by
            obtain ⟨g1, cap, hv, _⟩ := ho.form (by omega)
            injection hv with hv
            exact ⟨g1, hv⟩
          have hxl : xs.length = n := by have := HO.out.1; omega
          have hjc : ∃ u, wr.cell? ⟨g1, j, none⟩ = some u := by
            rw [ho.cellAt j (by omega)]
            have hlen : j < (ones j 1 ++ xs.drop j).length := by rw [List.length_append, ones_len, List.length_drop]; omega
            exact ⟨_, List.getElem?_eq_getElem hlen⟩
          obtain ⟨u, hjc⟩ := hjc
          have hjf := ho.frozenAt j
          obtain ⟨hs1, hs2⟩ := ho.stored j (.int .u8 1)
          have e1 : (ones j 1 ++ xs.drop j).set j (.int .u8 1) = ones (j + 1) 1 ++ xs.drop (j + 1) := by
            have hd : xs.drop j = xs[j]'(by omega) :: xs.drop (j + 1) := List.drop_eq_getElem_cons (by omega)
            rw [hd]
            have := List.set_append_right (s := ones j 1) (t := xs[j]'(by omega) :: xs.drop (j + 1)) j (.int .u8 1) (by rw [ones_len]; omega)
            rw [this, ones_len, Nat.sub_self]
            show ones j 1 ++ (Value.int .u8 1 :: xs.drop (j + 1)) = _
            simp [ones, List.replicate_succ', List.append_assoc]
          rw [e1] at hs1
          have hgr2 : ((wr.setCell ⟨g1, j, none⟩ (.int .u8 1))).heap[gr]? = w.heap[gr]? := (heap_setCell_other _ _ _ _ (HNE.out g1 rfl).symm).trans hgr
          have hbl : B ≤ g1 := (ho.lt g1 rfl).1
          have HS1 := Lib.hid hs1
          have HGR2 := Lib.hid hgr2
          have HB := Lib.hid (hb.setCell (p := ⟨g1, j, none⟩) hbl (.int .u8 1))
          have hle : n ≤ c := by
            rcases ho.2 with ⟨h1, _⟩ | ⟨_, _, _, hv, _, _, hnc, _⟩
            · cases h1
            · injection hv with _ _ h3; omega
          clear ho hgr hb hs1 hs2 e1 hgr2 hxl
          go_wp2
          exact ⟨⟨j + 1, by omega, by go_num, HS1.out, HGR2.out, HB.out⟩, by simp [intOf]; omega⟩
        · obtain rfl : j = n := by omega
          have hd : xs.drop j = [] := List.drop_eq_nil_of_le (by have := HO.out.1; omega)
          rw [hd, List.append_nil] at ho
          have HA := Lib.hid (show RowIs wr B A j c 1 from ho)
          have HGR := Lib.hid hgr
          have HB := Lib.hid hb
          clear ho hgr hb hd
          obtain ⟨wq, rfl⟩ : ∃ wq : World, wq = wr := ⟨_, rfl⟩
          go_wp2_with fail
          go_loopw [7, 8] (fun g k wr => ∃ (i : Nat) (Ag : Option Addr) (cg : Nat), i ≤ 9 ∧ k = .int .i64 i ∧ g = .slice Ag (j + i) cg ∧ RowIs wr B A j c 1 ∧ RowIs wr B Ag (j + i) cg 1 ∧ wr.heap[gr]? = w.heap[gr]? ∧ Below B w wr) (fun _ k _ => 9 - (intOf k).toNat)
          case atStart => exact ⟨0, A, c, by omega, rfl, rfl, HA.out, HA.out, HGR.out, HB.out⟩
          case round =>
            obtain ⟨i, Ag, cg, hi, rfl, rfl, hA, hG, hgr, hb⟩ := hrel
            by_cases hlt2 : i < 9
            · have hgrl : gr < wr.heap.size := Nat.lt_of_lt_of_le hgl hb.size
              have hcA := own_cap hA
              have hcG := own_cap hG
              have hBr : B ≤ wr.heap.size := Nat.le_trans hB hb.size
              have HA1 := Lib.hid (hA.keep (w' := wr.alloc (.cells #[.int .u8 1] 5)) fun k hk => Below.heap_alloc _ _ _ (hA.lt k hk).2)
              have HG1 := Lib.hid (hG.keep (w' := wr.alloc (.cells #[.int .u8 1] 5)) fun k hk => Below.heap_alloc _ _ _ (hG.lt k hk).2)
              have hcn : (wr.alloc (.cells #[.int .u8 1] 5)).cell? ⟨wr.heap.size, 0, none⟩ = some (.int .u8 1) := by simp
              have HCN := Lib.hid hcn
              have HGR1 := Lib.hid ((Below.heap_alloc wr (.cells #[.int .u8 1] 5) gr hgrl).trans hgr)
              have HGL := Lib.hid hG.lt
              have HB1 := Lib.hid (hb.alloc hBr (.cells #[.int .u8 1] 5))
              have hsz : (wr.alloc (.cells #[.int .u8 1] 5)).heap.size = wr.heap.size + 1 := by simp
              have HSZ := Lib.hid hsz
              have hneg : ∀ k, row Ag = some k → k ≠ gr := by
                intro k hk e
                subst e
                rcases hG.2 with ⟨h1, _⟩ | ⟨g', cap, cur, hv, _, hh, _⟩
                · injection h1 with h1; subst h1; cases hk
                · injection hv with h1
                  subst h1
                  injection hk with hk
                  have : g' = k := hk
                  subst this
                  rw [hgr, HR.out] at hh
                  injection hh with hh
                  injection hh with _ ht
                  cases ht
              have HNG := Lib.hid hneg
              clear hA hG hgr hb hcn hsz hneg
              go_wp2_with (at_builtin; refine wpList_append_twin rfl (.tmp 45) (.tmp 47) rfl B A j c Ag (j + i) cg 1 rfl HA1.out HG1.out (by omega) ⟨wr.heap.size, 0, none⟩ rfl HCN.out (by omega) (by rw [HSZ.out]; omega) ?_; intro A' c' w' hA' hG' hgr' _; have HA2 := Lib.hid hA'; have HG2 := Lib.hid hG'; have HGR' := Lib.hid hgr'; clear hA' hG' hgr')
              exact ⟨⟨i + 1, A', c', by omega, by go_num, rfl, HA2.out, HG2.out, (HGR'.out.block gr (by rw [HSZ.out]; omega) (fun e => HNG.out gr e.symm rfl)).trans HGR1.out,
                HB1.out.grown HGR'.out (by rw [HSZ.out]; omega) (fun k hk => (HGL.out k hk).1)⟩, by simp [intOf]; omega⟩
            · obtain rfl : i = 9 := by omega
              have hk2 : wr.cell? ⟨gr, 0, none⟩ = some (.slice A j c) := cell_of_row wr gr 0 _ _ _ (hgr.trans HR.out)
              obtain ⟨i0, hi0, hz0, hz1, hz2⟩ := info_parts Try.info_bytes
              have hBr : B ≤ wr.heap.size := Nat.le_trans hB hb.size
              have HA1 := Lib.hid (hA.keep (w' := wr.alloc (.cells #[.slice Ag (j + 9) cg, .slice A j c] 31)) fun k hk => Below.heap_alloc _ _ _ (hA.lt k hk).2)
              have HG1 := Lib.hid (hG.keep (w' := wr.alloc (.cells #[.slice Ag (j + 9) cg, .slice A j c] 31)) fun k hk => Below.heap_alloc _ _ _ (hG.lt k hk).2)
              have HLA := Lib.hid hA.lt
              have HLG := Lib.hid hG.lt
              have HB1 := Lib.hid (hb.alloc hBr (.cells #[.slice Ag (j + 9) cg, .slice A j c] 31))
              have hsz : (wr.alloc (.cells #[.slice Ag (j + 9) cg, .slice A j c] 31)).heap.size = wr.heap.size + 1 := by simp
              have HSZ := Lib.hid hsz
              have hsrc : Src (wr.alloc (.cells #[.slice Ag (j + 9) cg, .slice A j c] 31)) (fun _ => True) (some ⟨wr.heap.size, 0, none⟩) 2 2 [.slice Ag (j + 9) cg, .slice A j c] := by
                refine ⟨rfl, (by intro h; cases h), Nat.le_refl _, (fun _ _ _ => trivial), ?_⟩
                intro ad h k u hu
                cases h
                exact World.news_of_block (heap_alloc_new wr _) k u hu
              have HSR := Lib.hid hsrc
              have h1c : ∀ u ∈ [Value.slice Ag (j + 9) cg, Value.slice A j c], u.oneCell' = true := by
                intro u hu
                simp at hu
                rcases hu with rfl | rfl <;> rfl
              clear hA hG hgr hb hsz hsrc
              obtain ⟨wy, rfl⟩ : ∃ wy : World, wy = wr := ⟨_, rfl⟩
              go_wp2_with (at_builtin; refine wpList_append_src rfl (.tmp 49) (.tmp 55) 81 rfl wy.heap.size 31 i0 (.slice none 0 0) 24 Try.underlying81 hi0 hz0 hz1 hz2 rfl (.slice none 0 0) 0 [] rfl (World.ownsRow_nil _ _ _ _) _ _ 2 2 _ rfl HSR.out h1c (by simp [maxLen]) (by omega) (by rw [HSZ.out]; omega) ?_; intro v' w' hown' hgr' hat'; obtain ⟨Al, cl, rfl⟩ := own_slice hown')
              obtain ⟨gl, cap, hv, _⟩ := World.ownsRow.form hown' (by omega)
              injection hv with hv _ hcapv
              have hcl : 2 ≤ cl := by
                rcases hown'.2 with ⟨h1, _⟩ | ⟨_, _, _, h1, _, _, hnc, _⟩
                · injection h1 with _ h1; omega
                · injection h1 with _ _ h3; omega
              subst hv
              have hcell := World.ownsRow.cells hown' (g := gl) rfl
              have hp : ∀ k : Nat, (⟨gl, 0, none⟩ : Addr).add k = ⟨gl, k, none⟩ := by intro k; unfold Addr.add; split <;> simp_all
              have hc0 : w'.cell? ⟨gl, 0, none⟩ = some (.slice Ag (j + 9) cg) := by have := hcell 0 _ rfl; rw [hp] at this; exact this
              have hc1 : w'.cell? ⟨gl, 1, none⟩ = some (.slice A j c) := by have := hcell 1 _ rfl; rw [hp] at this; exact this
              refine ⟨.inr ⟨rfl, _, cl, Ag, cg, gl, rfl, rfl, hcl, hc0, hc1, HG1.out.keep fun k hk => hgr'.block k (HG1.out.lt k hk).2 (by intro e; cases e), HA1.out.keep fun k hk => hgr'.block k (HA1.out.lt k hk).2 (by intro e; cases e), HB1.out.grown hgr' (by rw [HSZ.out]; omega) (by intro k hk; cases hk)⟩, by simp [intOf]⟩
    · have hcA := own_cap hA
      have hcG := own_cap hG
      have sA := Lib.hid (Src.of_own hA)
      have sG := Lib.hid (Src.of_own hG)
      have HB := Lib.hid hb
      obtain ⟨wz, rfl⟩ : ∃ wz : World, wz = wr := ⟨_, rfl⟩
      clear hA hG hb
      go_wp2_with fail
      go_loop [9, 10] (fun i _ => ∃ t : Nat, t ≤ 2 ∧ i = .int .i64 t) (fun i _ => 2 - (intOf i).toNat)
      case atStart => exact ⟨0, by omega, rfl⟩
      case round =>
        obtain ⟨t, ht, rfl⟩ := hrel
        by_cases ht0 : t = 0
        · subst ht0
          go_wp2_with fail
          go_loop [10] (fun k => ∃ i : Nat, i ≤ n + 9 ∧ k = .int .i64 i) (fun k => n + 9 - (intOf k).toNat)
          case atStart => exact ⟨0, by omega, rfl⟩
          case round =>
            obtain ⟨i, hi, rfl⟩ := hrel
            by_cases hlt : i < n + 9
            · obtain ⟨ad, rfl⟩ : ∃ ad, AG = some ad := by
                cases AG with
                | none => have := (sG.out.nil rfl).1; omega
                | some ad => exact ⟨ad, rfl⟩
              have hcell : wz.cell? (ad.add i) = some (.int .u8 1) := sG.out.at_ ad rfl i _ (ones_get _ _ _ hlt)
              have hcp := sG.out.cap
              go_wp2
              go_round
              case rel => exact ⟨i + 1, by omega, by go_num⟩
              case measure => simp [intOf]; omega
            · obtain rfl : i = n + 9 := by omega
              go_wp2
              exact ⟨⟨1, by omega, rfl⟩, by simp [intOf]⟩
        by_cases ht1 : t = 1
        · subst ht1
          clear ht0
          go_wp2_with fail
          go_loop [10] (fun k => ∃ i : Nat, i ≤ n ∧ k = .int .i64 i) (fun k => n - (intOf k).toNat)
          case atStart => exact ⟨0, by omega, rfl⟩
          case round =>
            obtain ⟨i, hi, rfl⟩ := hrel
            by_cases hlt : i < n
            · obtain ⟨ad, rfl⟩ : ∃ ad, A = some ad := by
                cases A with
                | none => have := (sA.out.nil rfl).1; omega
                | some ad => exact ⟨ad, rfl⟩
              have hcell : wz.cell? (ad.add i) = some (.int .u8 1) := sA.out.at_ ad rfl i _ (ones_get _ _ _ hlt)
              have hcp := sA.out.cap
              go_wp2
              go_round
              case rel => exact ⟨i + 1, by omega, by go_num⟩
              case measure => simp [intOf]; omega
            · obtain rfl : i = n := by omega
              go_wp2
              exact ⟨⟨2, by omega, rfl⟩, by simp [intOf]⟩
        · obtain rfl : t = 2 := by omega
          clear ht0 ht1
          go_wp2
          go_ret
          exact ⟨rfl, HB.out⟩

/-- Rows of unlike elements lie in unlike blocks. -/
theorem own_ne {w : World} {B1 B2 s1 s2 n1 n2 : Nat} {e1 e2 : TypeId} {v1 v2 : Value} {x1 x2 : List Value} (h1 : w.ownsRow B1 e1 s1 v1 n1 x1) (h2 : w.ownsRow B2 e2 s2 v2 n2 x2) (hne : e1 ≠ e2) : ∀ k, v1.ownBlock = some k → v2.ownBlock ≠ some k := by
  intro k hk1 hk2
  rcases h1.2 with ⟨rfl, _⟩ | ⟨g1, c1, cur1, rfl, _, hh1, _⟩
  · cases hk1
  · rcases h2.2 with ⟨rfl, _⟩ | ⟨g2, c2, cur2, rfl, _, hh2, _⟩
    · cases hk2
    · injection hk1 with hk1
      injection hk2 with hk2
      have a1 : g1 = k := hk1
      have a2 : g2 = k := hk2
      subst a1
      subst a2
      rw [hh1] at hh2
      injection hh2 with hh2
      injection hh2 with _ ht
      exact hne ht
theorem own_keep {w w' : World} {B s n : Nat} {e : TypeId} {v : Value} {xs : List Value} (h : w.ownsRow B e s v n xs) (hk : ∀ k, v.ownBlock = some k → w'.heap[k]? = w.heap[k]?) : w'.ownsRow B e s v n xs := by
  refine ⟨h.1, ?_⟩
  rcases h.2 with h1 | ⟨g', cap, cur, hv, hb, hh, hx⟩
  · exact .inl h1
  · exact .inr ⟨g', cap, cur, hv, hb, (hk g' (by rw [hv]; rfl)).trans hh, hx⟩
/-- All old blocks but the row's are as they were. -/
structure But (A : Option Addr) (w w' : World) : Prop where
  os : w'.os = w.os
  tape : w'.tape = w.tape
  output : w'.output = w.output
  size : w.heap.size ≤ w'.heap.size
  block : ∀ k, k < w.heap.size → row A ≠ some k → w'.heap[k]? = w.heap[k]?
theorem But.refl (A : Option Addr) (w : World) : But A w w := ⟨rfl, rfl, rfl, Nat.le_refl _, fun _ _ _ => rfl⟩
theorem But.trans {A : Option Addr} {a b c : World} (h : But A a b) (k : But A b c) : But A a c :=
  ⟨k.os.trans h.os, k.tape.trans h.tape, k.output.trans h.output, Nat.le_trans h.size k.size, fun i hi hr => (k.block i (Nat.lt_of_lt_of_le hi h.size) hr).trans (h.block i hi hr)⟩
theorem But.below {A : Option Addr} {B : Nat} {w w' : World} (h : But A w w') (hA : ∀ k, row A = some k → B ≤ k) (hB : B ≤ w.heap.size) : Below B w w' :=
  ⟨h.os, h.tape, h.output, h.size, fun k hk => h.block k (by omega) (fun e => by have := hA k e; omega)⟩

theorem plain0 (b k : Nat) : (⟨b, 0, none⟩ : Addr).add k = ⟨b, k, none⟩ := by unfold Addr.add; split <;> simp_all
def mk (i : Nat) : Int := 1 + (i : Int) % 250

set_option maxHeartbeats 4000000 in
set_option maxRecDepth 100000 in
theorem owned_many (B gr m : Nat) (A : Nat → Option Addr) (n c : Nat → Nat) (xs : Nat → List Value) (cur : Array Value) (w : World) (hm : m ≤ 1048576) (hrow : w.heap[gr]? = some (.cells cur 31 (0, 0))) (hcur : ∀ i, i < m → cur[i]? = some (.slice (A i) (n i) (c i)))
    (hown : ∀ i, i < m → w.ownsRow B 5 1 (.slice (A i) (n i) (c i)) (n i) (xs i)) (hdis : ∀ i j, i < m → j < m → i ≠ j → ∀ k, row (A i) = some k → row (A j) ≠ some k) (hB : B ≤ w.heap.size) (hn : ∀ i, i < m → n i ≤ 140737488351232) :
    Calls Try.prog 52 #[.slice (some ⟨gr, 0, none⟩) m m] w fun en w' => en = .returned (.bool true) ∧ Below B w w' := by
  have hgl : gr < w.heap.size := lt_of_block hrow
  have hne : ∀ i, i < m → ∀ k, row (A i) = some k → k ≠ gr := by
    intro i hi k hk e
    subst e
    rcases (hown i hi).2 with ⟨h1, _⟩ | ⟨g', cap, cu, hv, _, hh, _⟩
    · injection h1 with h1; rw [h1] at hk; cases hk
    · injection hv with h1
      rw [h1] at hk
      injection hk with hk
      have : g' = k := hk
      subst this
      rw [hrow] at hh
      injection hh with hh
      injection hh with _ ht
      cases ht
  have HR := Lib.hid hrow
  have HCU := Lib.hid hcur
  have HO := Lib.hid hown
  have HD := Lib.hid hdis
  have HN := Lib.hid hn
  have HNE := Lib.hid hne
  clear hrow hcur hown hdis hn hne
  go_enter Try.func52, Try.ntmps52
  go_wp2_with fail
  go_loopw [3, 4] (fun lg i wr => ∃ (k : Nat) (Al : Option Addr) (cl : Nat) (L : List Value), k ≤ m ∧ i = .int .i64 k ∧ lg = .slice Al (2 * k) cl ∧ wr.ownsRow w.heap.size 31 1 (.slice Al (2 * k) cl) (2 * k) L ∧
    (∀ t, t < 2 * k → ∃ a e d, L[t]? = some (.slice a e d) ∧ RowIs wr B a e d (mk (t / 2)) ∧ e ≤ 140737488355328 ∧ ∀ j, k ≤ j → j < m → ∀ q, row a = some q → row (A j) ≠ some q) ∧
    (∀ j, k ≤ j → j < m → wr.ownsRow B 5 1 (.slice (A j) (n j) (c j)) (n j) (xs j)) ∧ wr.heap[gr]? = w.heap[gr]? ∧ Below B w wr) (fun _ i _ => m - (intOf i).toNat)
  case atStart => exact ⟨0, none, 0, [], Nat.zero_le _, rfl, rfl, World.ownsRow_nil _ _ _ _, (by intro t ht; omega), (fun j _ hj => HO.out j hj), rfl, Below.refl _ _⟩
  case round =>
    obtain ⟨k, Al, cl, L, hk, rfl, rfl, hlo, hen, hre, hgr, hb⟩ := hrel
    obtain ⟨wo, rfl⟩ : ∃ wo : World, wo = wr := ⟨_, rfl⟩
    by_cases hlt : k < m
    · have hk0 : wo.cell? ⟨gr, k, none⟩ = some (.slice (A k) (n k) (c k)) := (cell_of_row wo gr k _ _ _ (hgr.trans HR.out)).trans (HCU.out k hlt)
      have hxo := hre k (Nat.le_refl _) hlt
      have hnk := HN.out k hlt
      have HXO := Lib.hid hxo
      have hcw := own_cap hxo
      have HLO := Lib.hid hlo
      have HEN := Lib.hid hen
      have HRE := Lib.hid hre
      have HGR := Lib.hid hgr
      have HB := Lib.hid hb
      have hBo : B ≤ wo.heap.size := Nat.le_trans hB hb.size
      have hgo : gr < wo.heap.size := Nat.lt_of_lt_of_le hgl hb.size
      have HXL := Lib.hid hxo.lt
      have hmk : 1 + (k : Int) % 250 = mk k := rfl
      clear hlo hen hre hgr hb hxo
      go_wp2_with fail
      go_loopw [6] (fun q wr => ∃ j : Nat, j ≤ n k ∧ q = .int .i64 j ∧ wr.ownsRow B 5 1 (.slice (A k) (n k) (c k)) (n k) (ones j (mk k) ++ (xs k).drop j) ∧ But (A k) wo wr) (fun q _ => n k - (intOf q).toNat)
      case atStart => exact ⟨0, Nat.zero_le _, rfl, HXO.out, But.refl _ _⟩
      case round =>
        obtain ⟨j, hj, rfl, ho, hbu⟩ := hrel
        have hgr1 := hbu.block gr hgo (fun e => HNE.out k hlt gr e rfl)
        have hk1 : wr.cell? ⟨gr, k, none⟩ = some (.slice (A k) (n k) (c k)) := (cell_of_row wr gr k _ _ _ ((hgr1.trans HGR.out).trans HR.out)).trans (HCU.out k hlt)
        by_cases hjt : j < n k
        · obtain ⟨g1, hA1⟩ : ∃ g1, A k = some ⟨g1, 0, none⟩ := by
            obtain ⟨g1, cap, hv, _⟩ := ho.form (by omega)
            injection hv with hv
            exact ⟨g1, hv⟩
          have hxl : (xs k).length = n k := by have := HXO.out.1; omega
          rw [hA1] at ho hk1
          have hjc : ∃ u, wr.cell? ⟨g1, j, none⟩ = some u := by
            rw [ho.cellAt j (by omega)]
            have hlen : j < (ones j (mk k) ++ (xs k).drop j).length := by rw [List.length_append, ones_len, List.length_drop]; omega
            exact ⟨_, List.getElem?_eq_getElem hlen⟩
          obtain ⟨u, hjc⟩ := hjc
          have hjf := ho.frozenAt j
          obtain ⟨hs1, hs2⟩ := ho.stored j (.int .u8 (mk k))
          have e1 : (ones j (mk k) ++ (xs k).drop j).set j (.int .u8 (mk k)) = ones (j + 1) (mk k) ++ (xs k).drop (j + 1) := by
            have hd : (xs k).drop j = (xs k)[j]'(by omega) :: (xs k).drop (j + 1) := List.drop_eq_getElem_cons (by omega)
            rw [hd]
            have := List.set_append_right (s := ones j (mk k)) (t := (xs k)[j]'(by omega) :: (xs k).drop (j + 1)) j (.int .u8 (mk k)) (by rw [ones_len]; omega)
            rw [this, ones_len, Nat.sub_self]
            show ones j (mk k) ++ (Value.int .u8 (mk k) :: (xs k).drop (j + 1)) = _
            simp [ones, List.replicate_succ', List.append_assoc]
          rw [e1] at hs1
          have hle : n k ≤ c k := by
            rcases ho.2 with ⟨h1, _⟩ | ⟨_, _, _, hv, _, _, hnc, _⟩
            · cases h1
            · injection hv with _ _ h3; omega
          have HS1 := Lib.hid hs1
          have HA1 := Lib.hid hA1
          have HBU := Lib.hid (hbu.trans ⟨hs2.os, hs2.tape, hs2.output, hs2.size, fun q hq hr => hs2.block q hq (fun e => hr (by rw [hA1]; injection e with e; rw [e]; rfl))⟩)
          clear ho hbu hs1 hs2 e1 hxl hgr1 hA1
          go_wp2
          exact ⟨⟨j + 1, by omega, by go_num, by rw [HA1.out]; exact HS1.out, HBU.out⟩, by simp [intOf]; omega⟩
        · have hjn : j = n k := by omega
          subst hjn
          have hd : (xs k).drop (n k) = [] := List.drop_eq_nil_of_le (by have := HXO.out.1; omega)
          rw [hd, List.append_nil] at ho
          have HA := Lib.hid (show RowIs wr B (A k) (n k) (c k) (mk k) from ho)
          have HBU := Lib.hid hbu
          clear ho hbu hd hgr1
          obtain ⟨wq, rfl⟩ : ∃ wq : World, wq = wr := ⟨_, rfl⟩
          go_wp2_with fail
          go_loopw [7, 8] (fun g q wr => ∃ (i : Nat) (Ag : Option Addr) (cg : Nat), i ≤ 9 ∧ q = .int .i64 i ∧ g = .slice Ag (n k + i) cg ∧ RowIs wr B (A k) (n k) (c k) (mk k) ∧ RowIs wr B Ag (n k + i) cg (mk k) ∧ But (A k) wo wr ∧ (∀ q, row Ag = some q → row (A k) = some q ∨ wo.heap.size ≤ q)) (fun _ q _ => 9 - (intOf q).toNat)
          case atStart => exact ⟨0, A k, c k, by omega, rfl, rfl, HA.out, HA.out, HBU.out, fun q hq => .inl hq⟩
          case round =>
            obtain ⟨i, Ag, cg, hi, rfl, rfl, hA, hG, hbu, hag⟩ := hrel
            by_cases hlt2 : i < 9
            · have hcA := own_cap hA
              have hcG := own_cap hG
              have hszo := hbu.size
              have HA1 := Lib.hid (hA.keep (w' := wr.alloc (.cells #[.int .u8 (mk k)] 5)) fun q hq => Below.heap_alloc _ _ _ (hA.lt q hq).2)
              have HG1 := Lib.hid (hG.keep (w' := wr.alloc (.cells #[.int .u8 (mk k)] 5)) fun q hq => Below.heap_alloc _ _ _ (hG.lt q hq).2)
              have hcn : (wr.alloc (.cells #[.int .u8 (mk k)] 5)).cell? ⟨wr.heap.size, 0, none⟩ = some (.int .u8 (mk k)) := by simp
              have HCN := Lib.hid hcn
              have HBU1 := Lib.hid (hbu.trans (c := wr.alloc (.cells #[.int .u8 (mk k)] 5)) ⟨rfl, rfl, rfl, by simp, fun q hq _ => Below.heap_alloc _ _ _ hq⟩)
              have hsz : (wr.alloc (.cells #[.int .u8 (mk k)] 5)).heap.size = wr.heap.size + 1 := by simp
              have HSZ := Lib.hid hsz
              have HAG := Lib.hid hag
              clear hA hG hbu hcn hsz hag
              go_wp2_with (at_builtin; refine wpList_append_twin rfl (.tmp 45) (.tmp 47) rfl B (A k) (n k) (c k) Ag (n k + i) cg (mk k) rfl HA1.out HG1.out (by omega) ⟨wr.heap.size, 0, none⟩ rfl HCN.out (by omega) (by rw [HSZ.out]; omega) ?_; intro A' c' w' hA' hG' hgr' hat'; have HA2 := Lib.hid hA'; have HG2 := Lib.hid hG'; have HGR' := Lib.hid hgr'; have HAT := Lib.hid hat'; clear hA' hG' hgr' hat')
              refine ⟨⟨i + 1, A', c', by omega, by go_num, rfl, HA2.out, HG2.out, ?_, ?_⟩, by simp [intOf]; omega⟩
              · refine ⟨HGR'.out.os.trans HBU1.out.os, HGR'.out.tape.trans HBU1.out.tape, HGR'.out.output.trans HBU1.out.output, Nat.le_trans HBU1.out.size HGR'.out.size, fun q hq hr => (HGR'.out.block q (Nat.lt_of_lt_of_le hq HBU1.out.size) ?_).trans (HBU1.out.block q hq hr)⟩
                intro e
                rcases HAG.out q e.symm with h1 | h1
                · exact hr h1
                · omega
              · intro q hq
                rcases HAT.out q hq with h1 | h1
                · exact HAG.out q h1
                · rw [HSZ.out] at h1
                  exact .inr (by omega)
            · obtain rfl : i = 9 := by omega
              have hk2 : wr.cell? ⟨gr, k, none⟩ = some (.slice (A k) (n k) (c k)) := (cell_of_row wr gr k _ _ _ (((hbu.block gr hgo (fun e => HNE.out k hlt gr e rfl)).trans HGR.out).trans HR.out)).trans (HCU.out k hlt)
              obtain ⟨i0, hi0, hz0, hz1, hz2⟩ := info_parts Try.info_bytes
              have hBr : B ≤ wr.heap.size := Nat.le_trans hBo hbu.size
              have hszw : w.heap.size ≤ wo.heap.size := HB.out.size
              have hszo : wo.heap.size ≤ wr.heap.size := hbu.size
              have hlr : (wr.alloc (.cells #[.slice Ag (n k + 9) cg, .slice (A k) (n k) (c k)] 31)).ownsRow w.heap.size 31 1 (.slice Al (2 * k) cl) (2 * k) L := by
                refine own_keep HLO.out fun q hq => ?_
                have hql := (HLO.out.lt q hq).2
                refine (Below.heap_alloc _ _ _ (Nat.lt_of_lt_of_le hql hszo)).trans (hbu.block q hql ?_)
                rw [← row_own _ (n k) (c k)]
                exact own_ne HLO.out HXO.out (by decide) q hq
              have HLR := Lib.hid hlr
              have HA1 := Lib.hid hA
              have HG1 := Lib.hid hG
              have HBU1 := Lib.hid hbu
              have HAG := Lib.hid hag
              have hsz : (wr.alloc (.cells #[.slice Ag (n k + 9) cg, .slice (A k) (n k) (c k)] 31)).heap.size = wr.heap.size + 1 := by simp
              have HSZ := Lib.hid hsz
              have hsrc : Src (wr.alloc (.cells #[.slice Ag (n k + 9) cg, .slice (A k) (n k) (c k)] 31)) (fun _ => True) (some ⟨wr.heap.size, 0, none⟩) 2 2 [.slice Ag (n k + 9) cg, .slice (A k) (n k) (c k)] := by
                refine ⟨rfl, (by intro h; cases h), Nat.le_refl _, (fun _ _ _ => trivial), ?_⟩
                intro ad h j u hu
                cases h
                exact World.news_of_block (heap_alloc_new wr _) j u hu
              have HSR := Lib.hid hsrc
              have h1c : ∀ u ∈ [Value.slice Ag (n k + 9) cg, Value.slice (A k) (n k) (c k)], u.oneCell' = true := by
                intro u hu
                simp at hu
                rcases hu with rfl | rfl <;> rfl
              clear hA hG hbu hag hsz hsrc hlr
              obtain ⟨wy, rfl⟩ : ∃ wy : World, wy = wr := ⟨_, rfl⟩
              go_wp2_with (at_builtin; refine wpList_append_src rfl (.tmp 49) (.tmp 55) 81 rfl w.heap.size 31 i0 (.slice none 0 0) 24 Try.underlying81 hi0 hz0 hz1 hz2 rfl (.slice Al (2 * k) cl) (2 * k) L rfl HLR.out _ _ 2 2 _ rfl HSR.out h1c (by simp only [maxLen]; omega) (by omega) (by rw [HSZ.out]; omega) ?_; intro v' w' hown' hgr' hat'; obtain ⟨Al', cl', rfl⟩ := own_slice hown')
              have hkp : ∀ a nn d ys, wy.ownsRow B 5 1 (.slice a nn d) nn ys → w'.ownsRow B 5 1 (.slice a nn d) nn ys := by
                intro a nn d ys ho
                refine own_keep ho fun q hq => ?_
                have hql := (ho.lt q hq).2
                have h1 : (wy.alloc (.cells #[.slice Ag (n k + 9) cg, .slice (A k) (n k) (c k)] 31)).heap[q]? = wy.heap[q]? := Below.heap_alloc _ _ _ hql
                refine (hgr'.block q (by rw [HSZ.out]; omega) ?_).trans h1
                intro e
                exact own_ne HLR.out (own_keep (w' := wy.alloc (.cells #[.slice Ag (n k + 9) cg, .slice (A k) (n k) (c k)] 31)) ho fun q hq => Below.heap_alloc _ _ _ (ho.lt q hq).2) (by decide) q e.symm hq
              refine ⟨⟨k + 1, Al', cl', _, by omega, by go_num, rfl, hown', ?_, ?_, ?_, ?_⟩, by simp [intOf]; omega⟩
              · intro t ht
                have hLl : L.length = 2 * k := by have := HLO.out.1; omega
                by_cases h2 : t < 2 * k
                · obtain ⟨a, e, d, hL, hra, hee, hda⟩ := HEN.out t h2
                  refine ⟨a, e, d, by rw [List.getElem?_append_left (by omega)]; exact hL, ?_, hee, fun j hj hjm => hda j (by omega) hjm⟩
                  refine hkp _ _ _ _ (hra.keep fun q hq => HBU1.out.block q (hra.lt q hq).2 fun e => ?_)
                  exact hda k (Nat.le_refl _) hlt q hq e
                · by_cases h3 : t = 2 * k
                  · have e1 : t / 2 = k := by omega
                    rw [e1]
                    refine ⟨Ag, n k + 9, cg, by rw [List.getElem?_append_right (by omega)]; simp [h3, hLl], hkp _ _ _ _ HG1.out, by omega, fun j hj hjm q hq => ?_⟩
                    rcases HAG.out q hq with h4 | h4
                    · exact HD.out k j hlt hjm (by omega) q h4
                    · intro h5
                      have := ((HO.out j hjm).lt q (by rw [row_own]; exact h5)).2
                      omega
                  · have e1 : t / 2 = k := by omega
                    have e2 : t - 2 * k = 1 := by omega
                    rw [e1]
                    exact ⟨A k, n k, c k, by rw [List.getElem?_append_right (by omega)]; simp [hLl, e2], hkp _ _ _ _ HA1.out, by omega, fun j hj hjm q hq => HD.out k j hlt hjm (by omega) q hq⟩
              · intro j hj hjm
                refine hkp _ _ _ _ (own_keep (HRE.out j (by omega) hjm) fun q hq => HBU1.out.block q ((HRE.out j (by omega) hjm).lt q hq).2 fun e => ?_)
                rw [row_own] at hq
                exact HD.out k j hlt hjm (by omega) q e hq
              · have h1 : (wy.alloc (.cells #[.slice Ag (n k + 9) cg, .slice (A k) (n k) (c k)] 31)).heap[gr]? = wy.heap[gr]? := Below.heap_alloc _ _ _ (by omega)
                refine (hgr'.block gr (by rw [HSZ.out]; omega) ?_).trans (h1.trans ((HBU1.out.block gr hgo (fun e => HNE.out k hlt gr e rfl)).trans HGR.out))
                intro e
                have := (HLO.out.lt gr e.symm).1
                omega
              · refine (HB.out.trans (HBU1.out.below (fun q hq => (HXL.out q (by rw [row_own]; exact hq)).1) hBo)).trans ?_
                refine ((Below.refl B wy).alloc hBr _).grown hgr' (by rw [HSZ.out]; omega) ?_
                intro q hq
                have := (HLO.out.lt q hq).1
                omega
    · obtain rfl : k = m := by omega
      have HLO := Lib.hid hlo
      have HEN := Lib.hid hen
      have HB := Lib.hid hb
      have hcl := own_cap hlo
      clear hlo hen hre hgr hb
      go_wp2_with fail
      go_loop [9, 10] (fun i _ => ∃ t : Nat, t ≤ 2 * k ∧ i = .int .i64 t) (fun i _ => 2 * k - (intOf i).toNat)
      case atStart => exact ⟨0, by omega, rfl⟩
      case round =>
        obtain ⟨t, ht, rfl⟩ := hrel
        by_cases htl : t < 2 * k
        · obtain ⟨a, e, d, hL, hra, hee, _⟩ := HEN.out t htl
          have hsl := Src.of_own HLO.out
          obtain ⟨gl, rfl⟩ : ∃ gl, Al = some ⟨gl, 0, none⟩ := by
            obtain ⟨g1, cap, hv, _⟩ := HLO.out.form (by omega)
            injection hv with hv
            exact ⟨g1, hv⟩
          have hc0 : wo.cell? ⟨gl, t, none⟩ = some (.slice a e d) := by
            have := hsl.at_ _ rfl t _ hL
            rw [plain0] at this
            exact this
          have hcl2 := hsl.cap
          have sG := Lib.hid (Src.of_own hra)
          have hcd := own_cap hra
          clear hra hL hsl
          go_wp2_with fail
          go_loop [10] (fun q => ∃ i : Nat, i ≤ e ∧ q = .int .i64 i) (fun q => e - (intOf q).toNat)
          case atStart => exact ⟨0, by omega, rfl⟩
          case round =>
            obtain ⟨i, hi, rfl⟩ := hrel
            by_cases hlt2 : i < e
            · obtain ⟨ad, rfl⟩ : ∃ ad, a = some ad := by
                cases a with
                | none => have := (sG.out.nil rfl).1; omega
                | some ad => exact ⟨ad, rfl⟩
              have hcell : wo.cell? (ad.add i) = some (.int .u8 (mk (t / 2))) := sG.out.at_ ad rfl i _ (ones_get _ _ _ hlt2)
              have hcp := sG.out.cap
              have hmk2 : 1 + (t : Int) / 2 % 250 = mk (t / 2) := by unfold mk; omega
              go_wp2
              exact ⟨⟨i + 1, by omega, by go_num⟩, by simp [intOf]; omega⟩
            · obtain rfl : i = e := by omega
              go_wp2
              exact ⟨⟨t + 1, by omega, by go_num⟩, by simp [intOf]; omega⟩
        · obtain rfl : t = 2 * k := by omega
          go_wp2
          go_ret
          exact ⟨rfl, HB.out⟩
end
end Go.Proofs.Ythbdncojekpanaa
