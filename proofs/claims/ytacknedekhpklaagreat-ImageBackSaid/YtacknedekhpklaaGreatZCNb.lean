/-
  The reader of images: what it is in memory, and its small methods.
  The laws' helper Owned, of one row: what came out is its owner's.
  The laws' helper Owned, of one row: walked.
  The laws' helper Owned, of any rows that lie apart: walked.
-/
import Derived.Test.YtacknedekhpklaaGreatZGA
import Derived.Test.YtacknedekhpklaaGreatZCKa
import Derived.ArgAppend
import Derived.Test.YtacknedekhpklaaGreatZTC
namespace Go.Proofs.YtacknedekhpklaaGreat
set_option maxRecDepth 100000
set_option linter.unusedSimpArgs false
set_option linter.unusedVariables false
open Go.RowKit

/-- All older blocks but g and G are as they were. -/
structure Kr (G g : Nat) (w w' : World) : Prop where
  os : w'.os = w.os
  tape : w'.tape = w.tape
  output : w'.output = w.output
  size : w.heap.size ≤ w'.heap.size
  block : ∀ k, k < w.heap.size → k ≠ g → k ≠ G → w'.heap[k]? = w.heap[k]?
/-- A reader of images at G, over a cursor's reader at g: whether something stood in no form, and what is left. -/
structure Ri (w : World) (G g : Nat) (bad : Bool) (s : St) : Prop where
  rd : ∃ A c, Rd w (fun k => k < g) g s.1 A c s.2
  blk : Bx w G #[.pointer (some ⟨g, 0, none⟩), .bool bad] 102
  lt : g < G
/-- Behind a call that reads. -/
def Rb (w : World) (G g : Nat) (bad : Bool) (s : St) (v : Value) (en : Ending) (w' : World) : Prop := en = .returned v ∧ Ri w' G g bad s ∧ Kr G g w w'
section
variable {w w' w2 : World} {G g : Nat} {bad : Bool} {s : St}
theorem Kr.refl (G g : Nat) (w : World) : Kr G g w w := ⟨rfl, rfl, rfl, Nat.le_refl _, fun _ _ _ _ => rfl⟩
theorem Kr.trans (h : Kr G g w w') (k : Kr G g w' w2) : Kr G g w w2 :=
  ⟨k.os.trans h.os, k.tape.trans h.tape, k.output.trans h.output, Nat.le_trans h.size k.size, fun i hi h1 h2 => (k.block i (Nat.lt_of_lt_of_le hi h.size) h1 h2).trans (h.block i hi h1 h2)⟩
theorem Kr.of_below (h : Below w.heap.size w w') : Kr G g w w' := ⟨h.os, h.tape, h.output, h.size, fun i hi _ _ => h.block i hi⟩
theorem Kr.to_below {B : Nat} (h : Kr G g w w') (hB : B ≤ w.heap.size) (hg : B ≤ g) (hG : B ≤ G) : Below B w w' := ⟨h.os, h.tape, h.output, h.size, fun i hi => h.block i (by omega) (by omega) (by omega)⟩
theorem Kr.bx {b : Nat} {cs : Array Value} {t : TypeId} (h : Kr G g w w') (hb : Bx w b cs t) (hg : b ≠ g) (hG : b ≠ G) : Bx w' b cs t := (h.block b hb.lt hg hG).trans hb
theorem Src.kr {P : Nat → Prop} {A : Option Addr} {n c : Nat} {xs : List Value} (h : Src w P A n c xs) (k : Kr G g w w') (hP : ∀ i, P i → i ≠ g ∧ i ≠ G) : Src w' P A n c xs := h.keep fun i hi hl => k.block i hl (hP i hi).1 (hP i hi).2
theorem Ri.gt (h : Ri w G g bad s) : G < w.heap.size := h.blk.lt
theorem Ri.c0 (h : Ri w G g bad s) : w.cell? ⟨G, 0, none⟩ = some (.pointer (some ⟨g, 0, none⟩)) := h.blk.c 0
theorem Ri.c1 (h : Ri w G g bad s) : w.cell? ⟨G, 1, none⟩ = some (.bool bad) := h.blk.c 1
theorem Ri.f1 (h : Ri w G g bad s) : w.frozen? ⟨G, 1, none⟩ = false := h.blk.f 1
theorem Ri.keep (h : Ri w G g bad s) (hg : ∀ k, k ≤ g → w'.heap[k]? = w.heap[k]?) (hG : w'.heap[G]? = w.heap[G]?) : Ri w' G g bad s := by
  obtain ⟨⟨A, c, h1⟩, h2, h3⟩ := h
  exact ⟨⟨A, c, ⟨(hg g (Nat.le_refl _)).trans h1.blk, h1.src.keep fun k hk _ => hg k (Nat.le_of_lt hk), h1.ne, h1.lim, h1.small⟩⟩, hG.trans h2, h3⟩
theorem Ri.below (h : Ri w G g bad s) (hb : Below w.heap.size w w') : Ri w' G g bad s :=
  h.keep (fun k hk => hb.block k (by have := h.gt; have := h.lt; omega)) (hb.block G h.gt)
theorem Ri.is {s' : St} (h2 : Bx w G #[.pointer (some ⟨g, 0, none⟩), .bool bad] 102) (h3 : g < G) (hi : Is w (fun k => k < g) g s'.1 s'.2 w') : Ri w' G g bad s' ∧ Kr G g w w' := by
  obtain ⟨A, c, h4, h5⟩ := hi
  have hk : Kr G g w w' := ⟨h5.os, h5.tape, h5.output, h5.size, fun k hk hg _ => h5.block k hk (by intro e; injection e with e; exact hg (by omega))⟩
  exact ⟨⟨⟨A, c, h4⟩, (h5.block G h2.lt (by intro e; injection e with e; omega)).trans h2, h3⟩, hk⟩
theorem Ri.num (h : Ri w G g bad s) (size : Int) : Calls Tryz.prog 117 #[.pointer (some ⟨g, 0, none⟩), .int .i64 size] w (Rb w G g bad (rNum size s).2 (.int .i64 (rNum size s).1)) := by
  obtain ⟨⟨A, c, h1⟩, h2, h3⟩ := h
  exact (rnum_any _ g s A c size w h1).mono fun en w' k => ⟨k.1, Ri.is h2 h3 k.2⟩
theorem Ri.text (h : Ri w G g bad s) : Calls Tryz.prog 116 #[.pointer (some ⟨g, 0, none⟩)] w (Rb w G g bad (rMeas 2 4096 s).2 (str (rMeas 2 4096 s).1)) := by
  obtain ⟨⟨A, c, h1⟩, h2, h3⟩ := h
  exact (rtext_any _ g s A c w h1).mono fun en w' k => ⟨k.1, Ri.is h2 h3 k.2⟩
theorem Ri.block (h : Ri w G g bad s) : Calls Tryz.prog 131 #[.pointer (some ⟨g, 0, none⟩)] w fun en w' => ∃ A c, en = .returned (.slice A (rMeas 4 1048576 s).1.length c) ∧ w'.ownsRow w.heap.size 5 1 (.slice A (rMeas 4 1048576 s).1.length c) (rMeas 4 1048576 s).1.length (cells (rMeas 4 1048576 s).1) ∧ Ri w' G g bad (rMeas 4 1048576 s).2 ∧ Kr G g w w' := by
  obtain ⟨⟨A, c, h1⟩, h2, h3⟩ := h
  exact (rblock_any _ g s A c w h1).mono fun en w' ⟨A', c', k1, k2, k3⟩ => ⟨A', c', k1, k2, Ri.is h2 h3 k3⟩
theorem Ri.fault (h : Ri w G g bad s) : Calls Tryz.prog 185 #[.pointer (some ⟨g, 0, none⟩)] w fun en w' => en = .returned (.int .i64 s.1) ∧ w = w' := by
  obtain ⟨⟨A, c, h1⟩, h2, h3⟩ := h
  exact rfault_any _ g s.1 A c s.2 w h1
theorem Ri.end_ (h : Ri w G g bad s) : Calls Tryz.prog 52 #[.pointer (some ⟨g, 0, none⟩)] w fun en w' => en = .returned (.int .i64 (rEnd s)) ∧ w = w' := by
  obtain ⟨⟨A, c, h1⟩, h2, h3⟩ := h
  exact rend_any _ g s A c w h1
theorem Ri.setBad (h : Ri w G g bad s) : Ri (w.setCell ⟨G, 1, none⟩ (.bool true)) G g true s ∧ Kr G g w (w.setCell ⟨G, 1, none⟩ (.bool true)) := by
  obtain ⟨⟨A, c, h1⟩, h2, h3⟩ := h
  have ho : ∀ k, k ≠ G → (w.setCell ⟨G, 1, none⟩ (.bool true)).heap[k]? = w.heap[k]? := fun k hk => heap_setCell_other _ _ _ _ hk
  refine ⟨⟨⟨A, c, ⟨(ho g (by omega)).trans h1.blk, h1.src.keep fun k hk _ => ho k (by have : k < g := hk; omega), h1.ne, h1.lim, h1.small⟩⟩, ?_, h3⟩, rfl, rfl, rfl, by simp [World.setCell], fun k _ _ hk => ho k hk⟩
  have := heap_setCell_same w G 1 _ _ (.bool true) h2
  unfold Bx
  rw [this]
  rfl
end
set_option maxHeartbeats 400000 in
theorem rmark_any {G g : Nat} {bad : Bool} {s : St} (w : World) (h : Ri w G g bad s) :
    Calls Tryz.prog 115 #[.pointer (some ⟨G, 0, none⟩)] w (Rb w G g (bad || (rdMark s).2.1) (rdMark s).2.2 (.tuple #[])) := by
  have hc := h.c0
  have HT := Lib.hid h.text
  have HB := Lib.hid (show (rdMark s).2.1 = !decide ((rMeas 2 4096 s).1 = mark) from rfl)
  have HS := Lib.hid (show (rdMark s).2.2 = (rMeas 2 4096 s).2 from rfl)
  generalize (rdMark s).2.1 = b at *
  generalize (rdMark s).2.2 = s2 at *
  obtain rfl := HS.out
  clear HS h
  generalize rMeas 2 4096 s = t at *
  obtain ⟨l, s'⟩ := t
  simp only at HT HB
  by_cases hl : l = mark
  · have HV := Lib.hid (show (bad || b) = bad by rw [HB.out, hl]; simp)
    subst hl
    go_enter Tryz.func115, Tryz.ntmps115
    go_wp2_with (go_at_call 116; (with_reducible refine (HT.out).mono ?_); rintro en w1 ⟨rfl, h1, h2⟩; have H1 := Lib.hid h1; have H2 := Lib.hid h2; clear h1 h2)
    first | go_end0 | skip
    exact ⟨rfl, by rw [HV.out]; exact H1.out, H2.out⟩
  · have HV := Lib.hid (show (bad || b) = true by rw [HB.out]; simp [hl])
    have hlb : (!l == [99, 108, 101, 118, 105, 115, 49]) = true := by simpa using hl
    clear hl
    go_enter Tryz.func115, Tryz.ntmps115
    go_upto_region 1 with (go_at_call 116; (with_reducible refine (HT.out).mono ?_); rintro en w1 ⟨rfl, h1, h2⟩; have H1 := Lib.hid h1; have H2 := Lib.hid h2; clear h1 h2)
    have hc1 := H1.out.c1
    have hf := H1.out.f1
    go_wp2_with fail
    first | go_end0 | skip
    exact ⟨rfl, by rw [HV.out]; exact H1.out.setBad.1, H2.out.trans H1.out.setBad.2⟩
set_option maxHeartbeats 400000 in
theorem rbit_any {G g : Nat} {bad : Bool} {s : St} (w : World) (h : Ri w G g bad s) :
    Calls Tryz.prog 187 #[.pointer (some ⟨G, 0, none⟩)] w (Rb w G g (bad || (rdBit s).2.1) (rdBit s).2.2 (.bool (rdBit s).1)) := by
  rw [rdBit_eq]
  have hc := h.c0
  have HT := Lib.hid (h.num 1)
  clear h
  generalize rNum 1 s = t at *
  obtain ⟨n, s'⟩ := t
  rw [mkBit_bad, mkBit_st, mkBit_val]
  simp only at HT ⊢
  by_cases hn : 1 < n
  · have HV := Lib.hid (show (bad || bitBad n) = true by unfold bitBad; rw [decide_eq_true hn]; simp)
    have HW := Lib.hid (show bitOf n = false by unfold bitOf; simp; omega)
    have hne : (n == 1) = false := by simp; omega
    go_enter Tryz.func187, Tryz.ntmps187
    go_upto_region 3 with (go_at_call 117; (with_reducible refine (HT.out).mono ?_); rintro en w1 ⟨rfl, h1, h2⟩; have H1 := Lib.hid h1; have H2 := Lib.hid h2; clear h1 h2)
    have hc1 := H1.out.c1
    have hf := H1.out.f1
    go_wp2_with fail
    go_ret
    exact ⟨by rw [HW.out]; rfl, by rw [HV.out]; exact H1.out.setBad.1, H2.out.trans H1.out.setBad.2⟩
  · have HV := Lib.hid (show (bad || bitBad n) = bad by unfold bitBad; rw [decide_eq_false hn]; simp)
    have HW := Lib.hid (show bitOf n = (n == 1) from rfl)
    go_enter Tryz.func187, Tryz.ntmps187
    go_wp2_with (go_at_call 117; (with_reducible refine (HT.out).mono ?_); rintro en w1 ⟨rfl, h1, h2⟩; have H1 := Lib.hid h1; have H2 := Lib.hid h2; clear h1 h2)
    go_ret
    exact ⟨by rw [HW.out]; rfl, by rw [HV.out]; exact H1.out, H2.out⟩
set_option maxHeartbeats 400000 in
theorem rword_any {G g : Nat} {bad : Bool} {s : St} (w : World) (h : Ri w G g bad s) :
    Calls Tryz.prog 217 #[.pointer (some ⟨G, 0, none⟩)] w (Rb w G g bad (rdWd s).2.2 (Siv.u64v (rdWd s).1)) := by
  have hc := h.c0
  have HT := Lib.hid (h.num 8)
  have HW := Lib.hid (show (rdWd s).2.2 = (rNum 8 s).2 ∧ (rdWd s).1 = toU (rNum 8 s).1 from ⟨rfl, rfl⟩)
  rw [HW.out.1, HW.out.2]
  clear h HW
  generalize rNum 8 s = t at *
  obtain ⟨n, s'⟩ := t
  simp only at HT ⊢
  have HV := Lib.hid (show Siv.u64v (toU n) = .int .u64 (IntKind.u64.wrap n) by unfold Siv.u64v; rw [toU_nat, IntKind.wrap_u64])
  go_enter Tryz.func217, Tryz.ntmps217
  go_wp2_with (go_at_call 117; (with_reducible refine (HT.out).mono ?_); rintro en w1 ⟨rfl, h1, h2⟩; have H1 := Lib.hid h1; have H2 := Lib.hid h2; clear h1 h2)
  go_ret
  exact ⟨by rw [HV.out, IntKind.wrap_u64]; rfl, H1.out, H2.out⟩
/-- A closure that reads a number: it holds the reader's box. -/
theorem rnum1_any {G g b : Nat} {bad : Bool} {s : St} (w : World) (h : Ri w G g bad s) (hb : w.cell? ⟨b, 0, none⟩ = some (.pointer (some ⟨G, 0, none⟩))) :
    Calls Tryz.prog 192 #[.pointer (some ⟨b, 0, none⟩)] w (Rb w G g bad (rNum 4 s).2 (.int .i64 (rNum 4 s).1)) ∧
    Calls Tryz.prog 215 #[.pointer (some ⟨b, 0, none⟩)] w (Rb w G g bad (rNum 2 s).2 (.int .i64 (rNum 2 s).1)) := by
  have hc := h.c0
  have HT := Lib.hid (h.num 4)
  have HU := Lib.hid (h.num 2)
  clear h
  refine ⟨?_, ?_⟩
  · generalize rNum 4 s = t at *
    go_enter Tryz.func192, Tryz.ntmps192
    go_wp2_with (go_at_call 117; (with_reducible refine (HT.out).mono ?_); rintro en w1 ⟨rfl, h1, h2⟩; have H1 := Lib.hid h1; have H2 := Lib.hid h2; clear h1 h2)
    go_ret
    exact ⟨rfl, H1.out, H2.out⟩
  · generalize rNum 2 s = t at *
    go_enter Tryz.func215, Tryz.ntmps215
    go_wp2_with (go_at_call 117; (with_reducible refine (HU.out).mono ?_); rintro en w1 ⟨rfl, h1, h2⟩; have H1 := Lib.hid h1; have H2 := Lib.hid h2; clear h1 h2)
    go_ret
    exact ⟨rfl, H1.out, H2.out⟩
end Go.Proofs.YtacknedekhpklaaGreat

namespace Go.Proofs.YtacknedekhpklaaGreat
set_option maxRecDepth 100000
set_option linter.unusedSimpArgs false
set_option linter.unusedVariables false
open Go.RowKit

def ones (k : Nat) (x : Int) : List Value := List.replicate k (.int .u8 x)
theorem ones_len (k : Nat) (x : Int) : (ones k x).length = k := by simp [ones]
/-- A row of so many marks. -/
def RowIs (w : World) (B : Nat) (A : Option Addr) (n c : Nat) (x : Int) : Prop := w.ownsRow B 5 1 (.slice A n c) n (ones n x)
theorem RowIs.keep {w w' : World} {B : Nat} {A : Option Addr} {n c : Nat} {x : Int} (h : RowIs w B A n c x) (hk : ∀ k, row A = some k → w'.heap[k]? = w.heap[k]?) : RowIs w' B A n c x := by
  refine ⟨h.1, ?_⟩
  rcases h.2 with h1 | ⟨g', cap, cur, hv, hb, hh, hx⟩
  · exact .inl h1
  · refine .inr ⟨g', cap, cur, hv, hb, (hk g' ?_).trans hh, hx⟩
    injection hv with h1
    subst h1
    rfl
theorem RowIs.lt {w : World} {B : Nat} {A : Option Addr} {n c : Nat} {x : Int} (h : RowIs w B A n c x) : ∀ k, row A = some k → B ≤ k ∧ k < w.heap.size := by
  intro k hk
  exact World.ownsRow.lt h k (by rw [row_own]; exact hk)
/-- Two rows in one block: the shorter one is the longer one's front. -/
theorem RowIs.front {w w' : World} {B : Nat} {A Ag : Option Addr} {n c m cg : Nat} {x : Int} {m' : Nat} (h : RowIs w B A n c x) (hg : RowIs w B Ag m cg x) (hg' : RowIs w' B Ag m' cg x) (hA : A = Ag) (hn : n ≤ m') : RowIs w' B A n c x := by
  subst hA
  rcases h.2 with ⟨h1, h2⟩ | ⟨g1, cap1, cur1, hv1, hb1, hh1, _, hm1, hs1, _⟩
  · exact ⟨h.1, .inl ⟨h1, h2⟩⟩
  · rcases hg.2 with ⟨h1, _⟩ | ⟨g2, cap2, cur2, hv2, _, hh2, _, _, hs2, _⟩
    · injection h1 with h1
      subst h1
      injection hv1 with e
      cases e
    · injection hv1 with e1 _ e2
      injection hv2 with e3 _ e4
      subst e1
      injection e3 with e3
      injection e3 with e3
      subst e2 e3 e4
      rw [hh1] at hh2
      injection hh2 with hh2
      injection hh2 with hh2
      subst hh2
      have hcc : c = cg := by omega
      subst hcc
      rcases hg'.2 with ⟨h1, _⟩ | ⟨g3, cap3, cur3, hv3, hb3, hh3, hle3, hm3, hs3, ht3⟩
      · cases h1
      · injection hv3 with e5 _ e6
        injection e5 with e5
        injection e5 with e5
        subst e5 e6
        refine ⟨by simp [ones], .inr ⟨g1, c, cur3, rfl, hb1, hh3, by omega, hm3, hs3, ?_⟩⟩
        have : cur3.toList.take (n * 1) = (cur3.toList.take (m' * 1)).take n := by rw [List.take_take]; congr 1; omega
        rw [this, ht3]
        simp [ones]
        omega

/-- One mark more behind a row; another row of the same marks, of the same block or of another one, reads as it did. -/
theorem wpList_append_twin {w : World} {ops : Array Oper} {rest : List Oper} {o : Oper} {a : Act} {Q : Exit → Act → World → Prop} (hgd : o.guard = none) (s x : Operand)
    (ho : o.op = .call { callee := .builtin .append, args := #[s, x], argTypes := #[36, 36] })
    (B : Nat) (A : Option Addr) (n c : Nat) (Ag : Option Addr) (m cg : Nat) (y : Int) (hs : a.eval s = .slice Ag m cg) (hA : RowIs w B A n c y) (hg : RowIs w B Ag m cg y) (hnm : n ≤ m)
    (ad : Addr) (hx : a.eval x = .slice (some ad) 1 1) (hc : w.cell? ad = some (.int .u8 y)) (hb : m + 1 ≤ 140737488355328) (hB : B ≤ w.heap.size)
    (hK : ∀ A' c' w', RowIs w' B A n c y → RowIs w' B A' (m + 1) c' y → w.grownBy w' (row Ag) → (∀ q, row A' = some q → row Ag = some q ∨ w.heap.size ≤ q) → wpList Tryz.prog ops Q rest (a.put o.dst (.slice A' (m + 1) c')) w') : wpList Tryz.prog ops Q (o :: rest) a w := by
  obtain ⟨i0, hi, hz0, hz1, hz2⟩ := info_parts Tryz.info_byte
  have hnew : ∀ j u, [Value.int .u8 y][j]? = some u → w.cell? (ad.add j) = some u := by
    intro j u hj
    match j, hj with
    | 0, hj =>
      simp at hj
      subst hj
      have e : ad.add 0 = ad := by unfold Addr.add; simp
      rw [e]
      exact hc
  have h1c : ∀ u ∈ [Value.int .u8 y], u.oneCell' = true := by intro u hu; simp at hu; subst hu; rfl
  have hones : ones m y ++ [.int .u8 y] = ones (m + 1) y := by simp [ones, List.replicate_succ']
  by_cases hroom : m + 1 ≤ cg
  · -- there is room: the row's own block is written
    rcases hg.2 with ⟨h1, _⟩ | ⟨g, cap, cur, hv, hbg, hh, hle, hmx, hsz, htk⟩
    · injection h1 with _ _ h1; omega
    · injection hv with e1 _ e2
      subst e1 e2
      refine wpList_append_fits w hgd s x 36 ho B 5 i0 1 Tryz.underlying36 hi hz1 g m cg (ones m y) hs hg ad 1 1 [.int .u8 y] hx rfl hnew h1c hroom ?_
      intro w' hown hgr
      rw [hones] at hown
      refine hK _ _ w' ?_ hown hgr fun q hq => .inl hq
      by_cases hAg : A = some ⟨g, 0, none⟩
      · exact RowIs.front hA hg hown hAg (by omega)
      · refine hA.keep fun k hk => hgr.block k (hA.lt k hk).2 ?_
        intro e
        injection e with e
        subst e
        rcases hA.2 with ⟨h1, _⟩ | ⟨g', cap', cur', hv', _⟩
        · injection h1 with h1; subst h1; cases hk
        · injection hv' with h1
          subst h1
          injection hk with hk
          have : g' = k := hk
          subst this
          exact hAg rfl
  · refine wpList_append_grows w hgd s x 36 ho 5 i0 (.int .u8 0) 1 1 Tryz.underlying36 hi hz0 hz1 hz2 rfl (by omega) Ag m cg (ones m y) hs ?_ (by simp [ones]) ?_ ad 1 1 [.int .u8 y] hx rfl hnew h1c (by omega) (by simp only [maxLen]; omega) (by omega) ?_
    · intro e
      rcases hg.2 with ⟨h1, h2⟩ | ⟨g, cap, cur, hv, _⟩
      · injection h1 with _ _ h1; exact ⟨h2, h1⟩
      · rw [e] at hv; injection hv with h1; cases h1
    · intro b hb' j u hu
      subst hb'
      rcases hg.2 with ⟨h1, _⟩ | ⟨g, cap, cur, hv, _⟩
      · cases h1
      · have h2 := World.ownsRow.cells hg (g := b.block) rfl
        injection hv with h1
        injection h1 with h1
        subst h1
        exact h2 j u hu
    · intro v' w' hown hgr
      rw [hones] at hown
      obtain ⟨A', c', rfl⟩ := own_slice hown
      exact hK A' c' w' (hA.keep fun k hk => hgr.block k (hA.lt k hk).2 (by intro e; cases e)) (own_more hown hB) ⟨hgr.os, hgr.tape, hgr.output, hgr.size, fun k hk _ => hgr.block k hk (by intro e; cases e)⟩ fun q hq => .inr (World.ownsRow.lt hown q (by rw [row_own]; exact hq)).1
end Go.Proofs.YtacknedekhpklaaGreat

namespace Go.Proofs.YtacknedekhpklaaGreat
set_option maxRecDepth 100000
set_option linter.unusedSimpArgs false
set_option linter.unusedVariables false
open Go.RowKit

theorem Tryz.info_bytes : (Tryz.prog.info? 36).map (fun i => (i.zero, i.size, i.bytes)) = some (some (.slice none 0 0), 1, 24) := by kernel_rfl

theorem ones_get (k i : Nat) (x : Int) (h : i < k) : (ones k x)[i]? = some (.int .u8 x) := by
  unfold ones
  rw [List.getElem?_replicate, if_pos h]

end Go.Proofs.YtacknedekhpklaaGreat

namespace Go.Proofs.YtacknedekhpklaaGreat
set_option maxRecDepth 100000
set_option linter.unusedSimpArgs false
set_option linter.unusedVariables false
open Go.RowKit

theorem own_keep {w w' : World} {B s n : Nat} {e : TypeId} {v : Value} {xs : List Value} (h : w.ownsRow B e s v n xs) (hk : ∀ k, v.ownBlock = some k → w'.heap[k]? = w.heap[k]?) : w'.ownsRow B e s v n xs := by
  refine ⟨h.1, ?_⟩
  rcases h.2 with h1 | ⟨g', cap, cur, hv, hb, hh, hx⟩
  · exact .inl h1
  · exact .inr ⟨g', cap, cur, hv, hb, (hk g' (by rw [hv]; rfl)).trans hh, hx⟩
/-- All old blocks but the row's are as they were. -/
structure But (A : Option Addr) (w w' : World) : Prop where
  os : w'.os = w.os
  tape : w'.tape = w.tape
  output : w'.output = w.output
  size : w.heap.size ≤ w'.heap.size
  block : ∀ k, k < w.heap.size → row A ≠ some k → w'.heap[k]? = w.heap[k]?
theorem But.refl (A : Option Addr) (w : World) : But A w w := ⟨rfl, rfl, rfl, Nat.le_refl _, fun _ _ _ => rfl⟩
theorem But.trans {A : Option Addr} {a b c : World} (h : But A a b) (k : But A b c) : But A a c :=
  ⟨k.os.trans h.os, k.tape.trans h.tape, k.output.trans h.output, Nat.le_trans h.size k.size, fun i hi hr => (k.block i (Nat.lt_of_lt_of_le hi h.size) hr).trans (h.block i hi hr)⟩
theorem But.below {A : Option Addr} {B : Nat} {w w' : World} (h : But A w w') (hA : ∀ k, row A = some k → B ≤ k) (hB : B ≤ w.heap.size) : Below B w w' :=
  ⟨h.os, h.tape, h.output, h.size, fun k hk => h.block k (by omega) (fun e => by have := hA k e; omega)⟩

theorem plain0 (b k : Nat) : (⟨b, 0, none⟩ : Addr).add k = ⟨b, k, none⟩ := by unfold Addr.add; split <;> simp_all
def mk (i : Nat) : Int := 1 + (i : Int) % 250

set_option maxHeartbeats 4000000 in
set_option maxRecDepth 100000 in
theorem owned_many (B gr m : Nat) (A : Nat → Option Addr) (n c : Nat → Nat) (xs : Nat → List Value) (cur : Array Value) (w : World) (hm : m ≤ 1048576) (hrow : w.heap[gr]? = some (.cells cur 36 (0, 0))) (hcur : ∀ i, i < m → cur[i]? = some (.slice (A i) (n i) (c i)))
    (hown : ∀ i, i < m → w.ownsRow B 5 1 (.slice (A i) (n i) (c i)) (n i) (xs i)) (hdis : ∀ i j, i < m → j < m → i ≠ j → ∀ k, row (A i) = some k → row (A j) ≠ some k) (hB : B ≤ w.heap.size) (hn : ∀ i, i < m → n i ≤ 140737488351232) :
    Calls Tryz.prog 15 #[.slice (some ⟨gr, 0, none⟩) m m] w fun en w' => en = .returned (.bool true) ∧ Below B w w' := by
  have hgl : gr < w.heap.size := lt_of_block hrow
  have hne : ∀ i, i < m → ∀ k, row (A i) = some k → k ≠ gr := by
    intro i hi k hk e
    subst e
    rcases (hown i hi).2 with ⟨h1, _⟩ | ⟨g', cap, cu, hv, _, hh, _⟩
    · injection h1 with h1; rw [h1] at hk; cases hk
    · injection hv with h1
      rw [h1] at hk
      injection hk with hk
      have : g' = k := hk
      subst this
      rw [hrow] at hh
      injection hh with hh
      injection hh with _ ht
      cases ht
  have HR := Lib.hid hrow
  have HCU := Lib.hid hcur
  have HO := Lib.hid hown
  have HD := Lib.hid hdis
  have HN := Lib.hid hn
  have HNE := Lib.hid hne
  clear hrow hcur hown hdis hn hne
  go_enter Tryz.func15, Tryz.ntmps15
  go_wp2_with fail
  go_loopw [3, 4] (fun lg i wr => ∃ (k : Nat) (Al : Option Addr) (cl : Nat) (L : List Value), k ≤ m ∧ i = .int .i64 k ∧ lg = .slice Al (2 * k) cl ∧ wr.ownsRow w.heap.size 36 1 (.slice Al (2 * k) cl) (2 * k) L ∧
    (∀ t, t < 2 * k → ∃ a e d, L[t]? = some (.slice a e d) ∧ RowIs wr B a e d (mk (t / 2)) ∧ e ≤ 140737488355328 ∧ ∀ j, k ≤ j → j < m → ∀ q, row a = some q → row (A j) ≠ some q) ∧
    (∀ j, k ≤ j → j < m → wr.ownsRow B 5 1 (.slice (A j) (n j) (c j)) (n j) (xs j)) ∧ wr.heap[gr]? = w.heap[gr]? ∧ Below B w wr) (fun _ i _ => m - (intOf i).toNat)
  case atStart => exact ⟨0, none, 0, [], Nat.zero_le _, rfl, rfl, World.ownsRow_nil _ _ _ _, (by intro t ht; omega), (fun j _ hj => HO.out j hj), rfl, Below.refl _ _⟩
  case round =>
    obtain ⟨k, Al, cl, L, hk, rfl, rfl, hlo, hen, hre, hgr, hb⟩ := hrel
    obtain ⟨wo, rfl⟩ : ∃ wo : World, wo = wr := ⟨_, rfl⟩
    by_cases hlt : k < m
    · have hk0 : wo.cell? ⟨gr, k, none⟩ = some (.slice (A k) (n k) (c k)) := (cell_of_row wo gr k _ _ _ (hgr.trans HR.out)).trans (HCU.out k hlt)
      have hxo := hre k (Nat.le_refl _) hlt
      have hnk := HN.out k hlt
      have HXO := Lib.hid hxo
      have hcw := own_cap hxo
      have HLO := Lib.hid hlo
      have HEN := Lib.hid hen
      have HRE := Lib.hid hre
      have HGR := Lib.hid hgr
      have HB := Lib.hid hb
      have hBo : B ≤ wo.heap.size := Nat.le_trans hB hb.size
      have hgo : gr < wo.heap.size := Nat.lt_of_lt_of_le hgl hb.size
      have HXL := Lib.hid hxo.lt
      have hmk : 1 + (k : Int) % 250 = mk k := rfl
      clear hlo hen hre hgr hb hxo
      go_wp2_with fail
      go_loopw [6] (fun q wr => ∃ j : Nat, j ≤ n k ∧ q = .int .i64 j ∧ wr.ownsRow B 5 1 (.slice (A k) (n k) (c k)) (n k) (ones j (mk k) ++ (xs k).drop j) ∧ But (A k) wo wr) (fun q _ => n k - (intOf q).toNat)
      case atStart => exact ⟨0, Nat.zero_le _, rfl, HXO.out, But.refl _ _⟩
      case round =>
        obtain ⟨j, hj, rfl, ho, hbu⟩ := hrel
        have hgr1 := hbu.block gr hgo (fun e => HNE.out k hlt gr e rfl)
        have hk1 : wr.cell? ⟨gr, k, none⟩ = some (.slice (A k) (n k) (c k)) := (cell_of_row wr gr k _ _ _ ((hgr1.trans HGR.out).trans HR.out)).trans (HCU.out k hlt)
        by_cases hjt : j < n k
        · obtain ⟨g1, hA1⟩ : ∃ g1, A k = some ⟨g1, 0, none⟩ := by
            obtain ⟨g1, cap, hv, _⟩ := ho.form (by omega)
            injection hv with hv
            exact ⟨g1, hv⟩
          have hxl : (xs k).length = n k := by have := HXO.out.1; omega
          rw [hA1] at ho hk1
          have hjc : ∃ u, wr.cell? ⟨g1, j, none⟩ = some u := by
            rw [ho.cellAt j (by omega)]
            have hlen : j < (ones j (mk k) ++ (xs k).drop j).length := by rw [List.length_append, ones_len, List.length_drop]; omega
            exact ⟨_, List.getElem?_eq_getElem hlen⟩
          obtain ⟨u, hjc⟩ := hjc
          have hjf := ho.frozenAt j
          obtain ⟨hs1, hs2⟩ := ho.stored j (.int .u8 (mk k))
          have e1 : (ones j (mk k) ++ (xs k).drop j).set j (.int .u8 (mk k)) = ones (j + 1) (mk k) ++ (xs k).drop (j + 1) := by
            have hd : (xs k).drop j = (xs k)[j]'(by omega) :: (xs k).drop (j + 1) := List.drop_eq_getElem_cons (by omega)
            rw [hd]
            have := List.set_append_right (s := ones j (mk k)) (t := (xs k)[j]'(by omega) :: (xs k).drop (j + 1)) j (.int .u8 (mk k)) (by rw [ones_len]; omega)
            rw [this, ones_len, Nat.sub_self]
            show ones j (mk k) ++ (Value.int .u8 (mk k) :: (xs k).drop (j + 1)) = _
            simp [ones, List.replicate_succ', List.append_assoc]
          rw [e1] at hs1
          have hle : n k ≤ c k := by
            rcases ho.2 with ⟨h1, _⟩ | ⟨_, _, _, hv, _, _, hnc, _⟩
            · cases h1
            · injection hv with _ _ h3; omega
          have HS1 := Lib.hid hs1
          have HA1 := Lib.hid hA1
          have HBU := Lib.hid (hbu.trans ⟨hs2.os, hs2.tape, hs2.output, hs2.size, fun q hq hr => hs2.block q hq (fun e => hr (by rw [hA1]; injection e with e; rw [e]; rfl))⟩)
          clear ho hbu hs1 hs2 e1 hxl hgr1 hA1
          go_wp2
          exact ⟨⟨j + 1, by omega, by go_num, by rw [HA1.out]; exact HS1.out, HBU.out⟩, by simp [intOf]; omega⟩
        · have hjn : j = n k := by omega
          subst hjn
          have hd : (xs k).drop (n k) = [] := List.drop_eq_nil_of_le (by have := HXO.out.1; omega)
          rw [hd, List.append_nil] at ho
          have HA := Lib.hid (show RowIs wr B (A k) (n k) (c k) (mk k) from ho)
          have HBU := Lib.hid hbu
          clear ho hbu hd hgr1
          obtain ⟨wq, rfl⟩ : ∃ wq : World, wq = wr := ⟨_, rfl⟩
          go_wp2_with fail
          go_loopw [7, 8] (fun g q wr => ∃ (i : Nat) (Ag : Option Addr) (cg : Nat), i ≤ 9 ∧ q = .int .i64 i ∧ g = .slice Ag (n k + i) cg ∧ RowIs wr B (A k) (n k) (c k) (mk k) ∧ RowIs wr B Ag (n k + i) cg (mk k) ∧ But (A k) wo wr ∧ (∀ q, row Ag = some q → row (A k) = some q ∨ wo.heap.size ≤ q)) (fun _ q _ => 9 - (intOf q).toNat)
          case atStart => exact ⟨0, A k, c k, by omega, rfl, rfl, HA.out, HA.out, HBU.out, fun q hq => .inl hq⟩
          case round =>
            obtain ⟨i, Ag, cg, hi, rfl, rfl, hA, hG, hbu, hag⟩ := hrel
            by_cases hlt2 : i < 9
            · have hcA := own_cap hA
              have hcG := own_cap hG
              have hszo := hbu.size
              have HA1 := Lib.hid (hA.keep (w' := wr.alloc (.cells #[.int .u8 (mk k)] 5)) fun q hq => Below.heap_alloc _ _ _ (hA.lt q hq).2)
              have HG1 := Lib.hid (hG.keep (w' := wr.alloc (.cells #[.int .u8 (mk k)] 5)) fun q hq => Below.heap_alloc _ _ _ (hG.lt q hq).2)
              have hcn : (wr.alloc (.cells #[.int .u8 (mk k)] 5)).cell? ⟨wr.heap.size, 0, none⟩ = some (.int .u8 (mk k)) := by simp
              have HCN := Lib.hid hcn
              have HBU1 := Lib.hid (hbu.trans (c := wr.alloc (.cells #[.int .u8 (mk k)] 5)) ⟨rfl, rfl, rfl, by simp, fun q hq _ => Below.heap_alloc _ _ _ hq⟩)
              have hsz : (wr.alloc (.cells #[.int .u8 (mk k)] 5)).heap.size = wr.heap.size + 1 := by simp
              have HSZ := Lib.hid hsz
              have HAG := Lib.hid hag
              clear hA hG hbu hcn hsz hag
              go_wp2_with (at_builtin; refine wpList_append_twin rfl (.tmp 45) (.tmp 47) rfl B (A k) (n k) (c k) Ag (n k + i) cg (mk k) rfl HA1.out HG1.out (by omega) ⟨wr.heap.size, 0, none⟩ rfl HCN.out (by omega) (by rw [HSZ.out]; omega) ?_; intro A' c' w' hA' hG' hgr' hat'; have HA2 := Lib.hid hA'; have HG2 := Lib.hid hG'; have HGR' := Lib.hid hgr'; have HAT := Lib.hid hat'; clear hA' hG' hgr' hat')
              refine ⟨⟨i + 1, A', c', by omega, by go_num, rfl, HA2.out, HG2.out, ?_, ?_⟩, by simp [intOf]; omega⟩
              · refine ⟨HGR'.out.os.trans HBU1.out.os, HGR'.out.tape.trans HBU1.out.tape, HGR'.out.output.trans HBU1.out.output, Nat.le_trans HBU1.out.size HGR'.out.size, fun q hq hr => (HGR'.out.block q (Nat.lt_of_lt_of_le hq HBU1.out.size) ?_).trans (HBU1.out.block q hq hr)⟩
                intro e
                rcases HAG.out q e.symm with h1 | h1
                · exact hr h1
                · omega
              · intro q hq
                rcases HAT.out q hq with h1 | h1
                · exact HAG.out q h1
                · rw [HSZ.out] at h1
                  exact .inr (by omega)
            · obtain rfl : i = 9 := by omega
              have hk2 : wr.cell? ⟨gr, k, none⟩ = some (.slice (A k) (n k) (c k)) := (cell_of_row wr gr k _ _ _ (((hbu.block gr hgo (fun e => HNE.out k hlt gr e rfl)).trans HGR.out).trans HR.out)).trans (HCU.out k hlt)
              obtain ⟨i0, hi0, hz0, hz1, hz2⟩ := info_parts Tryz.info_bytes
              have hBr : B ≤ wr.heap.size := Nat.le_trans hBo hbu.size
              have hszw : w.heap.size ≤ wo.heap.size := HB.out.size
              have hszo : wo.heap.size ≤ wr.heap.size := hbu.size
              have hlr : (wr.alloc (.cells #[.slice Ag (n k + 9) cg, .slice (A k) (n k) (c k)] 36)).ownsRow w.heap.size 36 1 (.slice Al (2 * k) cl) (2 * k) L := by
                refine own_keep HLO.out fun q hq => ?_
                have hql := (HLO.out.lt q hq).2
                refine (Below.heap_alloc _ _ _ (Nat.lt_of_lt_of_le hql hszo)).trans (hbu.block q hql ?_)
                rw [← row_own _ (n k) (c k)]
                exact own_ne HLO.out HXO.out (by decide) q hq
              have HLR := Lib.hid hlr
              have HA1 := Lib.hid hA
              have HG1 := Lib.hid hG
              have HBU1 := Lib.hid hbu
              have HAG := Lib.hid hag
              have hsz : (wr.alloc (.cells #[.slice Ag (n k + 9) cg, .slice (A k) (n k) (c k)] 36)).heap.size = wr.heap.size + 1 := by simp
              have HSZ := Lib.hid hsz
              have hsrc : Src (wr.alloc (.cells #[.slice Ag (n k + 9) cg, .slice (A k) (n k) (c k)] 36)) (fun _ => True) (some ⟨wr.heap.size, 0, none⟩) 2 2 [.slice Ag (n k + 9) cg, .slice (A k) (n k) (c k)] := by
                refine ⟨rfl, (by intro h; cases h), Nat.le_refl _, (fun _ _ _ => trivial), ?_⟩
                intro ad h j u hu
                cases h
                exact World.news_of_block (heap_alloc_new wr _) j u hu
              have HSR := Lib.hid hsrc
              have h1c : ∀ u ∈ [Value.slice Ag (n k + 9) cg, Value.slice (A k) (n k) (c k)], u.oneCell' = true := by
                intro u hu
                simp at hu
                rcases hu with rfl | rfl <;> rfl
              clear hA hG hbu hag hsz hsrc hlr
              obtain ⟨wy, rfl⟩ : ∃ wy : World, wy = wr := ⟨_, rfl⟩
              go_wp2_with (at_builtin; refine wpList_append_src rfl (.tmp 49) (.tmp 55) 48 rfl w.heap.size 36 i0 (.slice none 0 0) 24 Tryz.underlying48 hi0 hz0 hz1 hz2 rfl (.slice Al (2 * k) cl) (2 * k) L rfl HLR.out _ _ 2 2 _ rfl HSR.out h1c (by simp only [maxLen]; omega) (by omega) (by rw [HSZ.out]; omega) ?_; intro v' w' hown' hgr' hat'; obtain ⟨Al', cl', rfl⟩ := own_slice hown')
              have hkp : ∀ a nn d ys, wy.ownsRow B 5 1 (.slice a nn d) nn ys → w'.ownsRow B 5 1 (.slice a nn d) nn ys := by
                intro a nn d ys ho
                refine own_keep ho fun q hq => ?_
                have hql := (ho.lt q hq).2
                have h1 : (wy.alloc (.cells #[.slice Ag (n k + 9) cg, .slice (A k) (n k) (c k)] 36)).heap[q]? = wy.heap[q]? := Below.heap_alloc _ _ _ hql
                refine (hgr'.block q (by rw [HSZ.out]; omega) ?_).trans h1
                intro e
                exact own_ne HLR.out (own_keep (w' := wy.alloc (.cells #[.slice Ag (n k + 9) cg, .slice (A k) (n k) (c k)] 36)) ho fun q hq => Below.heap_alloc _ _ _ (ho.lt q hq).2) (by decide) q e.symm hq
              refine ⟨⟨k + 1, Al', cl', _, by omega, by go_num, rfl, hown', ?_, ?_, ?_, ?_⟩, by simp [intOf]; omega⟩
              · intro t ht
                have hLl : L.length = 2 * k := by have := HLO.out.1; omega
                by_cases h2 : t < 2 * k
                · obtain ⟨a, e, d, hL, hra, hee, hda⟩ := HEN.out t h2
                  refine ⟨a, e, d, by rw [List.getElem?_append_left (by omega)]; exact hL, ?_, hee, fun j hj hjm => hda j (by omega) hjm⟩
                  refine hkp _ _ _ _ (hra.keep fun q hq => HBU1.out.block q (hra.lt q hq).2 fun e => ?_)
                  exact hda k (Nat.le_refl _) hlt q hq e
                · by_cases h3 : t = 2 * k
                  · have e1 : t / 2 = k := by omega
                    rw [e1]
                    refine ⟨Ag, n k + 9, cg, by rw [List.getElem?_append_right (by omega)]; simp [h3, hLl], hkp _ _ _ _ HG1.out, by omega, fun j hj hjm q hq => ?_⟩
                    rcases HAG.out q hq with h4 | h4
                    · exact HD.out k j hlt hjm (by omega) q h4
                    · intro h5
                      have := ((HO.out j hjm).lt q (by rw [row_own]; exact h5)).2
                      omega
                  · have e1 : t / 2 = k := by omega
                    have e2 : t - 2 * k = 1 := by omega
                    rw [e1]
                    exact ⟨A k, n k, c k, by rw [List.getElem?_append_right (by omega)]; simp [hLl, e2], hkp _ _ _ _ HA1.out, by omega, fun j hj hjm q hq => HD.out k j hlt hjm (by omega) q hq⟩
              · intro j hj hjm
                refine hkp _ _ _ _ (own_keep (HRE.out j (by omega) hjm) fun q hq => HBU1.out.block q ((HRE.out j (by omega) hjm).lt q hq).2 fun e => ?_)
                rw [row_own] at hq
                exact HD.out k j hlt hjm (by omega) q e hq
              · have h1 : (wy.alloc (.cells #[.slice Ag (n k + 9) cg, .slice (A k) (n k) (c k)] 36)).heap[gr]? = wy.heap[gr]? := Below.heap_alloc _ _ _ (by omega)
                refine (hgr'.block gr (by rw [HSZ.out]; omega) ?_).trans (h1.trans ((HBU1.out.block gr hgo (fun e => HNE.out k hlt gr e rfl)).trans HGR.out))
                intro e
                have := (HLO.out.lt gr e.symm).1
                omega
              · refine (HB.out.trans (HBU1.out.below (fun q hq => (HXL.out q (by rw [row_own]; exact hq)).1) hBo)).trans ?_
                refine ((Below.refl B wy).alloc hBr _).grown hgr' (by rw [HSZ.out]; omega) ?_
                intro q hq
                have := (HLO.out.lt q hq).1
                omega
    · obtain rfl : k = m := by omega
      have HLO := Lib.hid hlo
      have HEN := Lib.hid hen
      have HB := Lib.hid hb
      have hcl := own_cap hlo
      clear hlo hen hre hgr hb
      go_wp2_with fail
      go_loop [9, 10] (fun i _ => ∃ t : Nat, t ≤ 2 * k ∧ i = .int .i64 t) (fun i _ => 2 * k - (intOf i).toNat)
      case atStart => exact ⟨0, by omega, rfl⟩
      case round =>
        obtain ⟨t, ht, rfl⟩ := hrel
        by_cases htl : t < 2 * k
        · obtain ⟨a, e, d, hL, hra, hee, _⟩ := HEN.out t htl
          have hsl := Src.of_own HLO.out
          obtain ⟨gl, rfl⟩ : ∃ gl, Al = some ⟨gl, 0, none⟩ := by
            obtain ⟨g1, cap, hv, _⟩ := HLO.out.form (by omega)
            injection hv with hv
            exact ⟨g1, hv⟩
          have hc0 : wo.cell? ⟨gl, t, none⟩ = some (.slice a e d) := by
            have := hsl.at_ _ rfl t _ hL
            rw [plain0] at this
            exact this
          have hcl2 := hsl.cap
          have sG := Lib.hid (Src.of_own hra)
          have hcd := own_cap hra
          clear hra hL hsl
          go_wp2_with fail
          go_loop [10] (fun q => ∃ i : Nat, i ≤ e ∧ q = .int .i64 i) (fun q => e - (intOf q).toNat)
          case atStart => exact ⟨0, by omega, rfl⟩
          case round =>
            obtain ⟨i, hi, rfl⟩ := hrel
            by_cases hlt2 : i < e
            · obtain ⟨ad, rfl⟩ : ∃ ad, a = some ad := by
                cases a with
                | none => have := (sG.out.nil rfl).1; omega
                | some ad => exact ⟨ad, rfl⟩
              have hcell : wo.cell? (ad.add i) = some (.int .u8 (mk (t / 2))) := sG.out.at_ ad rfl i _ (ones_get _ _ _ hlt2)
              have hcp := sG.out.cap
              have hmk2 : 1 + (t : Int) / 2 % 250 = mk (t / 2) := by unfold mk; omega
              go_wp2
              exact ⟨⟨i + 1, by omega, by go_num⟩, by simp [intOf]; omega⟩
            · obtain rfl : i = e := by omega
              go_wp2
              exact ⟨⟨t + 1, by omega, by go_num⟩, by simp [intOf]; omega⟩
        · obtain rfl : t = 2 * k := by omega
          go_wp2
          go_ret
          exact ⟨rfl, HB.out⟩
end Go.Proofs.YtacknedekhpklaaGreat
