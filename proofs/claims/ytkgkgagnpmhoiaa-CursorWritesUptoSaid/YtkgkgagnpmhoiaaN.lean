/-
  The laws' helper Owned, of one row: what came out is its owner's.
-/
import Derived.Test.YtkgkgagnpmhoiaaC
import Derived.ArgAppend
namespace Go.Proofs.Ytkgkgagnpmhoiaa
open Go.RowKit

def ones (k : Nat) (x : Int) : List Value := List.replicate k (.int .u8 x)
theorem ones_len (k : Nat) (x : Int) : (ones k x).length = k := by simp [ones]
theorem ones_one (k : Nat) (x : Int) : ∀ u ∈ ones k x, u.oneCell' = true := by
  intro u hu
  simp only [ones, List.mem_replicate] at hu
  rw [hu.2]
  rfl
/-- A row of so many marks. -/
def RowIs (w : World) (B : Nat) (A : Option Addr) (n c : Nat) (x : Int) : Prop := w.ownsRow B 5 1 (.slice A n c) n (ones n x)
theorem RowIs.keep {w w' : World} {B : Nat} {A : Option Addr} {n c : Nat} {x : Int} (h : RowIs w B A n c x) (hk : ∀ k, row A = some k → w'.heap[k]? = w.heap[k]?) : RowIs w' B A n c x := by
  refine ⟨h.1, ?_⟩
  rcases h.2 with h1 | ⟨g', cap, cur, hv, hb, hh, hx⟩
  · exact .inl h1
  · refine .inr ⟨g', cap, cur, hv, hb, (hk g' ?_).trans hh, hx⟩
    injection hv with h1
    subst h1
    rfl
theorem RowIs.lt {w : World} {B : Nat} {A : Option Addr} {n c : Nat} {x : Int} (h : RowIs w B A n c x) : ∀ k, row A = some k → B ≤ k ∧ k < w.heap.size := by
  intro k hk
  exact World.ownsRow.lt h k (by rw [row_own]; exact hk)
/-- Two rows in one block: the shorter one is the longer one's front. -/
theorem RowIs.front {w w' : World} {B : Nat} {A Ag : Option Addr} {n c m cg : Nat} {x : Int} {m' : Nat} (h : RowIs w B A n c x) (hg : RowIs w B Ag m cg x) (hg' : RowIs w' B Ag m' cg x) (hA : A = Ag) (hn : n ≤ m') : RowIs w' B A n c x := by
  subst hA
  rcases h.2 with ⟨h1, h2⟩ | ⟨g1, cap1, cur1, hv1, hb1, hh1, _, hm1, hs1, _⟩
  · exact ⟨h.1, .inl ⟨h1, h2⟩⟩
  · rcases hg.2 with ⟨h1, _⟩ | ⟨g2, cap2, cur2, hv2, _, hh2, _, _, hs2, _⟩
    · injection h1 with h1
      subst h1
      injection hv1 with e
      cases e
    · injection hv1 with e1 _ e2
      injection hv2 with e3 _ e4
      subst e1
      injection e3 with e3
      injection e3 with e3
      subst e2 e3 e4
      rw [hh1] at hh2
      injection hh2 with hh2
      injection hh2 with hh2
      subst hh2
      have hcc : c = cg := by omega
      subst hcc
      rcases hg'.2 with ⟨h1, _⟩ | ⟨g3, cap3, cur3, hv3, hb3, hh3, hle3, hm3, hs3, ht3⟩
      · cases h1
      · injection hv3 with e5 _ e6
        injection e5 with e5
        injection e5 with e5
        subst e5 e6
        refine ⟨by simp [ones], .inr ⟨g1, c, cur3, rfl, hb1, hh3, by omega, hm3, hs3, ?_⟩⟩
        have : cur3.toList.take (n * 1) = (cur3.toList.take (m' * 1)).take n := by rw [List.take_take]; congr 1; omega
        rw [this, ht3]
        simp [ones]
        omega

/-- One mark more behind a row; another row of the same marks, of the same block or of another one, reads as it did. -/
theorem wpList_append_twin {w : World} {ops : Array Oper} {rest : List Oper} {o : Oper} {a : Act} {Q : Exit → Act → World → Prop} (hgd : o.guard = none) (s x : Operand)
    (ho : o.op = .call { callee := .builtin .append, args := #[s, x], argTypes := #[27, 27] })
    (B : Nat) (A : Option Addr) (n c : Nat) (Ag : Option Addr) (m cg : Nat) (y : Int) (hs : a.eval s = .slice Ag m cg) (hA : RowIs w B A n c y) (hg : RowIs w B Ag m cg y) (hnm : n ≤ m)
    (ad : Addr) (hx : a.eval x = .slice (some ad) 1 1) (hc : w.cell? ad = some (.int .u8 y)) (hb : m + 1 ≤ 140737488355328) (hB : B ≤ w.heap.size)
    (hK : ∀ A' c' w', RowIs w' B A n c y → RowIs w' B A' (m + 1) c' y → w.grownBy w' (row Ag) → (∀ q, row A' = some q → row Ag = some q ∨ w.heap.size ≤ q) → wpList Try.prog ops Q rest (a.put o.dst (.slice A' (m + 1) c')) w') : wpList Try.prog ops Q (o :: rest) a w := by
  obtain ⟨i0, hi, hz0, hz1, hz2⟩ := info_parts Try.info_byte
  have hnew : ∀ j u, [Value.int .u8 y][j]? = some u → w.cell? (ad.add j) = some u := by
    intro j u hj
    match j, hj with
    | 0, hj =>
      simp at hj
      subst hj
      have e : ad.add 0 = ad := by unfold Addr.add; simp
      rw [e]
      exact hc
  have h1c : ∀ u ∈ [Value.int .u8 y], u.oneCell' = true := by intro u hu; simp at hu; subst hu; rfl
  have hones : ones m y ++ [.int .u8 y] = ones (m + 1) y := by simp [ones, List.replicate_succ']
  by_cases hroom : m + 1 ≤ cg
  · -- there is room: the row's own block is written
    rcases hg.2 with ⟨h1, _⟩ | ⟨g, cap, cur, hv, hbg, hh, hle, hmx, hsz, htk⟩
    · injection h1 with _ _ h1; omega
    · injection hv with e1 _ e2
      subst e1 e2
      refine wpList_append_fits w hgd s x 27 ho B 5 i0 1 Try.underlying27 hi hz1 g m cg (ones m y) hs hg ad 1 1 [.int .u8 y] hx rfl hnew h1c hroom ?_
      intro w' hown hgr
      rw [hones] at hown
      refine hK _ _ w' ?_ hown hgr fun q hq => .inl hq
      by_cases hAg : A = some ⟨g, 0, none⟩
      · exact RowIs.front hA hg hown hAg (by omega)
      · refine hA.keep fun k hk => hgr.block k (hA.lt k hk).2 ?_
        intro e
        injection e with e
        subst e
        rcases hA.2 with ⟨h1, _⟩ | ⟨g', cap', cur', hv', _⟩
        · injection h1 with h1; subst h1; cases hk
        · injection hv' with h1
          subst h1
          injection hk with hk
          have : g' = k := hk
          subst this
          exact hAg rfl
  · refine wpList_append_grows w hgd s x 27 ho 5 i0 (.int .u8 0) 1 1 Try.underlying27 hi hz0 hz1 hz2 rfl (by omega) Ag m cg (ones m y) hs ?_ (by simp [ones]) ?_ ad 1 1 [.int .u8 y] hx rfl hnew h1c (by omega) (by simp only [maxLen]; omega) (by omega) ?_
    · intro e
      rcases hg.2 with ⟨h1, h2⟩ | ⟨g, cap, cur, hv, _⟩
      · injection h1 with _ _ h1; exact ⟨h2, h1⟩
      · rw [e] at hv; injection hv with h1; cases h1
    · intro b hb' j u hu
      subst hb'
      rcases hg.2 with ⟨h1, _⟩ | ⟨g, cap, cur, hv, _⟩
      · cases h1
      · have h2 := World.ownsRow.cells hg (g := b.block) rfl
        injection hv with h1
        injection h1 with h1
        subst h1
        exact h2 j u hu
    · intro v' w' hown hgr
      rw [hones] at hown
      obtain ⟨A', c', rfl⟩ := own_slice hown
      exact hK A' c' w' (hA.keep fun k hk => hgr.block k (hA.lt k hk).2 (by intro e; cases e)) (own_more hown hB) ⟨hgr.os, hgr.tape, hgr.output, hgr.size, fun k hk _ => hgr.block k hk (by intro e; cases e)⟩ fun q hq => .inr (World.ownsRow.lt hown q (by rw [row_own]; exact hq)).1
end Go.Proofs.Ytkgkgagnpmhoiaa
