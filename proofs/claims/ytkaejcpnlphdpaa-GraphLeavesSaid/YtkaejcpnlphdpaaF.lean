/-
  Breadth first: spread, Breadth, Reach.
-/
import Derived.Test.YtkaejcpnlphdpaaE
namespace Go.Proofs.Ytkaejcpnlphdpaa
open Go.RowKit

set_option maxRecDepth 100000 in
set_option maxHeartbeats 2000000 in
theorem spread_any (Q Q2 : Nat → Prop) (E A : Option Addr) (ce c : Nat) (ws : Nat → Option Addr × Nat) (g : Gr) (r : List Int) (w : World) (h : Ed w Q E ce ws g) (h2 : Src w Q2 A r.length c (ints r)) (hg : rightB g = true) (hr : nodesB g.length r = true) (hn2 : r.length ≤ 4611686018427387904) :
    Calls Try.prog 22 #[.slice E g.length ce, .slice A r.length c] w fun e w' => ∃ gb gc O co, e = .returned (.pointer (some ⟨gb, 0, none⟩)) ∧ Wk w' w.heap.size gb gc g.length E ce (bfs g r) (bfs g r) O co ∧ Below w.heap.size w w' := by
  obtain ⟨bf, hbf⟩ : ∃ bf, bf = bfs g r := ⟨_, rfl⟩
  rw [← hbf]
  have HBF := Lib.hid hbf
  clear hbf
  have HE := Lib.hid h.lt
  have HS := Lib.hid h2.lt
  have hn := right_len hg
  have HG := Lib.hid hg
  have HR := Lib.hid hr
  have HNW := Lib.hid (newWalk_any E g.length ce w hn)
  clear h h2 hg hr
  go_enter Try.func22, Try.ntmps22
  go_wp2_with fail
  refine HNW.out.mono ?_
  rintro e w1 ⟨gb, gc, rfl, hw1, hb1⟩
  have HB1 := Lib.hid hb1
  have HEN := Lib.hid (enter_any w.heap.size gb gc g.length E ce [] none 0 A c r w1 hw1 hb1.size (HS.out.below hb1 (fun j hj => hj)) HR.out (Full.nil _) hn hn2)
  clear hw1 hb1 HNW
  go_wp2_with fail
  refine HEN.out.mono ?_
  rintro e w2 ⟨rfl, ⟨O2, co2, hw2⟩, hb2⟩
  have HB2 := Lib.hid (HB1.out.trans hb2)
  have HW2 := Lib.hid hw2
  clear hw2 hb2 HEN
  go_wp2_with fail
  go_loopw [6] (fun i wr => ∃ (k : Nat) (O : Option Addr) (co : Nat), k ≤ (bfsS g r k).length ∧ i = .int .i64 (k : Int) ∧ Wk wr w.heap.size gb gc g.length E ce (bfsS g r k) (bfsS g r k) O co ∧ Below w.heap.size w wr) (fun i _ => g.length - (intOf i).toNat)
  case atStart => exact ⟨0, O2, co2, Nat.zero_le _, rfl, HW2.out, HB2.out⟩
  case round =>
    obtain ⟨k, O, co, hk, rfl, hwk, hB⟩ := hrel
    have HB := Lib.hid hB
    have HK := Lib.hid hwk
    clear hB hwk
    have hle := bfs_len HG.out HR.out k
    have k2 : wr.cell? ⟨gb, 2, none⟩ = some (.slice O (bfsS g r k).length co) := HK.out.box.c 2
    by_cases hlt : k < (bfsS g r k).length
    · have HST := Lib.hid (bfs_step g r k hlt)
      have HBN := Lib.hid (bfs_nodes HG.out HR.out k)
      obtain ⟨m, hm, hmn⟩ := node_nat (nodes_mem HBN.out.1 (List.getElem_mem hlt))
      rw [hm, adj_nat g m hmn] at HST
      have HLE1 := Lib.hid (bfs_pre1 (g := g) (r := r) k).length_le
      cases O with
      | none => have := ((Src.of_own HK.out.ord).nil rfl).1; omega
      | some od =>
        cases E with
        | none => have := (HE.out.out.nil rfl).1; omega
        | some ed =>
          have hc := (Src.of_own HK.out.ord).at_ od rfl k _ (ints_get _ k hlt)
          rw [hm] at hc
          have hc2 := HE.out.out.below HB.out (fun j hj => hj) |>.at_ ed rfl m _ (lists_get ws g m hmn)
          have HCE := Lib.hid (enter_any w.heap.size gb gc g.length (some ed) ce (bfsS g r k) (some od) co (ws m).1 (ws m).2 g[m] wr HK.out HB.out.size ((HE.out.inn m hmn).below HB.out (fun j hj => hj)) (by have := right_adj HG.out (m : Int); rwa [adj_nat g m hmn] at this) HBN.out.2 hn (HE.out.bigs m hmn))
          rw [← HST.out] at HCE
          have hlt2 : k + 1 ≤ (bfsS g r (k + 1)).length := Nat.le_trans hlt HLE1.out
          obtain ⟨p2, hp2⟩ : ∃ p2, p2 = bfsS g r (k + 1) := ⟨_, rfl⟩
          rw [← hp2] at HCE hlt2
          have HP2 := Lib.hid hp2
          clear hm HST HBN HLE1 HW2 hp2
          generalize bfsS g r k = p at *
          generalize g[m] = l at *
          go_wp2_with fail
          refine HCE.out.mono ?_
          rintro e w4 ⟨rfl, ⟨O4, co4, hw4⟩, hb4⟩
          go_wp2_with fail
          go_roundw
          case rel => exact ⟨k + 1, O4, co4, by rw [← HP2.out]; exact hlt2, by go_num, by rw [← HP2.out]; exact hw4, HB.out.trans hb4⟩
          case measure => simp [intOf]; omega
    · have hkl : (bfsS g r k).length = k := by omega
      have hbd := bfs_done HG.out HR.out hkl
      rw [← hbd, ← HBF.out] at HK
      rw [← hbd, ← HBF.out] at k2 hkl
      clear hbd HW2
      go_wp2_with fail
      first | go_ret | go_end0
      exact ⟨gb, gc, O, co, rfl, HK.out, HB.out⟩
set_option maxRecDepth 100000 in
set_option maxHeartbeats 1000000 in
theorem breadth_any (Q Q2 : Nat → Prop) (E A : Option Addr) (ce c : Nat) (ws : Nat → Option Addr × Nat) (g : Gr) (r : List Int) (w : World) (h : Ed w Q E ce ws g) (h2 : Src w Q2 A r.length c (ints r)) (hn2 : r.length ≤ 4611686018427387904) :
    Calls Try.prog 11 #[.slice E g.length ce, .slice A r.length c] w fun e w' => (okB g r = false ∧ e = .returned (.tuple #[.slice none 0 0, .int .i64 130]) ∧ Below w.heap.size w w') ∨
      (okB g r = true ∧ ∃ O co, e = .returned (.tuple #[.slice O (bfs g r).length co, .int .i64 0]) ∧ w'.ownsRow w.heap.size 3 1 (.slice O (bfs g r).length co) (bfs g r).length (ints (bfs g r)) ∧ Below w.heap.size w w') := by
  obtain ⟨p, hp⟩ : ∃ p, p = bfs g r := ⟨_, rfl⟩
  rw [← hp]
  have HP := Lib.hid hp
  clear hp
  have HC := Lib.hid (check_any Q Q2 E A ce c ws g r w h h2 hn2)
  have HE := Lib.hid h.lt
  have HS := Lib.hid h2.lt
  clear h h2
  cases hok : okB g r with
  | false =>
    rw [hok] at HC
    clear hok
    go_enter Try.func11, Try.ntmps11
    go_wp2_with fail
    refine HC.out.mono ?_
    rintro e w1 ⟨rfl, hb1⟩
    have HB1 := Lib.hid hb1
    clear hb1
    go_wp2_with fail
    go_ret2
    exact .inl ⟨trivial, rfl, HB1.out⟩
  | true =>
    rw [hok] at HC
    have hok2 := hok
    unfold okB at hok2
    simp only [Bool.and_eq_true] at hok2
    have HSP := Lib.hid (fun w1 (hb : Below w.heap.size w w1) => spread_any _ _ E A ce c ws g r w1 (HE.out.below hb (fun j hj => hj)) (HS.out.below hb (fun j hj => hj)) hok2.1 hok2.2 hn2)
    clear hok hok2
    go_enter Try.func11, Try.ntmps11
    go_wp2_with fail
    refine HC.out.mono ?_
    rintro e w1 ⟨rfl, hb1⟩
    have HB1 := Lib.hid hb1
    have HSP1 := Lib.hid (HSP.out w1 hb1)
    clear hb1 HSP
    go_wp2_with fail
    refine HSP1.out.mono ?_
    rintro e w2 ⟨gb, gc, O, co, rfl, hw2, hb2⟩
    rw [← HP.out] at hw2
    have HW2 := Lib.hid hw2
    have HB2 := Lib.hid (HB1.out.trans (hb2.mono HB1.out.size))
    have k2 : w2.cell? ⟨gb, 2, none⟩ = some (.slice O p.length co) := hw2.box.c 2
    clear hw2 hb2 HSP1
    go_wp2_with fail
    go_ret2
    exact .inr ⟨trivial, O, co, rfl, own_more HW2.out.ord HB1.out.size, HB2.out⟩
set_option maxRecDepth 100000 in
set_option maxHeartbeats 1000000 in
theorem reach_any (Q Q2 : Nat → Prop) (E A : Option Addr) (ce c : Nat) (ws : Nat → Option Addr × Nat) (g : Gr) (r : List Int) (w : World) (h : Ed w Q E ce ws g) (h2 : Src w Q2 A r.length c (ints r)) (hn2 : r.length ≤ 4611686018427387904) :
    Calls Try.prog 12 #[.slice E g.length ce, .slice A r.length c] w fun e w' => (okB g r = false ∧ e = .returned (.tuple #[.slice none 0 0, .int .i64 130]) ∧ Below w.heap.size w w') ∨
      (okB g r = true ∧ ∃ gc, e = .returned (.tuple #[.slice (some ⟨gc, 0, none⟩) g.length g.length, .int .i64 0]) ∧ w'.ownsRow w.heap.size 4 1 (.slice (some ⟨gc, 0, none⟩) g.length g.length) g.length (bools g.length (bfs g r)) ∧ Below w.heap.size w w') := by
  obtain ⟨p, hp⟩ : ∃ p, p = bfs g r := ⟨_, rfl⟩
  rw [← hp]
  have HP := Lib.hid hp
  clear hp
  have HC := Lib.hid (check_any Q Q2 E A ce c ws g r w h h2 hn2)
  have HE := Lib.hid h.lt
  have HS := Lib.hid h2.lt
  clear h h2
  cases hok : okB g r with
  | false =>
    rw [hok] at HC
    clear hok
    go_enter Try.func12, Try.ntmps12
    go_wp2_with fail
    refine HC.out.mono ?_
    rintro e w1 ⟨rfl, hb1⟩
    have HB1 := Lib.hid hb1
    clear hb1
    go_wp2_with fail
    go_ret2
    exact .inl ⟨trivial, rfl, HB1.out⟩
  | true =>
    rw [hok] at HC
    have hok2 := hok
    unfold okB at hok2
    simp only [Bool.and_eq_true] at hok2
    have HSP := Lib.hid (fun w1 (hb : Below w.heap.size w w1) => spread_any _ _ E A ce c ws g r w1 (HE.out.below hb (fun j hj => hj)) (HS.out.below hb (fun j hj => hj)) hok2.1 hok2.2 hn2)
    clear hok hok2
    go_enter Try.func12, Try.ntmps12
    go_wp2_with fail
    refine HC.out.mono ?_
    rintro e w1 ⟨rfl, hb1⟩
    have HB1 := Lib.hid hb1
    have HSP1 := Lib.hid (HSP.out w1 hb1)
    clear hb1 HSP
    go_wp2_with fail
    refine HSP1.out.mono ?_
    rintro e w2 ⟨gb, gc, O, co, rfl, hw2, hb2⟩
    rw [← HP.out] at hw2
    have HW2 := Lib.hid hw2
    have HB2 := Lib.hid (HB1.out.trans (hb2.mono HB1.out.size))
    have k2 : w2.cell? ⟨gb, 1, none⟩ = some (.slice (some ⟨gc, 0, none⟩) g.length g.length) := hw2.box.c 1
    clear hw2 hb2 HSP1
    go_wp2_with fail
    go_ret2
    exact .inr ⟨trivial, gc, rfl, own_more HW2.out.clo HB1.out.size, HB2.out⟩
end Go.Proofs.Ytkaejcpnlphdpaa
