/-
  The document's Breadth.
-/
import Derived.Test.YtkaejcpnlphdpaaI
namespace Go.Proofs.Ytkaejcpnlphdpaa
open Go.RowKit

set_option maxRecDepth 100000 in
set_option maxHeartbeats 2000000 in
theorem rBreadth_any (Q Q2 : Nat → Prop) (E A : Option Addr) (ce c : Nat) (ws : Nat → Option Addr × Nat) (g : Gr) (r : List Int) (w : World) (h : Ed w Q E ce ws g) (h2 : Src w Q2 A r.length c (ints r)) (hg : rightB g = true) (hr : nodesB g.length r = true) (hn2 : r.length ≤ 4611686018427387904) :
    Calls Try.prog 16 #[.slice E g.length ce, .slice A r.length c] w fun e w' => ∃ O co, e = .returned (.slice O (bfs g r).length co) ∧ w'.ownsRow w.heap.size 3 1 (.slice O (bfs g r).length co) (bfs g r).length (ints (bfs g r)) ∧ Below w.heap.size w w' := by
  obtain ⟨bf, hbf⟩ : ∃ bf, bf = bfs g r := ⟨_, rfl⟩
  rw [← hbf]
  have HBF := Lib.hid hbf
  clear hbf
  have HE := Lib.hid h.lt
  have HS := Lib.hid h2.lt
  have hn := right_len hg
  have HG := Lib.hid hg
  have HR := Lib.hid hr
  have HON := Lib.hid (once_any w.heap.size g.length [] none 0 _ A c r w (World.ownsRow_nil _ _ _ _) (Nat.le_refl _) h2.lt (fun _ h => h) hr (Full.nil _) hn hn2)
  clear h h2 hg hr
  go_enter Try.func16, Try.ntmps16
  go_wp2_with fail
  refine HON.out.mono ?_
  rintro e w2 ⟨O2, co2, rfl, hw2, hb2⟩
  have HB2 := Lib.hid hb2
  have HW2 := Lib.hid hw2
  clear hw2 hb2 HON
  obtain ⟨p0, hp0⟩ : ∃ p0, p0 = once [] r := ⟨_, rfl⟩
  have HP0 := Lib.hid hp0
  rw [← hp0] at HW2
  rw [← hp0]
  clear hp0
  go_wp2_with fail
  go_loopw [5, 6] (fun v i wr => ∃ (k : Nat) (O : Option Addr) (co : Nat), k ≤ (bfsS g r k).length ∧ v = .slice O (bfsS g r k).length co ∧ i = .int .i64 (k : Int) ∧ wr.ownsRow w.heap.size 3 1 (.slice O (bfsS g r k).length co) (bfsS g r k).length (ints (bfsS g r k)) ∧ Below w.heap.size w wr) (fun _ i _ => g.length - (intOf i).toNat)
  case atStart =>
    have e0 : bfsS g r 0 = p0 := HP0.out.symm
    exact ⟨0, O2, co2, Nat.zero_le _, by rw [e0], rfl, by rw [e0]; exact HW2.out, HB2.out⟩
  case round =>
    obtain ⟨k, O, co, hk, rfl, rfl, hwk, hB⟩ := hrel
    have HB := Lib.hid hB
    have HK := Lib.hid hwk
    clear hB hwk
    have hle := bfs_len HG.out HR.out k
    by_cases hlt : k < (bfsS g r k).length
    · have HST := Lib.hid (bfs_step g r k hlt)
      have HBN := Lib.hid (bfs_nodes HG.out HR.out k)
      obtain ⟨m, hm, hmn⟩ := node_nat (nodes_mem HBN.out.1 (List.getElem_mem hlt))
      rw [hm, adj_nat g m hmn] at HST
      have HLE1 := Lib.hid (bfs_pre1 (g := g) (r := r) k).length_le
      cases O with
      | none => have := ((Src.of_own HK.out).nil rfl).1; omega
      | some od =>
        cases E with
        | none => have := (HE.out.out.nil rfl).1; omega
        | some ed =>
          have hc := (Src.of_own HK.out).at_ od rfl k _ (ints_get _ k hlt)
          rw [hm] at hc
          have hc2 := HE.out.out.below HB.out (fun j hj => hj) |>.at_ ed rfl m _ (lists_get ws g m hmn)
          have HCE := Lib.hid (once_any w.heap.size g.length (bfsS g r k) (some od) co _ (ws m).1 (ws m).2 g[m] wr HK.out HB.out.size ((HE.out.inn m hmn).below HB.out (fun j hj => hj)) (fun _ h => h) (by have := right_adj HG.out (m : Int); rwa [adj_nat g m hmn] at this) HBN.out.2 hn (HE.out.bigs m hmn))
          rw [← HST.out] at HCE
          have hlt2 : k + 1 ≤ (bfsS g r (k + 1)).length := Nat.le_trans hlt HLE1.out
          obtain ⟨p2, hp2⟩ : ∃ p2, p2 = bfsS g r (k + 1) := ⟨_, rfl⟩
          rw [← hp2] at HCE hlt2
          have HP2 := Lib.hid hp2
          clear hm HST HBN HLE1 HW2 hp2
          generalize bfsS g r k = p at *
          generalize g[m] = l at *
          go_wp2_with fail
          refine HCE.out.mono ?_
          rintro e w4 ⟨O4, co4, rfl, hw4, hb4⟩
          go_wp2_with fail
          go_roundw
          case rel => exact ⟨k + 1, O4, co4, by rw [← HP2.out]; exact hlt2, by rw [← HP2.out], by go_num, by rw [← HP2.out]; exact hw4, HB.out.trans hb4⟩
          case measure => simp [intOf]; omega
    · have hkl : (bfsS g r k).length = k := by omega
      have hbd := bfs_done HG.out HR.out hkl
      rw [← hbd, ← HBF.out] at HK
      rw [← hbd, ← HBF.out] at hkl
      rw [← hbd, ← HBF.out]
      clear hbd HW2
      go_wp2_with fail
      go_ret
      exact ⟨_, _, rfl, HK.out, HB.out⟩
end Go.Proofs.Ytkaejcpnlphdpaa
