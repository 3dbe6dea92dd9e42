/-
  The document's once and Breadth.
-/
import Derived.Test.YtkaejcpnlphdpaaH
namespace Go.Proofs.Ytkaejcpnlphdpaa
open Go.RowKit

set_option maxRecDepth 100000 in
set_option maxHeartbeats 2000000 in
theorem once_any (B n : Nat) (o : List Int) (O : Option Addr) (co : Nat) (Q : Nat → Prop) (A : Option Addr) (c : Nat) (l : List Int) (w : World) (ho : w.ownsRow B 3 1 (.slice O o.length co) o.length (ints o)) (hB : B ≤ w.heap.size)
    (h : Src w Q A l.length c (ints l)) (hQ : ∀ k, Q k → k < B) (hl : nodesB n l = true) (hf : Full n o) (hn : n ≤ 256) (hn2 : l.length ≤ 4611686018427387904) :
    Calls Try.prog 24 #[.slice O o.length co, .slice A l.length c] w fun e w' => ∃ O' co', e = .returned (.slice O' (once o l).length co') ∧ w'.ownsRow B 3 1 (.slice O' (once o l).length co') (once o l).length (ints (once o l)) ∧ Below B w w' := by
  obtain ⟨R, hR⟩ : ∃ R, R = once o l := ⟨_, rfl⟩
  rw [← hR]
  have HR := Lib.hid hR
  have HO := Lib.hid ho
  have HS := Lib.hid h
  have HQ := Lib.hid hQ
  have HL := Lib.hid hl
  have HBS := Lib.hid hB
  have HF := Lib.hid hf
  clear ho h hl hB hf hQ hR
  obtain ⟨i0, hi0, hz0, hz1, hz2⟩ := info3 (show (Try.prog.info? 3).map (fun i => (i.zero, i.size, i.bytes)) = some (some (.int .i64 0), 1, 8) by kernel_rfl)
  go_enter Try.func24, Try.ntmps24
  go_wp2_with fail
  go_loopw [0, 5] (fun v i wr => ∃ (k : Nat) (O' : Option Addr) (co' : Nat), k ≤ l.length ∧ v = .slice O' (once o (l.take k)).length co' ∧ i = .int .i64 (k : Int) ∧ wr.ownsRow B 3 1 (.slice O' (once o (l.take k)).length co') (once o (l.take k)).length (ints (once o (l.take k))) ∧ Full n (once o (l.take k)) ∧ Below B w wr) (fun _ i _ => l.length - (intOf i).toNat)
  case atStart => exact ⟨0, O, co, Nat.zero_le _, by simp [once], rfl, by simpa [once] using HO.out, by simpa [once] using HF.out, Below.refl _ _⟩
  case round =>
    obtain ⟨k, O', co', hk, rfl, rfl, hwk, hfu, hB⟩ := hrel
    have HB := Lib.hid hB
    have HK := Lib.hid hwk
    have HFU := Lib.hid hfu
    clear hB hwk hfu
    by_cases hlt : k < l.length
    · cases A with
      | none => have := (HS.out.nil rfl).1; omega
      | some ad =>
        have hc := (HS.out.keep (fun j hj _ => HB.out.block j (HQ.out j hj))).at_ ad rfl k _ (ints_get l k hlt)
        obtain ⟨m, hm, hmn⟩ := node_nat (nodes_mem HL.out (List.getElem_mem hlt))
        obtain ⟨p2, hp2⟩ : ∃ p2, p2 = once o (l.take (k + 1)) := ⟨_, rfl⟩
        have HP2 := Lib.hid hp2
        have HT := Lib.hid (show p2 = _ by rw [hp2, List.take_succ_eq_append_getElem hlt, once_snoc, hm])
        rw [hm] at hc
        clear hp2
        generalize once o (l.take k) = p at *
        have hpn := HFU.out.le
        have HC := Lib.hid (fun w' => has_any (fun k => k < w'.heap.size) O' co' p (m : Int) w')
        have HSP := Lib.hid (Src.of_own HK.out).lt
        have HH := Lib.hid (has_any _ O' co' p (m : Int) wr HSP.out (by omega))
        clear hm HC
        by_cases hp : (m : Int) ∈ p
        · rw [decide_eq_true hp] at HH
          rw [if_pos hp] at HT
          obtain rfl := HT.out
          clear hp
          go_wp2_with fail
          refine HH.out.mono ?_
          rintro e w2 ⟨rfl, hb2⟩
          have HB2 := Lib.hid (HB.out.trans (hb2.mono (Nat.le_trans HBS.out HB.out.size)))
          have HK2 := Lib.hid (own_kept HK.out fun j hj => hb2.block j (HK.out.lt j hj).2)
          clear hb2 HH
          go_wp2_with fail
          go_roundw
          case rel => exact ⟨k + 1, O', co', by omega, by rw [← HP2.out], by go_num, by rw [← HP2.out]; exact HK2.out, by rw [← HP2.out]; exact HFU.out, HB2.out⟩
          case measure => simp [intOf]; omega
        · rw [decide_eq_false hp] at HH
          rw [if_neg hp] at HT
          have HFU2 := Lib.hid (HFU.out.snoc hp (decide_eq_true (by omega)))
          have hpl := HFU2.out.le
          rw [List.length_append] at hpl
          simp only [List.length_cons, List.length_nil] at hpl
          clear hp
          go_wp2_with fail
          refine HH.out.mono ?_
          rintro e w2 ⟨rfl, hb2⟩
          have hBr : B ≤ wr.heap.size := Nat.le_trans HBS.out HB.out.size
          have HB2 := Lib.hid (HB.out.trans (hb2.mono hBr))
          have hB3 : B ≤ w2.heap.size := Nat.le_trans HBS.out HB2.out.size
          have HK2 := Lib.hid (own_kept HK.out fun j hj => hb2.block j (HK.out.lt j hj).2)
          have hc2 := (HS.out.keep (fun j hj _ => HB2.out.block j (HQ.out j hj))).at_ ad rfl k _ (show (ints l)[k]? = some (.int .i64 (m : Int)) from by have h1 := (HS.out.keep (fun j hj _ => HB.out.block j (HQ.out j hj))).at_ ad rfl k _ (ints_get l k hlt); rw [hc] at h1; rw [ints_get l k hlt]; exact h1.symm)
          have HOA := Lib.hid (HK2.out.alloc (.cells #[.int .i64 (m : Int)] 3))
          have HSL := Lib.hid (src_lit w2 [.int .i64 (m : Int)] 3 (fun _ => True) trivial)
          have HBA := Lib.hid (HB2.out.trans ((Below.refl B w2).alloc hB3 (.cells #[.int .i64 (m : Int)] 3)))
          clear hb2 HH hc
          have hlen : p2.length = p.length + 1 := by rw [HT.out]; simp
          have hint : ints p2 = ints p ++ [.int .i64 (m : Int)] := by rw [HT.out]; simp
          have HLE := Lib.hid (And.intro hlen hint)
          clear hlen hint
          go_wp2_with (at_builtin; refine wpList_append_src rfl (.tmp 19) (.tmp 24) 23 rfl B 3 i0 (.int .i64 0) 8 Try.underlying23 hi0 hz0 hz1 hz2 rfl (.slice O' p.length co') p.length (ints p) rfl HOA.out (fun _ => True) _ 1 1 [.int .i64 (m : Int)] rfl HSL.out (by intro u hu; simp at hu; subst hu; rfl) (by simp only [maxLen]; omega) (by omega) (by rw [alloc_size]; omega) ?_; intro v' w4 hown hg hat; obtain ⟨A', c', rfl⟩ := own_slice hown; rw [row_own] at hg; have HFIN := Lib.hid (And.intro hown (HBA.out.grown hg (by rw [alloc_size]; omega) (fun k hk => (HK.out.lt k (by rw [row_own]; exact hk)).1))); clear hown hg hat)
          go_roundw
          case rel => exact ⟨k + 1, A', c', by omega, by rw [← HP2.out, HLE.out.1], by go_num, by rw [← HP2.out, HLE.out.1, HLE.out.2]; exact HFIN.out.1, by rw [← HP2.out, HT.out]; exact HFU2.out, HFIN.out.2⟩
          case measure => simp [intOf]; omega
    · obtain rfl : k = l.length := by omega
      rw [List.take_length, ← HR.out] at HK
      rw [List.take_length, ← HR.out]
      clear HFU
      go_wp2_with fail
      go_ret
      exact ⟨_, _, rfl, HK.out, HB.out⟩
end Go.Proofs.Ytkaejcpnlphdpaa
