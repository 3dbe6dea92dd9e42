/-
  The laws' helper Owned, of one row: walked.
-/
import Derived.Test.YtkgkgagnpmhoiaaN
import Derived.Test.YtkgkgagnpmhoiaaD
namespace Go.Proofs.Ytkgkgagnpmhoiaa
open Go.RowKit

theorem Try.info_bytes : (Try.prog.info? 27).map (fun i => (i.zero, i.size, i.bytes)) = some (some (.slice none 0 0), 1, 24) := by kernel_rfl

theorem ones_get (k i : Nat) (x : Int) (h : i < k) : (ones k x)[i]? = some (.int .u8 x) := by
  unfold ones
  rw [List.getElem?_replicate, if_pos h]

set_option maxHeartbeats 4000000 in
set_option maxRecDepth 100000 in
theorem owned_one (B gr : Nat) (A : Option Addr) (n c : Nat) (xs : List Value) (w : World) (hrow : w.heap[gr]? = some (.cells #[.slice A n c] 27 (0, 0))) (hown : w.ownsRow B 5 1 (.slice A n c) n xs) (hB : B ≤ w.heap.size) (hn : n ≤ 140737488351232) :
    Calls Try.prog 19 #[.slice (some ⟨gr, 0, none⟩) 1 1] w fun en w' => en = .returned (.bool true) ∧ Below B w w' := by
  have hcw := own_cap hown
  have HR := Lib.hid hrow
  have HO := Lib.hid hown
  have hgl : gr < w.heap.size := lt_of_block hrow
  have hne : ∀ k, row A = some k → k ≠ gr := by
    intro k hk e
    subst e
    rcases hown.2 with ⟨h1, _⟩ | ⟨g', cap, cur, hv, _, hh, _⟩
    · injection h1 with h1; subst h1; cases hk
    · injection hv with h1
      subst h1
      injection hk with hk
      have : g' = k := hk
      subst this
      rw [hrow] at hh
      injection hh with hh
      injection hh with _ ht
      cases ht
  have HNE := Lib.hid hne
  clear hrow hown hne
  go_enter Try.func19, Try.ntmps19
  go_wp2_with fail
  go_loopw [3, 4] (fun lg i wr => (i = .int .i64 0 ∧ lg = .slice none 0 0 ∧ w = wr) ∨ (i = .int .i64 1 ∧ ∃ Al cl AG cG gl, lg = .slice Al 2 cl ∧ Al = some ⟨gl, 0, none⟩ ∧ 2 ≤ cl ∧ wr.cell? ⟨gl, 0, none⟩ = some (.slice AG (n + 9) cG) ∧ wr.cell? ⟨gl, 1, none⟩ = some (.slice A n c) ∧ RowIs wr B AG (n + 9) cG 1 ∧ RowIs wr B A n c 1 ∧ Below B w wr)) (fun _ i _ => 1 - (intOf i).toNat)
  case atStart => exact .inl ⟨rfl, rfl, rfl⟩
  case round =>
    rcases hrel with ⟨rfl, rfl, rfl⟩ | ⟨rfl, Al, cl, AG, cG, gl, rfl, rfl, hcl, hc0, hc1, hG, hA, hb⟩
    · have hk0 : w.cell? ⟨gr, 0, none⟩ = some (.slice A n c) := cell_of_row w gr 0 _ _ _ HR.out
      go_wp2_with fail
      go_loopw [6] (fun k wr => ∃ j : Nat, j ≤ n ∧ k = .int .i64 j ∧ wr.ownsRow B 5 1 (.slice A n c) n (ones j 1 ++ xs.drop j) ∧ wr.heap[gr]? = w.heap[gr]? ∧ Below B w wr) (fun k _ => n - (intOf k).toNat)
      case atStart => exact ⟨0, Nat.zero_le _, rfl, HO.out, rfl, Below.refl _ _⟩
      case round =>
        obtain ⟨j, hj, rfl, ho, hgr, hb⟩ := hrel
        have hk1 : wr.cell? ⟨gr, 0, none⟩ = some (.slice A n c) := cell_of_row wr gr 0 _ _ _ (hgr.trans HR.out)
        by_cases hlt : j < n
        · obtain ⟨g1, rfl⟩ : ∃ g1, A = some ⟨g1, 0, none⟩ := by
            obtain ⟨g1, cap, hv, _⟩ := ho.form (by omega)
            injection hv with hv
            exact ⟨g1, hv⟩
          have hxl : xs.length = n := by have := HO.out.1; omega
          have hjc : ∃ u, wr.cell? ⟨g1, j, none⟩ = some u := by
            rw [ho.cellAt j (by omega)]
            have hlen : j < (ones j 1 ++ xs.drop j).length := by rw [List.length_append, ones_len, List.length_drop]; omega
            exact ⟨_, List.getElem?_eq_getElem hlen⟩
          obtain ⟨u, hjc⟩ := hjc
          have hjf := ho.frozenAt j
          obtain ⟨hs1, hs2⟩ := ho.stored j (.int .u8 1)
          have e1 : (ones j 1 ++ xs.drop j).set j (.int .u8 1) = ones (j + 1) 1 ++ xs.drop (j + 1) := by
            have hd : xs.drop j = xs[j]'(by omega) :: xs.drop (j + 1) := List.drop_eq_getElem_cons (by omega)
            rw [hd]
            have := List.set_append_right (s := ones j 1) (t := xs[j]'(by omega) :: xs.drop (j + 1)) j (.int .u8 1) (by rw [ones_len]; omega)
            rw [this, ones_len, Nat.sub_self]
            show ones j 1 ++ (Value.int .u8 1 :: xs.drop (j + 1)) = _
            simp [ones, List.replicate_succ', List.append_assoc]
          rw [e1] at hs1
          have hgr2 : ((wr.setCell ⟨g1, j, none⟩ (.int .u8 1))).heap[gr]? = w.heap[gr]? := (heap_setCell_other _ _ _ _ (HNE.out g1 rfl).symm).trans hgr
          have hbl : B ≤ g1 := (ho.lt g1 rfl).1
          have HS1 := Lib.hid hs1
          have HGR2 := Lib.hid hgr2
          have HB := Lib.hid (hb.setCell (p := ⟨g1, j, none⟩) hbl (.int .u8 1))
          have hle : n ≤ c := by
            rcases ho.2 with ⟨h1, _⟩ | ⟨_, _, _, hv, _, _, hnc, _⟩
            · cases h1
            · injection hv with _ _ h3; omega
          clear ho hgr hb hs1 hs2 e1 hgr2 hxl
          go_wp2
          exact ⟨⟨j + 1, by omega, by go_num, HS1.out, HGR2.out, HB.out⟩, by simp [intOf]; omega⟩
        · obtain rfl : j = n := by omega
          have hd : xs.drop j = [] := List.drop_eq_nil_of_le (by have := HO.out.1; omega)
          rw [hd, List.append_nil] at ho
          have HA := Lib.hid (show RowIs wr B A j c 1 from ho)
          have HGR := Lib.hid hgr
          have HB := Lib.hid hb
          clear ho hgr hb hd
          obtain ⟨wq, rfl⟩ : ∃ wq : World, wq = wr := ⟨_, rfl⟩
          go_wp2_with fail
          go_loopw [7, 8] (fun g k wr => ∃ (i : Nat) (Ag : Option Addr) (cg : Nat), i ≤ 9 ∧ k = .int .i64 i ∧ g = .slice Ag (j + i) cg ∧ RowIs wr B A j c 1 ∧ RowIs wr B Ag (j + i) cg 1 ∧ wr.heap[gr]? = w.heap[gr]? ∧ Below B w wr) (fun _ k _ => 9 - (intOf k).toNat)
          case atStart => exact ⟨0, A, c, by omega, rfl, rfl, HA.out, HA.out, HGR.out, HB.out⟩
          case round =>
            obtain ⟨i, Ag, cg, hi, rfl, rfl, hA, hG, hgr, hb⟩ := hrel
            by_cases hlt2 : i < 9
            · have hgrl : gr < wr.heap.size := Nat.lt_of_lt_of_le hgl hb.size
              have hcA := own_cap hA
              have hcG := own_cap hG
              have hBr : B ≤ wr.heap.size := Nat.le_trans hB hb.size
              have HA1 := Lib.hid (hA.keep (w' := wr.alloc (.cells #[.int .u8 1] 5)) fun k hk => Below.heap_alloc _ _ _ (hA.lt k hk).2)
              have HG1 := Lib.hid (hG.keep (w' := wr.alloc (.cells #[.int .u8 1] 5)) fun k hk => Below.heap_alloc _ _ _ (hG.lt k hk).2)
              have hcn : (wr.alloc (.cells #[.int .u8 1] 5)).cell? ⟨wr.heap.size, 0, none⟩ = some (.int .u8 1) := by simp
              have HCN := Lib.hid hcn
              have HGR1 := Lib.hid ((Below.heap_alloc wr (.cells #[.int .u8 1] 5) gr hgrl).trans hgr)
              have HGL := Lib.hid hG.lt
              have HB1 := Lib.hid (hb.alloc hBr (.cells #[.int .u8 1] 5))
              have hsz : (wr.alloc (.cells #[.int .u8 1] 5)).heap.size = wr.heap.size + 1 := by simp
              have HSZ := Lib.hid hsz
              have hneg : ∀ k, row Ag = some k → k ≠ gr := by
                intro k hk e
                subst e
                rcases hG.2 with ⟨h1, _⟩ | ⟨g', cap, cur, hv, _, hh, _⟩
                · injection h1 with h1; subst h1; cases hk
                · injection hv with h1
                  subst h1
                  injection hk with hk
                  have : g' = k := hk
                  subst this
                  rw [hgr, HR.out] at hh
                  injection hh with hh
                  injection hh with _ ht
                  cases ht
              have HNG := Lib.hid hneg
              clear hA hG hgr hb hcn hsz hneg
              go_wp2_with (at_builtin; refine wpList_append_twin rfl (.tmp 45) (.tmp 47) rfl B A j c Ag (j + i) cg 1 rfl HA1.out HG1.out (by omega) ⟨wr.heap.size, 0, none⟩ rfl HCN.out (by omega) (by rw [HSZ.out]; omega) ?_; intro A' c' w' hA' hG' hgr' _; have HA2 := Lib.hid hA'; have HG2 := Lib.hid hG'; have HGR' := Lib.hid hgr'; clear hA' hG' hgr')
              exact ⟨⟨i + 1, A', c', by omega, by go_num, rfl, HA2.out, HG2.out, (HGR'.out.block gr (by rw [HSZ.out]; omega) (fun e => HNG.out gr e.symm rfl)).trans HGR1.out,
                HB1.out.grown HGR'.out (by rw [HSZ.out]; omega) (fun k hk => (HGL.out k hk).1)⟩, by simp [intOf]; omega⟩
            · obtain rfl : i = 9 := by omega
              have hk2 : wr.cell? ⟨gr, 0, none⟩ = some (.slice A j c) := cell_of_row wr gr 0 _ _ _ (hgr.trans HR.out)
              obtain ⟨i0, hi0, hz0, hz1, hz2⟩ := info_parts Try.info_bytes
              have hBr : B ≤ wr.heap.size := Nat.le_trans hB hb.size
              have HA1 := Lib.hid (hA.keep (w' := wr.alloc (.cells #[.slice Ag (j + 9) cg, .slice A j c] 27)) fun k hk => Below.heap_alloc _ _ _ (hA.lt k hk).2)
              have HG1 := Lib.hid (hG.keep (w' := wr.alloc (.cells #[.slice Ag (j + 9) cg, .slice A j c] 27)) fun k hk => Below.heap_alloc _ _ _ (hG.lt k hk).2)
              have HLA := Lib.hid hA.lt
              have HLG := Lib.hid hG.lt
              have HB1 := Lib.hid (hb.alloc hBr (.cells #[.slice Ag (j + 9) cg, .slice A j c] 27))
              have hsz : (wr.alloc (.cells #[.slice Ag (j + 9) cg, .slice A j c] 27)).heap.size = wr.heap.size + 1 := by simp
              have HSZ := Lib.hid hsz
              have hsrc : Src (wr.alloc (.cells #[.slice Ag (j + 9) cg, .slice A j c] 27)) (fun _ => True) (some ⟨wr.heap.size, 0, none⟩) 2 2 [.slice Ag (j + 9) cg, .slice A j c] := by
                refine ⟨rfl, (by intro h; cases h), Nat.le_refl _, (fun _ _ _ => trivial), ?_⟩
                intro ad h k u hu
                cases h
                exact World.news_of_block (heap_alloc_new wr _) k u hu
              have HSR := Lib.hid hsrc
              have h1c : ∀ u ∈ [Value.slice Ag (j + 9) cg, Value.slice A j c], u.oneCell' = true := by
                intro u hu
                simp at hu
                rcases hu with rfl | rfl <;> rfl
              clear hA hG hgr hb hsz hsrc
              obtain ⟨wy, rfl⟩ : ∃ wy : World, wy = wr := ⟨_, rfl⟩
              go_wp2_with (at_builtin; refine wpList_append_src rfl (.tmp 49) (.tmp 55) 42 rfl wy.heap.size 27 i0 (.slice none 0 0) 24 Try.underlying42 hi0 hz0 hz1 hz2 rfl (.slice none 0 0) 0 [] rfl (World.ownsRow_nil _ _ _ _) _ _ 2 2 _ rfl HSR.out h1c (by simp [maxLen]) (by omega) (by rw [HSZ.out]; omega) ?_; intro v' w' hown' hgr' hat'; obtain ⟨Al, cl, rfl⟩ := own_slice hown')
              obtain ⟨gl, cap, hv, _⟩ := World.ownsRow.form hown' (by omega)
              injection hv with hv _ hcapv
              have hcl : 2 ≤ cl := by
                rcases hown'.2 with ⟨h1, _⟩ | ⟨_, _, _, h1, _, _, hnc, _⟩
                · injection h1 with _ h1; omega
                · injection h1 with _ _ h3; omega
              subst hv
              have hcell := World.ownsRow.cells hown' (g := gl) rfl
              have hp : ∀ k : Nat, (⟨gl, 0, none⟩ : Addr).add k = ⟨gl, k, none⟩ := by intro k; unfold Addr.add; split <;> simp_all
              have hc0 : w'.cell? ⟨gl, 0, none⟩ = some (.slice Ag (j + 9) cg) := by have := hcell 0 _ rfl; rw [hp] at this; exact this
              have hc1 : w'.cell? ⟨gl, 1, none⟩ = some (.slice A j c) := by have := hcell 1 _ rfl; rw [hp] at this; exact this
              refine ⟨.inr ⟨rfl, _, cl, Ag, cg, gl, rfl, rfl, hcl, hc0, hc1, HG1.out.keep fun k hk => hgr'.block k (HG1.out.lt k hk).2 (by intro e; cases e), HA1.out.keep fun k hk => hgr'.block k (HA1.out.lt k hk).2 (by intro e; cases e), HB1.out.grown hgr' (by rw [HSZ.out]; omega) (by intro k hk; cases hk)⟩, by simp [intOf]⟩
    · have hcA := own_cap hA
      have hcG := own_cap hG
      have sA := Lib.hid (Src.of_own hA)
      have sG := Lib.hid (Src.of_own hG)
      have HB := Lib.hid hb
      obtain ⟨wz, rfl⟩ : ∃ wz : World, wz = wr := ⟨_, rfl⟩
      clear hA hG hb
      go_wp2_with fail
      go_loop [9, 10] (fun i _ => ∃ t : Nat, t ≤ 2 ∧ i = .int .i64 t) (fun i _ => 2 - (intOf i).toNat)
      case atStart => exact ⟨0, by omega, rfl⟩
      case round =>
        obtain ⟨t, ht, rfl⟩ := hrel
        by_cases ht0 : t = 0
        · subst ht0
          go_wp2_with fail
          go_loop [10] (fun k => ∃ i : Nat, i ≤ n + 9 ∧ k = .int .i64 i) (fun k => n + 9 - (intOf k).toNat)
          case atStart => exact ⟨0, by omega, rfl⟩
          case round =>
            obtain ⟨i, hi, rfl⟩ := hrel
            by_cases hlt : i < n + 9
            · obtain ⟨ad, rfl⟩ : ∃ ad, AG = some ad := by
                cases AG with
                | none => have := (sG.out.nil rfl).1; omega
                | some ad => exact ⟨ad, rfl⟩
              have hcell : wz.cell? (ad.add i) = some (.int .u8 1) := sG.out.at_ ad rfl i _ (ones_get _ _ _ hlt)
              have hcp := sG.out.cap
              go_wp2
              go_round
              case rel => exact ⟨i + 1, by omega, by go_num⟩
              case measure => simp [intOf]; omega
            · obtain rfl : i = n + 9 := by omega
              go_wp2
              exact ⟨⟨1, by omega, rfl⟩, by simp [intOf]⟩
        by_cases ht1 : t = 1
        · subst ht1
          clear ht0
          go_wp2_with fail
          go_loop [10] (fun k => ∃ i : Nat, i ≤ n ∧ k = .int .i64 i) (fun k => n - (intOf k).toNat)
          case atStart => exact ⟨0, by omega, rfl⟩
          case round =>
            obtain ⟨i, hi, rfl⟩ := hrel
            by_cases hlt : i < n
            · obtain ⟨ad, rfl⟩ : ∃ ad, A = some ad := by
                cases A with
                | none => have := (sA.out.nil rfl).1; omega
                | some ad => exact ⟨ad, rfl⟩
              have hcell : wz.cell? (ad.add i) = some (.int .u8 1) := sA.out.at_ ad rfl i _ (ones_get _ _ _ hlt)
              have hcp := sA.out.cap
              go_wp2
              go_round
              case rel => exact ⟨i + 1, by omega, by go_num⟩
              case measure => simp [intOf]; omega
            · obtain rfl : i = n := by omega
              go_wp2
              exact ⟨⟨2, by omega, rfl⟩, by simp [intOf]⟩
        · obtain rfl : t = 2 := by omega
          clear ht0 ht1
          go_wp2
          go_ret
          exact ⟨rfl, HB.out⟩
end Go.Proofs.Ytkgkgagnpmhoiaa
