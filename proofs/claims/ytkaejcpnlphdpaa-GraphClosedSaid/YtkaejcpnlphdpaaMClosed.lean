/-
  The law GraphClosed, walked.
-/
import Derived.Test.YtkaejcpnlphdpaaMGoes
namespace Go.Proofs.Ytkaejcpnlphdpaa
open Go.RowKit

theorem okB_left {g : Gr} {a b : List Int} (h : okB g (a ++ b) = true) : okB g a = true := by
  unfold okB nodesB at *
  simp only [Bool.and_eq_true, List.all_append] at *
  exact ⟨h.1, h.2.1⟩
theorem bfs_more {g : Gr} {a b : List Int} (h : okB g (a ++ b) = true) : ∀ x ∈ bfs g a, x ∈ bfs g (a ++ b) := by
  unfold okB at h
  simp only [Bool.and_eq_true] at h
  exact bfs_least (S := fun x => x ∈ bfs g (a ++ b)) (fun x hx => bfs_roots x (List.mem_append_left _ hx)) (fun x hx y hy => bfs_closed h.1 h.2 x hx y hy) g.length
theorem bool_cell {w : World} {Q : Nat → Prop} {gc n : Nat} {C : List Int} (h : Src w Q (some ⟨gc, 0, none⟩) n n (bools n C)) (k : Nat) (hk : k < n) : w.cell? ⟨gc, k, none⟩ = some (.bool (decide ((k : Int) ∈ C))) := by
  have := h.at_ _ rfl k _ (bools_get n C k hk)
  rwa [show ((⟨gc, 0, none⟩ : Addr).add k) = ⟨gc, k, none⟩ by unfold Addr.add; split <;> simp_all] at this
set_option maxRecDepth 100000 in
set_option maxHeartbeats 8000000 in
theorem closed_any (Q Q2 Q3 : Nat → Prop) (E A B : Option Addr) (ce c d : Nat) (ws : Nat → Option Addr × Nat) (g : Gr) (a b : List Int) (w : World) (h : Ed w Q E ce ws g) (h2 : Src w Q2 A a.length c (ints a)) (h3 : Src w Q3 B b.length d (ints b)) (hn2 : a.length ≤ 4611686018427387904) (hn3 : b.length ≤ 4611686018427387904) :
    Calls Try.prog 6 #[.slice E g.length ce, .slice A a.length c, .slice B b.length d] w fun e w' => e = .returned (.bool true) ∧ Below w.heap.size w w' := by
  have HE := Lib.hid h.lt
  have HS := Lib.hid h2.lt
  have HT := Lib.hid h3.lt
  clear h h2 h3
  obtain ⟨i0, hi0, hz0, hz1, hz2⟩ := info3 (show (Try.prog.info? 3).map (fun i => (i.zero, i.size, i.bytes)) = some (some (.int .i64 0), 1, 8) by kernel_rfl)
  go_enter Try.func6, Try.ntmps6
  go_wp2_with fail
  refine (awake_any w).mono ?_
  rintro e w1 ⟨rfl, hb1⟩
  have HB1 := Lib.hid hb1
  have HE1 := Lib.hid (HE.out.below hb1 (fun _ h => h)).lt
  clear hb1
  go_wp2_with fail
  refine (few_any _ _ _ _ _ w1 HE1.out).mono ?_
  rintro e w2 ⟨⟨fb, rfl⟩, hb2⟩
  have HB2 := Lib.hid (HB1.out.trans (hb2.mono HB1.out.size))
  have HE2 := Lib.hid (HE1.out.below hb2 (fun _ h => h)).lt
  have HS2 := Lib.hid (HS.out.below HB2.out (fun _ h => h)).lt
  have HT2 := Lib.hid (HT.out.below HB2.out (fun _ h => h)).lt
  clear hb2 HB1 HE1
  cases fb with
  | false =>
    go_wp2_with fail
    go_ret
    exact ⟨rfl, HB2.out⟩
  | true =>
    by_cases hra : (1000 : Int) < (a.length : Int)
    · have hda := decide_eq_true hra
      go_wp2_with fail
      go_ret
      exact ⟨rfl, HB2.out⟩
    · have hda := decide_eq_false hra
      by_cases hrb : (1000 : Int) < (b.length : Int)
      · have hdb := decide_eq_true hrb
        go_wp2_with fail
        go_ret
        exact ⟨rfl, HB2.out⟩
      · have hdb := decide_eq_false hrb
        have ha : a.length ≤ 1000 := by omega
        have hb : b.length ≤ 1000 := by omega
        have HON := Lib.hid (World.ownsRow_nil w2 w2.heap.size 3 1)
        go_upto_region 6 with (at_builtin; refine wpList_append_src rfl (.tmp 30) (.tmp 31) 23 rfl w2.heap.size 3 i0 (.int .i64 0) 8 Try.underlying23 hi0 hz0 hz1 hz2 rfl (.slice none 0 0) 0 [] rfl HON.out (fun k => k < w2.heap.size) A a.length c (ints a) rfl HS2.out (by intro u hu; simp at hu; obtain ⟨_, _, rfl⟩ := hu; rfl) (by simp only [maxLen]; omega) (by omega) (Nat.le_refl _) ?_; intro v' w3 hown hg hat; obtain ⟨A3, c3, rfl⟩ := own_slice hown; have HFIN := Lib.hid (And.intro hown ((Below.refl w2.heap.size w2).grown hg (Nat.le_refl _) (fun k hk => by cases hk))); clear hown hg hat)
        rw [List.nil_append, Nat.zero_add] at HFIN
        have HT3 := Lib.hid (HT2.out.below HFIN.out.2 (fun _ h => h))
        have hwz := HFIN.out.2.size
        go_upto_region 7 with (at_builtin; refine wpList_append_src rfl (.tmp 33) (.tmp 34) 23 rfl w2.heap.size 3 i0 (.int .i64 0) 8 Try.underlying23 hi0 hz0 hz1 hz2 rfl (.slice A3 a.length c3) a.length (ints a) rfl HFIN.out.1 (fun k => k < w2.heap.size) B b.length d (ints b) rfl HT3.out (by intro u hu; simp at hu; obtain ⟨_, _, rfl⟩ := hu; rfl) (by simp only [maxLen]; omega) (by omega) hwz ?_; intro v' w4 hown hg hat; obtain ⟨A4, c4, rfl⟩ := own_slice hown; have HFI4 := Lib.hid (And.intro hown (HFIN.out.2.grown hg hwz (fun k hk => (HFIN.out.1.lt k hk).1))); clear hown hg hat)
        have HAB := Lib.hid (show Src w4 (fun k => k < w4.heap.size) A4 (a ++ b).length c4 (ints (a ++ b)) from by rw [List.length_append, show ints (a ++ b) = ints a ++ ints b from List.map_append]; exact (Src.of_own HFI4.out.1).lt)
        have HE4 := Lib.hid (HE2.out.below HFI4.out.2 (fun _ h => h)).lt
        have HS4 := Lib.hid (HS2.out.below HFI4.out.2 (fun _ h => h)).lt
        have HB4 := Lib.hid (HB2.out.trans (HFI4.out.2.mono HB2.out.size))
        have hlab : (a ++ b).length ≤ 4611686018427387904 := by rw [List.length_append]; omega
        clear HFI4 HFIN HT3 HT2 HE2 HS2 HON HB2
        cases hok : okB g (a ++ b) with
        | false =>
          have HN := Lib.hid (fun W (hb : Below w4.heap.size w4 W) => reach_no _ _ E A4 ce c4 ws g (a ++ b) W (HE4.out.below hb (fun _ h => h)) (HAB.out.below hb (fun _ h => h)) hlab hok)
          rw [List.length_append] at HN
          cases hoa : okB g a with
          | false =>
            have HR := Lib.hid (reach_no _ _ E A ce c ws g a w4 HE4.out HS4.out hn2 hoa)
            go_wp2_with fail
            refine HR.out.mono ?_
            rintro e w5 ⟨rfl, hb5⟩
            have HB5 := Lib.hid hb5
            clear hb5
            go_wp2_with fail
            refine (HN.out w5 HB5.out).mono ?_
            rintro e w6 ⟨rfl, hb6⟩
            have HB6 := Lib.hid (HB5.out.trans (hb6.mono HB5.out.size))
            clear hb6
            go_wp2_with fail
            go_ret
            exact ⟨rfl, HB4.out.trans (HB6.out.mono HB4.out.size)⟩
          | true =>
            have HR := Lib.hid (reach_ok _ _ E A ce c ws g a w4 HE4.out HS4.out hn2 hoa)
            go_wp2_with fail
            refine HR.out.mono ?_
            rintro e w5 ⟨g5, rfl, ho5, hb5⟩
            have HB5 := Lib.hid hb5
            clear hb5 ho5
            go_wp2_with fail
            refine (HN.out w5 HB5.out).mono ?_
            rintro e w6 ⟨rfl, hb6⟩
            have HB6 := Lib.hid (HB5.out.trans (hb6.mono HB5.out.size))
            clear hb6
            go_wp2_with fail
            go_ret
            exact ⟨rfl, HB4.out.trans (HB6.out.mono HB4.out.size)⟩
        | true =>
          have hoa := okB_left hok
          have HN := Lib.hid (fun W (hb : Below w4.heap.size w4 W) => reach_ok _ _ E A4 ce c4 ws g (a ++ b) W (HE4.out.below hb (fun _ h => h)) (HAB.out.below hb (fun _ h => h)) hlab hok)
          rw [List.length_append] at HN
          have HR := Lib.hid (reach_ok _ _ E A ce c ws g a w4 HE4.out HS4.out hn2 hoa)
          have HMO := Lib.hid (bfs_more hok)
          have hok2 := hoa
          unfold okB at hok2
          simp only [Bool.and_eq_true] at hok2
          have HG := Lib.hid hok2.1
          have HCL := Lib.hid (bfs_closed hok2.1 hok2.2)
          have hg3 := right_len hok2.1
          clear hok hoa hok2
          generalize bfs g (a ++ b) = y at *
          generalize bfs g a = x at *
          go_wp2_with fail
          refine HR.out.mono ?_
          rintro e w5 ⟨g5, rfl, ho5, hb5⟩
          have HB5 := Lib.hid hb5
          have HX5 := Lib.hid (Src.of_own ho5).lt
          clear hb5 ho5
          go_wp2_with fail
          refine (HN.out w5 HB5.out).mono ?_
          rintro e w6 ⟨g6, rfl, ho6, hb6⟩
          have HB6 := Lib.hid (HB4.out.trans ((HB5.out.trans (hb6.mono HB5.out.size)).mono HB4.out.size))
          have HX6 := Lib.hid (HX5.out.below hb6 (fun _ h => h)).lt
          have HY6 := Lib.hid (Src.of_own ho6).lt
          have HE6 := Lib.hid (HE4.out.below (HB5.out.trans (hb6.mono HB5.out.size)) (fun _ h => h)).lt
          clear hb6 ho6 HX5 HN HR HE4 HS4 HAB HB5 HB4 HE HS HT
          go_wp2_with fail
          go_loopw [13] (fun i wr => ∃ k : Nat, k ≤ g.length ∧ i = .int .i64 (k : Int) ∧ wr = w6) (fun i _ => g.length - (intOf i).toNat)
          case atStart => exact ⟨0, Nat.zero_le _, rfl, rfl⟩
          case round =>
            obtain ⟨i, hi, rfl, rfl⟩ := hrel
            by_cases hlt : i < g.length
            · have c1 := bool_cell HX6.out i hlt
              have c2 := bool_cell HY6.out i hlt
              obtain ⟨ed, rfl⟩ : ∃ ed, E = some ed := by
                cases E with
                | none => have := (HE6.out.out.nil rfl).1; omega
                | some ad => exact ⟨ad, rfl⟩
              have c3 := HE6.out.out.at_ ed rfl i _ (lists_get ws g i hlt)
              have HIN := Lib.hid (HE6.out.inn i hlt)
              have hbg := HE6.out.bigs i hlt
              have HRA := Lib.hid (right_adj HG.out (i : Int))
              have HCI := Lib.hid (HCL.out (i : Int))
              have HMI := Lib.hid (HMO.out (i : Int))
              rw [adj_nat g i hlt] at HRA HCI
              generalize g[i] = q at *
              have key : ∀ dx dy : Bool, decide ((i : Int) ∈ x) = dx → decide ((i : Int) ∈ y) = dy → (dx && !dy) = false := by
                intro dx dy h1 h2
                subst h1 h2
                by_cases hx : (i : Int) ∈ x
                · simp [hx, HMI.out hx]
                · simp [hx]
              have HDX := Lib.hid (fun h : decide ((i : Int) ∈ x) = true => HCI.out (of_decide_eq_true h))
              have hkey := key _ _ rfl rfl
              clear key
              generalize decide ((i : Int) ∈ x) = dx at *
              generalize decide ((i : Int) ∈ y) = dy at *
              have hk2 : dx = true → dy = true := by intro h; subst h; simpa using hkey
              clear hkey
              cases dx with
              | false =>
                go_wp2_with fail
                go_loopw [14] (fun j wq => ∃ k : Nat, k ≤ q.length ∧ j = .int .i64 (k : Int) ∧ wq = wr) (fun j _ => q.length - (intOf j).toNat)
                case atStart => exact ⟨0, Nat.zero_le _, rfl, rfl⟩
                case round =>
                  obtain ⟨k, hk, rfl, rfl⟩ := hrel
                  by_cases hkq : k < q.length
                  · go_wp2_with fail
                    go_roundw
                    case rel => exact ⟨k + 1, by omega, by go_num, trivial⟩
                    case measure => simp [intOf]; omega
                  · obtain rfl : k = q.length := by omega
                    go_wp2_with fail
                    go_roundw
                    case rel => exact ⟨i + 1, by omega, by go_num, trivial⟩
                    case measure => simp [intOf]; omega
              | true =>
                obtain rfl := hk2 rfl
                have HCQ := Lib.hid (HDX.out rfl)
                go_wp2_with fail
                go_loopw [14] (fun j wq => ∃ k : Nat, k ≤ q.length ∧ j = .int .i64 (k : Int) ∧ wq = wr) (fun j _ => q.length - (intOf j).toNat)
                case atStart => exact ⟨0, Nat.zero_le _, rfl, rfl⟩
                case round =>
                  obtain ⟨k, hk, rfl, rfl⟩ := hrel
                  by_cases hkq : k < q.length
                  · obtain ⟨m, hm, hmn⟩ := node_nat (nodes_mem HRA.out (List.getElem_mem hkq))
                    have hin := HCQ.out _ (List.getElem_mem hkq)
                    obtain ⟨aq, haq⟩ : ∃ aq, (ws i).1 = some aq := by
                      cases h : (ws i).1 with
                      | none => have := (HIN.out.nil h).1; omega
                      | some ad => exact ⟨ad, rfl⟩
                    have c4 := HIN.out.at_ aq haq k _ (ints_get q k hkq)
                    have c5 := bool_cell HX6.out m hmn
                    rw [hm] at c4 hin
                    rw [decide_eq_true hin] at c5
                    rw [haq] at c3
                    clear hin hm haq
                    go_wp2_with fail
                    go_roundw
                    case rel => exact ⟨k + 1, by omega, by go_num, trivial⟩
                    case measure => simp [intOf]; omega
                  · obtain rfl : k = q.length := by omega
                    go_wp2_with fail
                    go_roundw
                    case rel => exact ⟨i + 1, by omega, by go_num, trivial⟩
                    case measure => simp [intOf]; omega
            · obtain rfl : i = g.length := by omega
              go_wp2_with fail
              go_ret
              exact ⟨rfl, HB6.out⟩
end Go.Proofs.Ytkaejcpnlphdpaa
