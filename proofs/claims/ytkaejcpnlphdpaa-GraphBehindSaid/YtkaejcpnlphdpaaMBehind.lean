/-
  The law GraphBehind, walked (filled by mkw.py).
-/
import Derived.Test.YtkaejcpnlphdpaaMLeaves
import Derived.Test.YtkaejcpnlphdpaaMOnce
namespace Go.Proofs.Ytkaejcpnlphdpaa
open Go.RowKit

theorem D.nodup {g : Gr} {C o l C' o' : List Int} (h : D g C o l C' o') : (∀ x ∈ o, x ∈ C) → o.Nodup → o'.Nodup ∧ (∀ x ∈ o', x ∈ o ∨ x ∉ C) ∧ ∀ x ∈ o', x ∈ C' := by
  induction h with
  | nil => exact fun h0 h1 => ⟨h1, fun x hx => .inl hx, h0⟩
  | skip hx _ ih => exact fun h0 h1 => ih h0 h1
  | @go C o x l C1 o1 C' o' hx hd _ ih1 ih2 =>
    intro h0 h1
    have h4 := ih1 (fun y hy => List.mem_append_left _ (h0 y hy)) h1
    have hxo : x ∉ o1 := fun h => by
      rcases h4.2.1 x h with h | h
      · exact hx (h0 x h)
      · exact h (by simp)
    have h5 := ih2 (fun y hy => by
      rcases List.mem_append.1 hy with h | h
      · exact h4.2.2 y h
      · rw [List.mem_singleton.1 h]; exact hd.more.1 x (by simp)) (by
      rw [List.nodup_append]
      refine ⟨h4.1, by simp, fun a ha b hb e => ?_⟩
      rw [List.mem_singleton.1 hb] at e
      exact hxo (e ▸ ha))
    refine ⟨h5.1, fun y hy => ?_, h5.2.2⟩
    rcases h5.2.1 y hy with h | h
    · rcases List.mem_append.1 h with h | h
      · rcases h4.2.1 y h with h | h
        · exact .inl h
        · exact .inr fun hc => h (List.mem_append_left _ hc)
      · rw [List.mem_singleton.1 h]; exact .inr hx
    · exact .inr fun hc => h (hd.more.1 y (List.mem_append_left _ hc))
theorem nodup_take {l : List Int} (h : l.Nodup) (i : Nat) (hi : i < l.length) : l[i] ∉ l.take i := by
  intro hm
  have h2 := List.take_append_drop i l
  rw [List.drop_eq_getElem_cons hi] at h2
  rw [← h2, List.nodup_append] at h
  exact h.2.2 _ hm _ (List.mem_cons_self ..) rfl
theorem greater_adj {g : Gr} (h : ∀ (i : Nat) (hi : i < g.length), ∀ y ∈ g[i], (i : Int) < y) : ∀ x, ∀ y ∈ adj g x, x < y := by
  intro x y hy
  unfold adj at hy
  rw [List.getD_eq_getElem?_getD] at hy
  by_cases hx : x.toNat < g.length
  · rw [List.getElem?_eq_getElem hx] at hy
    have := h _ hx y hy
    omega
  · rw [List.getElem?_eq_none (by omega)] at hy
    cases hy
/-- What Post leaves, where nodes lead to greater ones alone. -/
theorem post_good {g : Gr} {root : Int} {done C' o' : List Int} (hd : D g (once [] done) [] [root] C' o') :
    (∀ (i : Nat) (h : i < o'.length), o'[i] ∉ o'.take i ∧ o'[i] ∉ done) ∧ ((∀ x, ∀ y ∈ adj g x, x < y) → ∀ (i : Nat) (h : i < o'.length), ∀ y ∈ adj g o'[i], y ∈ o'.take i ∨ y ∈ done) ∧
      ((root ∈ done ∧ o' = []) ∨ (root ∉ done ∧ ∃ o1, o' = o1 ++ [root])) := by
  have h1 := hd.nodup (by intro x hx; cases hx) List.nodup_nil
  refine ⟨fun i h => ⟨nodup_take h1.1 i h, fun hm => ?_⟩, fun hg => ?_, ?_⟩
  · rcases h1.2.1 _ (List.getElem_mem h) with h2 | h2
    · cases h2
    · exact h2 ((once_mem done [] _).2 (.inr hm))
  · exact hd.good (d := done) hg (root - 1) (fun y hy => by
      rcases (once_mem done [] y).1 hy with h | h
      · cases h
      · exact .inr (.inl h)) (fun x hx => by rw [List.mem_singleton.1 hx]; omega) (fun i h => absurd h (Nat.not_lt_zero _))
  · rcases hd.last with ⟨h2, _, h3⟩ | ⟨h2, _, o1, _, _, h3⟩
    · refine .inl ⟨?_, h3⟩
      rcases (once_mem done [] root).1 h2 with h | h
      · cases h
      · exact h
    · exact .inr ⟨fun h => h2 ((once_mem done [] root).2 (.inr h)), o1, h3⟩
set_option maxRecDepth 100000 in
set_option maxHeartbeats 8000000 in
theorem behind_any (Q Q2 : Nat → Prop) (E A : Option Addr) (ce c : Nat) (ws : Nat → Option Addr × Nat) (g : Gr) (root : Int) (r : List Int) (w : World) (h : Ed w Q E ce ws g) (h2 : Src w Q2 A r.length c (ints r)) (hn2 : r.length ≤ 4611686018427387904) :
    Calls Try.prog 7 #[.slice E g.length ce, .int .i64 root, .slice A r.length c] w fun e w' => e = .returned (.bool true) ∧ Below w.heap.size w w' := by
  have HE := Lib.hid h.lt
  have HS := Lib.hid h2.lt
  clear h h2
  go_enter Try.func7, Try.ntmps7
  go_wp2_with fail
  refine (awake_any w).mono ?_
  rintro e w1 ⟨rfl, hb1⟩
  have HB1 := Lib.hid hb1
  have HE1 := Lib.hid (HE.out.below hb1 (fun _ h => h)).lt
  clear hb1
  go_wp2_with fail
  refine (few_any _ _ _ _ _ w1 HE1.out).mono ?_
  rintro e w2 ⟨⟨b, rfl⟩, hb2⟩
  have HB2 := Lib.hid (HB1.out.trans (hb2.mono HB1.out.size))
  have HE2 := Lib.hid (HE1.out.below hb2 (fun _ h => h)).lt
  have HS2 := Lib.hid (HS.out.below HB2.out (fun _ h => h)).lt
  clear hb2 HB1 HE1
  cases b with
  | false =>
    go_wp2_with fail
    go_ret
    exact ⟨rfl, HB2.out⟩
  | true =>
    by_cases hr3 : (1000 : Int) < (r.length : Int)
    · have hd3 := decide_eq_true hr3
      go_wp2_with fail
      go_ret
      exact ⟨rfl, HB2.out⟩
    · have hd3 := decide_eq_false hr3
      cases hok : okP g root r with
      | false =>
        have HPO := Lib.hid (post_no _ _ E A ce c ws g root r w2 HE2.out HS2.out hn2 hok)
        go_wp2_with fail
        refine HPO.out.mono ?_
        rintro e w3 ⟨rfl, hb3⟩
        have HB3 := Lib.hid (HB2.out.trans (hb3.mono HB2.out.size))
        clear hb3
        go_wp2_with fail
        go_ret
        exact ⟨rfl, HB3.out⟩
      | true =>
        obtain ⟨C', o, hD⟩ := post_D g root r
        have hd := hD hok
        obtain ⟨hrt, hnn, hxx⟩ := okP_parts hok
        have hl := hd.left (n := g.length) (fun y => right_adj hrt y) (by intro x hx; cases hx) (by unfold nodesB; simp [hxx]) rfl (Full.nil _)
        have hg3 := right_len hrt
        have ho3 : o.length ≤ 256 := Nat.le_trans hl.2.1.le hg3
        have HND := Lib.hid hl.1
        obtain ⟨p1, p2, p3⟩ := post_good hd
        have HP1 := Lib.hid p1
        have HP2 := Lib.hid p2
        have HP3 := Lib.hid p3
        have HPO := Lib.hid (post_ok _ _ E A ce c ws g root r C' o w2 HE2.out HS2.out hn2 hok hd)
        clear hD hd hl hrt hnn hxx hok p1 p2 p3
        go_wp2_with fail
        refine HPO.out.mono ?_
        rintro e w3 ⟨O3, co3, rfl, ho3', hb3⟩
        have HB3 := Lib.hid (HB2.out.trans (hb3.mono HB2.out.size))
        have HO3 := Lib.hid (Src.of_own ho3').lt
        have HE3 := Lib.hid (HE2.out.below hb3 (fun _ h => h)).lt
        have HS3 := Lib.hid (HS2.out.below hb3 (fun _ h => h)).lt
        clear hb3 ho3' HPO HB2 HE2 HS2 HE HS
        have hcap := HO3.out.cap
        go_wp2_with fail
        go_loopw [10] (fun i wr => ∃ k : Nat, k ≤ g.length ∧ i = .int .i64 (k : Int) ∧ (∀ (j : Nat) (hj : j < g.length), j < k → ∀ y ∈ g[j], (j : Int) < y) ∧ wr = w3) (fun i _ => g.length - (intOf i).toNat)
        case atStart => exact ⟨0, Nat.zero_le _, rfl, fun j _ hj => absurd hj (Nat.not_lt_zero _), rfl⟩
        case round =>
          obtain ⟨i, hi, rfl, hgr, rfl⟩ := hrel
          have HGR := Lib.hid hgr
          clear hgr
          by_cases hlt : i < g.length
          · obtain ⟨ed, rfl⟩ : ∃ ed, E = some ed := by
              cases E with
              | none => have := (HE3.out.out.nil rfl).1; omega
              | some ad => exact ⟨ad, rfl⟩
            have c3 := HE3.out.out.at_ ed rfl i _ (lists_get ws g i hlt)
            have HIN := Lib.hid (HE3.out.inn i hlt)
            have hbg := HE3.out.bigs i hlt
            obtain ⟨q, hq⟩ : ∃ q, q = g[i] := ⟨_, rfl⟩
            have HQ := Lib.hid hq
            rw [← hq] at c3 HIN hbg
            clear hq
            go_wp2_with fail
            go_loopw [11] (fun j wq => ∃ k : Nat, k ≤ q.length ∧ j = .int .i64 (k : Int) ∧ (∀ y ∈ q.take k, (i : Int) < y) ∧ wq = wr) (fun j _ => q.length - (intOf j).toNat)
            case atStart => exact ⟨0, Nat.zero_le _, rfl, (by intro y hy; cases hy), rfl⟩
            case round =>
              obtain ⟨k, hk, rfl, hgq, rfl⟩ := hrel
              have HGQ := Lib.hid hgq
              clear hgq
              by_cases hkq : k < q.length
              · obtain ⟨aq, haq⟩ : ∃ aq, (ws i).1 = some aq := by
                  cases h : (ws i).1 with
                  | none => have := (HIN.out.nil h).1; omega
                  | some ad => exact ⟨ad, rfl⟩
                have c4 := HIN.out.at_ aq haq k _ (ints_get q k hkq)
                rw [haq] at c3
                have HNX := Lib.hid (fun h : (i : Int) < q[k] => show ∀ y ∈ q.take (k + 1), (i : Int) < y from fun y hy => by
                  rw [List.take_succ_eq_append_getElem hkq] at hy
                  rcases List.mem_append.1 hy with h1 | h1
                  · exact HGQ.out y h1
                  · rw [List.mem_singleton.1 h1]; exact h)
                generalize q[k] = y at *
                clear haq
                by_cases hy : y ≤ (i : Int)
                · have hdy := decide_eq_true hy
                  go_wp2_with fail
                  go_ret
                  exact ⟨rfl, HB3.out⟩
                · have hdy := decide_eq_false hy
                  have HN2 := Lib.hid (HNX.out (by omega))
                  go_wp2_with fail
                  go_roundw
                  case rel => exact ⟨k + 1, by omega, by go_num, HN2.out, by first | trivial | rfl⟩
                  case measure => simp [intOf]; omega
              · obtain rfl : k = q.length := by omega
                have HN2 := Lib.hid (show ∀ (j : Nat) (hj : j < g.length), j < i + 1 → ∀ y ∈ g[j], (j : Int) < y from fun j hj hji y hy => by
                  by_cases e : j = i
                  · subst e
                    rw [← HQ.out] at hy
                    exact HGQ.out y (by rw [List.take_length]; exact hy)
                  · exact HGR.out j hj (by omega) y hy)
                go_wp2_with fail
                go_roundw
                case rel => exact ⟨i + 1, by omega, by go_num, HN2.out, by first | trivial | rfl⟩
                case measure => simp [intOf]; omega
          · obtain rfl : i = g.length := by omega
            have HGA := Lib.hid (HP2.out (greater_adj fun j hj y hy => HGR.out j hj hj y hy))
            clear HP2 HGR
            go_wp2_with fail
            go_loopw [12] (fun i wq => ∃ k : Nat, k ≤ o.length ∧ i = .int .i64 (k : Int) ∧ Below wr.heap.size wr wq) (fun i _ => o.length - (intOf i).toNat)
            case atStart => exact ⟨0, Nat.zero_le _, rfl, Below.refl _ _⟩
            case round =>
              obtain ⟨i, hi, rfl, hB⟩ := hrel
              have HB := Lib.hid hB
              clear hB
              by_cases hlt : i < o.length
              · obtain ⟨ad, rfl⟩ : ∃ ad, O3 = some ad := by
                  cases O3 with
                  | none => have := (HO3.out.nil rfl).1; omega
                  | some ad => exact ⟨ad, rfl⟩
                have HBD := Lib.hid (HB.out.trans ((drew_below wr).mono HB.out.size))
                have HOD := Lib.hid (HO3.out.below HBD.out (fun _ h => h)).lt
                have HSD := Lib.hid (HS3.out.below HBD.out (fun _ h => h)).lt
                have HED := Lib.hid (HE3.out.below HBD.out (fun _ h => h)).lt
                have e3 : wr.drew.cell? (ad.add i) = some (.int .i64 o[i]) := HOD.out.at_ ad rfl i _ (ints_get o i hlt)
                have hkc : i ≤ co3 := by omega
                have htl : (o.take i).length = i := by rw [List.length_take]; omega
                have HTK := Lib.hid (show ∀ W : World, Src W (fun j => j < W.heap.size) (some ad) o.length co3 (ints o) → Src W (fun j => j < W.heap.size) (some ad) (o.take i).length co3 (ints (o.take i)) from fun W h => by
                  rw [htl, show ints (o.take i) = (ints o).take i from List.map_take]
                  exact src_take h i hi)
                have HH1 := Lib.hid (has_pure _ (some ad) co3 (o.take i) o[i] wr.drew (HTK.out _ HOD.out) (by omega))
                have HH2 := Lib.hid (has_pure _ A c r o[i] wr.drew HSD.out hn2)
                obtain ⟨n1, n2⟩ := HP1.out i hlt
                rw [decide_eq_false n1, htl] at HH1
                rw [decide_eq_false n2] at HH2
                obtain ⟨m, hm, hmn⟩ := node_nat (nodes_mem HND.out (List.getElem_mem hlt))
                have HGI := Lib.hid (HGA.out i hlt)
                rw [hm, adj_nat g m hmn] at HGI
                rw [hm] at e3 HH1 HH2
                have HHT := Lib.hid (fun (W : World) (hb : Below wr.drew.heap.size wr.drew W) (y : Int) => has_any _ (some ad) co3 (o.take i) y W (HTK.out _ (HOD.out.below hb (fun _ h => h)).lt) (by omega))
                rw [htl] at HHT
                generalize o.take i = oi at *
                clear n1 n2 hm htl HTK
                go_upto_region 18 with (fail)
                generalize hw9 : wr.drew = w9 at *
                have hS : (fun X => X = w9) wr.drew := hw9
                refine wp_region_held_drew (S := fun X => X = w9) (by kernel_rfl) hS (fun hHeld => ?_)
                refine take_at (i := 0) (d := 71) (v := .slice (some ad) o.length co3) rfl rfl (by kernel_rfl) (by kernel_rfl) (by kernel_rfl) (fun _ _ _ h => h) (Or.inl ⟨by rfl, ?_⟩) (by assumption) ?_
                · intro X hX; subst hX; go_simp
                (try simp only [Act.put, List.setIfInBounds_toArray, List.set_cons_zero, List.set_cons_succ])
                refine take_at (i := 1) (d := 72) (v := .int .i64 (i : Int)) rfl rfl (by kernel_rfl) (by kernel_rfl) (by kernel_rfl) (fun _ _ _ h => h) (Or.inl ⟨by rfl, ?_⟩) (by assumption) ?_
                · intro X hX; subst hX; go_simp
                (try simp only [Act.put, List.setIfInBounds_toArray, List.set_cons_zero, List.set_cons_succ])
                refine take_at (i := 2) (d := 73) (v := .slice (some ad) i co3) rfl rfl (by kernel_rfl) (by kernel_rfl) (by kernel_rfl) (fun _ _ _ h => h) (Or.inl ⟨by rfl, ?_⟩) (by assumption) ?_
                · intro X hX; subst hX; go_simp
                (try simp only [Act.put, List.setIfInBounds_toArray, List.set_cons_zero, List.set_cons_succ])
                refine take_at (i := 3) (d := 74) (v := .slice (some ad) o.length co3) rfl rfl (by kernel_rfl) (by kernel_rfl) (by kernel_rfl) (fun _ _ _ h => h) (Or.inl ⟨by rfl, ?_⟩) (by assumption) ?_
                · intro X hX; subst hX; go_simp
                (try simp only [Act.put, List.setIfInBounds_toArray, List.set_cons_zero, List.set_cons_succ])
                refine take_at (i := 4) (d := 75) (v := .int .i64 (i : Int)) rfl rfl (by kernel_rfl) (by kernel_rfl) (by kernel_rfl) (fun _ _ _ h => h) (Or.inl ⟨by rfl, ?_⟩) (by assumption) ?_
                · intro X hX; subst hX; go_simp
                (try simp only [Act.put, List.setIfInBounds_toArray, List.set_cons_zero, List.set_cons_succ])
                refine take_at (i := 5) (d := 76) (v := .pointer (some (ad.add i))) rfl rfl (by kernel_rfl) (by kernel_rfl) (by kernel_rfl) (fun _ _ _ h => h) (Or.inl ⟨by rfl, ?_⟩) (by assumption) ?_
                · intro X hX; subst hX; go_simp
                (try simp only [Act.put, List.setIfInBounds_toArray, List.set_cons_zero, List.set_cons_succ])
                refine take_at (i := 6) (d := 77) (v := .int .i64 (m : Int)) rfl rfl (by kernel_rfl) (by kernel_rfl) (by kernel_rfl) (fun _ _ _ h => h) (Or.inl ⟨by rfl, ?_⟩) (by assumption) ?_
                · intro X hX; subst hX; go_simp
                (try simp only [Act.put, List.setIfInBounds_toArray, List.set_cons_zero, List.set_cons_succ])
                refine wpAnyH_ready (rs := [7]) (by kernel_rfl) (by simp) ?_
                refine AllReadyH.cons rfl (fun K hK => ?_) AllReadyH.nil
                go_simp
                refine (HH1.out).mono ?_
                rintro e wq ⟨rfl, rfl⟩
                go_simp
                refine hK.out _ _ (by first | exact hHeld | rfl) (fun hHeld => ?_)
                clear hK K
                (try simp only [Act.put, List.setIfInBounds_toArray, List.set_cons_zero, List.set_cons_succ])
                refine take_at (i := 8) (d := 79) (v := .bool false) rfl rfl (by kernel_rfl) (by kernel_rfl) (by kernel_rfl) (fun _ _ _ h => h) (Or.inl ⟨by rfl, ?_⟩) (by assumption) ?_
                · intro X hX; subst hX; go_simp
                (try simp only [Act.put, List.setIfInBounds_toArray, List.set_cons_zero, List.set_cons_succ])
                refine take_at (i := 9) (d := 80) (v := .slice A r.length c) rfl rfl (by kernel_rfl) (by kernel_rfl) (by kernel_rfl) (fun _ _ _ h => h) (Or.inl ⟨by rfl, ?_⟩) (by assumption) ?_
                · intro X hX; subst hX; go_simp
                (try simp only [Act.put, List.setIfInBounds_toArray, List.set_cons_zero, List.set_cons_succ])
                refine take_at (i := 10) (d := 81) (v := .slice (some ad) o.length co3) rfl rfl (by kernel_rfl) (by kernel_rfl) (by kernel_rfl) (fun _ _ _ h => h) (Or.inl ⟨by rfl, ?_⟩) (by assumption) ?_
                · intro X hX; subst hX; go_simp
                (try simp only [Act.put, List.setIfInBounds_toArray, List.set_cons_zero, List.set_cons_succ])
                refine take_at (i := 11) (d := 82) (v := .int .i64 (i : Int)) rfl rfl (by kernel_rfl) (by kernel_rfl) (by kernel_rfl) (fun _ _ _ h => h) (Or.inl ⟨by rfl, ?_⟩) (by assumption) ?_
                · intro X hX; subst hX; go_simp
                (try simp only [Act.put, List.setIfInBounds_toArray, List.set_cons_zero, List.set_cons_succ])
                refine take_at (i := 12) (d := 83) (v := .pointer (some (ad.add i))) rfl rfl (by kernel_rfl) (by kernel_rfl) (by kernel_rfl) (fun _ _ _ h => h) (Or.inl ⟨by rfl, ?_⟩) (by assumption) ?_
                · intro X hX; subst hX; go_simp
                (try simp only [Act.put, List.setIfInBounds_toArray, List.set_cons_zero, List.set_cons_succ])
                refine take_at (i := 13) (d := 84) (v := .int .i64 (m : Int)) rfl rfl (by kernel_rfl) (by kernel_rfl) (by kernel_rfl) (fun _ _ _ h => h) (Or.inl ⟨by rfl, ?_⟩) (by assumption) ?_
                · intro X hX; subst hX; go_simp
                (try simp only [Act.put, List.setIfInBounds_toArray, List.set_cons_zero, List.set_cons_succ])
                refine wpAnyH_ready (rs := [14]) (by kernel_rfl) (by simp) ?_
                refine AllReadyH.cons rfl (fun K hK => ?_) AllReadyH.nil
                go_simp
                refine (HH2.out).mono ?_
                rintro e wq ⟨rfl, rfl⟩
                go_simp
                refine hK.out _ _ (by first | exact hHeld | rfl) (fun hHeld => ?_)
                clear hK K
                (try simp only [Act.put, List.setIfInBounds_toArray, List.set_cons_zero, List.set_cons_succ])
                refine take_at (i := 15) (d := 86) (v := .bool false) rfl rfl (by kernel_rfl) (by kernel_rfl) (by kernel_rfl) (fun _ _ _ h => h) (Or.inl ⟨by rfl, ?_⟩) (by assumption) ?_
                · intro X hX; subst hX; go_simp
                (try simp only [Act.put, List.setIfInBounds_toArray, List.set_cons_zero, List.set_cons_succ])
                refine wpAnyH_done (by kernel_rfl) ?_ _
                obtain ⟨ed, rfl⟩ : ∃ ed, E = some ed := by
                  cases E with
                  | none => have := (HE3.out.out.nil rfl).1; omega
                  | some ad => exact ⟨ad, rfl⟩
                have HIN := Lib.hid (HED.out.inn m hmn)
                have hbg := HED.out.bigs m hmn
                have HE4 := Lib.hid (fun (W : World) (hb : Below w9.heap.size w9 W) => (HED.out.out.below hb (fun _ h => h)).at_ ed rfl m _ (lists_get ws g m hmn))
                have HO4 := Lib.hid (fun (W : World) (hb : Below w9.heap.size w9 W) => World.cell?_of_block (w := w9) (w' := W) (a := ad.add i) (hb.block _ (World.block_lt_of_cell? w9 _ e3)) |>.trans e3)
                generalize g[m] = q at *
                clear e3 hw9 hS
                go_wp2_with fail
                go_loopw [13] (fun j wq => ∃ k : Nat, k ≤ q.length ∧ j = .int .i64 (k : Int) ∧ Below w9.heap.size w9 wq) (fun j _ => q.length - (intOf j).toNat)
                case atStart => exact ⟨0, Nat.zero_le _, rfl, Below.refl _ _⟩
                case round =>
                  obtain ⟨k, hk, rfl, hB⟩ := hrel
                  have HBK := Lib.hid hB
                  clear hB
                  have c1 := HO4.out wr HBK.out
                  have c2 := HE4.out wr HBK.out
                  by_cases hkq : k < q.length
                  · obtain ⟨aq, haq⟩ : ∃ aq, (ws m).1 = some aq := by
                      cases h : (ws m).1 with
                      | none => have := (HIN.out.nil h).1; omega
                      | some ad => exact ⟨ad, rfl⟩
                    have c4 := (HIN.out.below HBK.out (fun _ h => h)).at_ aq haq k _ (ints_get q k hkq)
                    rw [haq] at c2
                    have HGK := Lib.hid (HGI.out _ (List.getElem_mem hkq))
                    have HH1 := Lib.hid (HHT.out wr HBK.out q[k])
                    have HH2 := Lib.hid (fun (W : World) (hb : Below w9.heap.size w9 W) => has_any _ A c r q[k] W (HSD.out.below hb (fun _ h => h)) hn2)
                    generalize q[k] = y at *
                    clear haq
                    by_cases hy : y ∈ oi
                    · rw [decide_eq_true hy] at HH1
                      clear HGK hy
                      go_wp2_with fail
                      refine HH1.out.mono ?_
                      rintro e w11 ⟨rfl, hb11⟩
                      have HB11 := Lib.hid (HBK.out.trans (hb11.mono HBK.out.size))
                      clear hb11
                      go_wp2_with fail
                      go_roundw
                      case rel => exact ⟨k + 1, by omega, by go_num, HB11.out⟩
                      case measure => simp [intOf]; omega
                    · have hyr : y ∈ r := by
                        rcases HGK.out with h | h
                        · exact absurd h hy
                        · exact h
                      rw [decide_eq_false hy] at HH1
                      rw [decide_eq_true hyr] at HH2
                      clear HGK hy hyr
                      go_wp2_with fail
                      refine HH1.out.mono ?_
                      rintro e w11 ⟨rfl, hb11⟩
                      have HB11 := Lib.hid (HBK.out.trans (hb11.mono HBK.out.size))
                      clear hb11
                      go_wp2_with fail
                      refine (HH2.out w11 HB11.out).mono ?_
                      rintro e w12 ⟨rfl, hb12⟩
                      have HB12 := Lib.hid (HB11.out.trans (hb12.mono HB11.out.size))
                      clear hb12
                      go_wp2_with fail
                      go_roundw
                      case rel => exact ⟨k + 1, by omega, by go_num, HB12.out⟩
                      case measure => simp [intOf]; omega
                  · obtain rfl : k = q.length := by omega
                    go_wp2_with fail
                    go_roundw
                    case rel => exact ⟨i + 1, by omega, by go_num, HBD.out.trans (HBK.out.mono HBD.out.size)⟩
                    case measure => simp [intOf]; omega
              · obtain rfl : i = o.length := by omega
                have HH := Lib.hid (has_pure _ A c r root wr (HS3.out.below HB.out (fun _ h => h)) hn2)
                clear HP1 HGA HND
                rcases HP3.out with ⟨hrd, rfl⟩ | ⟨hrd, o1, rfl⟩
                · rw [decide_eq_true hrd] at HH
                  clear hrd HP3
                  go_wp2_with fail
                  refine HH.out.mono ?_
                  rintro e w11 ⟨rfl, rfl⟩
                  go_wp2_with fail
                  go_ret
                  exact ⟨rfl, HB3.out.trans (HB.out.mono HB3.out.size)⟩
                · rw [decide_eq_false hrd] at HH
                  clear hrd HP3
                  obtain ⟨ad, rfl⟩ : ∃ ad, O3 = some ad := by
                    cases O3 with
                    | none => have := (HO3.out.nil rfl).1; simp at this
                    | some ad => exact ⟨ad, rfl⟩
                  have c1 : wr.cell? (ad.add o1.length) = some (.int .i64 root) := (HO3.out.below HB.out (fun _ h => h)).at_ ad rfl o1.length _ (by simp)
                  have hln : ((o1 ++ [root]).length : Int) = (o1.length : Int) + 1 := by simp
                  have hl2 : (o1 ++ [root]).length = o1.length + 1 := by simp
                  have hnz : (((o1.length : Int) + 1) == 0) = false := by simp; omega
                  rw [hl2]
                  go_wp2_with fail
                  refine HH.out.mono ?_
                  rintro e w11 ⟨rfl, rfl⟩
                  go_wp2_with fail
                  go_ret
                  exact ⟨rfl, HB3.out.trans (HB.out.mono HB3.out.size)⟩
end Go.Proofs.Ytkaejcpnlphdpaa
