/-
  The law GraphOnce, walked.
-/
import Derived.Test.YtkaejcpnlphdpaaMGoes
import Derived.Test.YtkaejcpnlphdpaaIDR
namespace Go.Proofs.Ytkaejcpnlphdpaa
open Go.RowKit

/-- A step of a drawn region that only yields. -/
theorem take_at {P : Program} {md : Region.Mode} {ops : Array Oper} {Q : Exit → Act → World → Prop} {S : World → Prop} {i : Nat} {oi : Oper} {d : Tmp} {v : Value} {fuel : Nat} {listed : Array Bool} {a : Act} {w : World} (hi : ops[i]? = some oi) (hd : oi.dst = some d)
    (hs : Region.noSelect ops = true) (hf : Region.free md ops listed i = true) (hr : (Region.ready md ops listed).contains i = true)
    (hQ : ∀ c a w, Q (.panic c) (a.put (some d) v) w → Q (.panic c) a w) (hy : YieldsIf P ops S oi v a) (hS : S w)
    (h : wpAnyH P md ops Q S fuel (listed.setIfInBounds i true) (a.put (some d) v) w) : wpAnyH P md ops Q S (fuel + 1) listed a w :=
  wpAnyH_take hi hs hf hr (by rw [hd]; exact hQ) hy hS (by rw [hd]; exact h)
theorem src_take {w : World} {Q : Nat → Prop} {A : Option Addr} {n c : Nat} {xs : List Value} (h : Src w Q A n c xs) (k : Nat) (hk : k ≤ n) : Src w Q A k c (xs.take k) := by
  refine ⟨by rw [List.length_take, h.len]; omega, fun hA => ⟨by have := (h.nil hA).1; omega, (h.nil hA).2⟩, Nat.le_trans hk h.cap, fun ad hA h0 => h.blk ad hA (by omega), fun ad hA j u hu => h.at_ ad hA j u ?_⟩
  rw [List.getElem?_take] at hu
  split at hu
  · exact hu
  · cases hu
/-- Whether a node is a root, or one of the first k leads to it. -/
def ledB (g : Gr) (r p : List Int) (i k : Nat) : Bool := decide (p.getD i 0 ∈ r ∨ ∃ y ∈ p.take k, p.getD i 0 ∈ adj g y)
theorem led_zero (g : Gr) (r p : List Int) (i : Nat) : ledB g r p i 0 = decide (p.getD i 0 ∈ r) := by unfold ledB; simp
theorem led_succ (g : Gr) (r p : List Int) (i k : Nat) (hk : k < p.length) : ledB g r p i (k + 1) = (ledB g r p i k || decide (p.getD i 0 ∈ adj g p[k])) := by
  unfold ledB
  rw [List.take_succ_eq_append_getElem hk]
  apply Bool.eq_iff_iff.2
  simp only [List.mem_append, List.mem_singleton, Bool.or_eq_true, decide_eq_true_eq]
  constructor
  · rintro (h | ⟨y, h | rfl, h2⟩)
    · exact .inl (.inl h)
    · exact .inl (.inr ⟨y, h, h2⟩)
    · exact .inr h2
  · rintro ((h | ⟨y, h, h2⟩) | h)
    · exact .inl h
    · exact .inr ⟨y, .inl h, h2⟩
    · exact .inr ⟨_, .inr rfl, h⟩
theorem told_led {g : Gr} {r p : List Int} (h : Told g r p) (i : Nat) (hi : i < p.length) : p[i] ∉ p.take i ∧ ledB g r p i i = true := by
  obtain ⟨h1, h2⟩ := h i hi
  refine ⟨h1, decide_eq_true ?_⟩
  rw [List.getD_eq_getElem?_getD, List.getElem?_eq_getElem hi]
  exact h2
set_option maxRecDepth 100000 in
set_option maxHeartbeats 8000000 in
theorem oncel_any (Q Q2 : Nat → Prop) (E A : Option Addr) (ce c : Nat) (ws : Nat → Option Addr × Nat) (g : Gr) (r : List Int) (w : World) (h : Ed w Q E ce ws g) (h2 : Src w Q2 A r.length c (ints r)) (hn2 : r.length ≤ 4611686018427387904) :
    Calls Try.prog 5 #[.slice E g.length ce, .slice A r.length c] w fun e w' => e = .returned (.bool true) ∧ Below w.heap.size w w' := by
  have HE := Lib.hid h.lt
  have HS := Lib.hid h2.lt
  clear h h2
  go_enter Try.func5, Try.ntmps5
  go_wp2_with fail
  refine (awake_any w).mono ?_
  rintro e w1 ⟨rfl, hb1⟩
  have HB1 := Lib.hid hb1
  have HE1 := Lib.hid (HE.out.below hb1 (fun _ h => h)).lt
  clear hb1
  go_wp2_with fail
  refine (few_any _ _ _ _ _ w1 HE1.out).mono ?_
  rintro e w2 ⟨⟨b, rfl⟩, hb2⟩
  have HB2 := Lib.hid (HB1.out.trans (hb2.mono HB1.out.size))
  have HE2 := Lib.hid (HE1.out.below hb2 (fun _ h => h)).lt
  have HS2 := Lib.hid (HS.out.below HB2.out (fun _ h => h)).lt
  clear hb2 HB1 HE1
  cases b with
  | false =>
    go_wp2_with fail
    go_ret
    exact ⟨rfl, HB2.out⟩
  | true =>
    by_cases hr3 : (3000 : Int) < (r.length : Int)
    · have hd3 := decide_eq_true hr3
      go_wp2_with fail
      go_ret
      exact ⟨rfl, HB2.out⟩
    · have hd3 := decide_eq_false hr3
      cases hok : okB g r with
      | false =>
        have HBR := Lib.hid (breadth_no _ _ E A ce c ws g r w2 HE2.out HS2.out hn2 hok)
        go_wp2_with fail
        refine HBR.out.mono ?_
        rintro e w3 ⟨rfl, hb3⟩
        have HB3 := Lib.hid (HB2.out.trans (hb3.mono HB2.out.size))
        clear hb3
        go_wp2_with fail
        go_ret
        exact ⟨rfl, HB3.out⟩
      | true =>
        have hok2 := hok
        unfold okB at hok2
        simp only [Bool.and_eq_true] at hok2
        obtain ⟨hrt, hnn⟩ := hok2
        have HLE := Lib.hid (show (bfs g r).length ≤ g.length from bfs_len hrt hnn g.length)
        have HTO := Lib.hid (told_led (bfs_told (g := g) (r := r) g.length))
        have HND := Lib.hid (show nodesB g.length (bfs g r) = true from (bfs_nodes hrt hnn g.length).1)
        have HRO := Lib.hid (bfs_roots (g := g) (r := r))
        have HG := Lib.hid (right_len hrt)
        have HBR := Lib.hid (breadth_ok _ _ E A ce c ws g r w2 HE2.out HS2.out hn2 hok)
        clear hok hrt hnn
        change Hid (∀ (i : Nat) (hi : i < (bfs g r).length), (bfs g r)[i] ∉ (bfs g r).take i ∧ ledB g r (bfs g r) i i = true) at HTO
        generalize bfs g r = p at *
        go_wp2_with fail
        refine HBR.out.mono ?_
        rintro e w3 ⟨O3, co3, rfl, ho3, hb3⟩
        have HB3 := Lib.hid (HB2.out.trans (hb3.mono HB2.out.size))
        have HO3 := Lib.hid (Src.of_own ho3).lt
        have HE3 := Lib.hid (HE2.out.below hb3 (fun _ h => h)).lt
        have HS3 := Lib.hid (HS2.out.below hb3 (fun _ h => h)).lt
        clear hb3 ho3 HB2 HE2 HS2 HBR HE HS
        have hg3 := HG.out
        have hp3 := HLE.out
        have hcap := HO3.out.cap
        go_wp2_with fail
        go_loopw [8] (fun i wr => ∃ k : Nat, k ≤ p.length ∧ i = .int .i64 (k : Int) ∧ Below w3.heap.size w3 wr) (fun i _ => p.length - (intOf i).toNat)
        case atStart => exact ⟨0, Nat.zero_le _, rfl, Below.refl _ _⟩
        case round =>
          obtain ⟨i, hi, rfl, hB⟩ := hrel
          have HB := Lib.hid hB
          clear hB
          by_cases hlt : i < p.length
          · obtain ⟨ad, rfl⟩ : ∃ ad, O3 = some ad := by
              cases O3 with
              | none => have := (HO3.out.nil rfl).1; omega
              | some ad => exact ⟨ad, rfl⟩
            have c1 : wr.cell? (ad.add i) = some (.int .i64 p[i]) := (HO3.out.below HB.out (fun _ h => h)).at_ ad rfl i _ (ints_get p i hlt)
            have HH := Lib.hid (has_any _ A c r p[i] wr (HS3.out.below HB.out (fun _ h => h)) hn2)
            have HL0 := Lib.hid (show ledB g r p i 0 = decide (p[i] ∈ r) by rw [led_zero]; simp [hlt])
            rw [← HL0.out] at HH
            obtain ⟨l0, hl0⟩ : ∃ l0, l0 = ledB g r p i 0 := ⟨_, rfl⟩
            have HLL := Lib.hid hl0
            rw [← hl0] at HH
            clear hl0
            go_wp2_with fail
            refine HH.out.mono ?_
            rintro e w4 ⟨rfl, hb4⟩
            have HB4 := Lib.hid (HB.out.trans (hb4.mono HB.out.size))
            clear hb4 HH c1
            go_wp2_with fail
            go_loopw [9, 10] (fun v j wq => ∃ k : Nat, k ≤ i ∧ v = .bool (ledB g r p i k) ∧ j = .int .i64 (k : Int) ∧ Below w3.heap.size w3 wq) (fun _ j _ => i - (intOf j).toNat)
            case atStart => exact ⟨0, Nat.zero_le _, by rw [HLL.out], rfl, HB4.out⟩
            case round =>
              obtain ⟨k, hk, rfl, rfl, hB⟩ := hrel
              have HBQ := Lib.hid hB
              clear hB
              by_cases hki : k < i
              · obtain ⟨m, hm, hmn⟩ := node_nat (nodes_mem HND.out (List.getElem_mem (show k < p.length by omega)))
                obtain ⟨ed, rfl⟩ : ∃ ed, E = some ed := by
                  cases E with
                  | none => have := (HE3.out.out.nil rfl).1; omega
                  | some ad => exact ⟨ad, rfl⟩
                have hkp : k < p.length := by omega
                have HBD := Lib.hid (HBQ.out.trans ((drew_below wr).mono HBQ.out.size))
                have e1 : wr.drew.cell? (ad.add k) = some (.int .i64 p[k]) := (HO3.out.below HBD.out (fun _ h => h)).at_ ad rfl k _ (ints_get p k (by omega))
                rw [hm] at e1
                have e2 : wr.drew.cell? (ed.add m) = some (.slice (ws m).1 g[m].length (ws m).2) := (HE3.out.out.below HBD.out (fun _ h => h)).at_ ed rfl m _ (lists_get ws g m hmn)
                have e3 : wr.drew.cell? (ad.add i) = some (.int .i64 p[i]) := (HO3.out.below HBD.out (fun _ h => h)).at_ ad rfl i _ (ints_get p i hlt)
                have HH := Lib.hid (has_pure _ (ws m).1 (ws m).2 g[m] p[i] wr.drew ((HE3.out.inn m hmn).below HBD.out (fun _ h => h)) (HE3.out.bigs m hmn))
                have HSU := Lib.hid (show ledB g r p i (k + 1) = (ledB g r p i k || decide (p[i] ∈ g[m])) by rw [led_succ g r p i k (by omega), hm, adj_nat g m hmn]; simp [hlt])
                clear hm
                generalize decide (p[i] ∈ g[m]) = dm at *
                generalize g[m] = q at *
                generalize p[i] = x at *
                obtain ⟨l2, hl2⟩ : ∃ l2, l2 = ledB g r p i (k + 1) := ⟨_, rfl⟩
                have HL2 := Lib.hid hl2
                rw [← hl2] at HSU
                clear hl2
                generalize ledB g r p i k = l1 at *
                cases l1 with
                | true =>
                  have hq : l2 = true := HSU.out
                  subst hq
                  go_upto_region 14 with (fail)
                  generalize hw9 : wr.drew = w9 at *
                  have hS : (fun X => X = w9) wr.drew := hw9
                  refine UpTo.region 15 (fun X => X = w9) (by kernel_rfl) hS (fun hHeld => ?_)
                  refine UpTo.take (i := 0) (d := 53) (v := .bool true) rfl rfl (by kernel_rfl) (by kernel_rfl) (by kernel_rfl) (by kernel_rfl) (fun _ _ _ h => h) (Or.inl ⟨by rfl, ?_⟩) (by assumption) ?_
                  · intro X hX; subst hX; go_simp
                  (try simp only [Act.put, List.setIfInBounds_toArray, List.set_cons_zero, List.set_cons_succ])
                  refine UpTo.take (i := 1) (d := 54) (v := .bool true) rfl rfl (by kernel_rfl) (by kernel_rfl) (by kernel_rfl) (by kernel_rfl) (fun _ _ _ h => h) (Or.inl ⟨by rfl, ?_⟩) (by assumption) ?_
                  · intro X hX; subst hX; go_simp
                  (try simp only [Act.put, List.setIfInBounds_toArray, List.set_cons_zero, List.set_cons_succ])
                  refine UpTo.take (i := 2) (d := 55) (v := undef) rfl rfl (by kernel_rfl) (by kernel_rfl) (by kernel_rfl) (by kernel_rfl) (fun _ _ _ h => h) (Or.inr ⟨by rfl, rfl⟩) (by assumption) ?_
                  (try simp only [Act.put, List.setIfInBounds_toArray, List.set_cons_zero, List.set_cons_succ])
                  refine UpTo.take (i := 3) (d := 56) (v := undef) rfl rfl (by kernel_rfl) (by kernel_rfl) (by kernel_rfl) (by kernel_rfl) (fun _ _ _ h => h) (Or.inr ⟨by rfl, rfl⟩) (by assumption) ?_
                  (try simp only [Act.put, List.setIfInBounds_toArray, List.set_cons_zero, List.set_cons_succ])
                  refine UpTo.take (i := 4) (d := 57) (v := undef) rfl rfl (by kernel_rfl) (by kernel_rfl) (by kernel_rfl) (by kernel_rfl) (fun _ _ _ h => h) (Or.inr ⟨by rfl, rfl⟩) (by assumption) ?_
                  (try simp only [Act.put, List.setIfInBounds_toArray, List.set_cons_zero, List.set_cons_succ])
                  refine UpTo.take (i := 5) (d := 58) (v := undef) rfl rfl (by kernel_rfl) (by kernel_rfl) (by kernel_rfl) (by kernel_rfl) (fun _ _ _ h => h) (Or.inr ⟨by rfl, rfl⟩) (by assumption) ?_
                  (try simp only [Act.put, List.setIfInBounds_toArray, List.set_cons_zero, List.set_cons_succ])
                  refine UpTo.take (i := 6) (d := 59) (v := undef) rfl rfl (by kernel_rfl) (by kernel_rfl) (by kernel_rfl) (by kernel_rfl) (fun _ _ _ h => h) (Or.inr ⟨by rfl, rfl⟩) (by assumption) ?_
                  (try simp only [Act.put, List.setIfInBounds_toArray, List.set_cons_zero, List.set_cons_succ])
                  refine UpTo.take (i := 7) (d := 60) (v := undef) rfl rfl (by kernel_rfl) (by kernel_rfl) (by kernel_rfl) (by kernel_rfl) (fun _ _ _ h => h) (Or.inr ⟨by rfl, rfl⟩) (by assumption) ?_
                  (try simp only [Act.put, List.setIfInBounds_toArray, List.set_cons_zero, List.set_cons_succ])
                  refine UpTo.take (i := 8) (d := 61) (v := undef) rfl rfl (by kernel_rfl) (by kernel_rfl) (by kernel_rfl) (by kernel_rfl) (fun _ _ _ h => h) (Or.inr ⟨by rfl, rfl⟩) (by assumption) ?_
                  (try simp only [Act.put, List.setIfInBounds_toArray, List.set_cons_zero, List.set_cons_succ])
                  refine UpTo.take (i := 9) (d := 62) (v := undef) rfl rfl (by kernel_rfl) (by kernel_rfl) (by kernel_rfl) (by kernel_rfl) (fun _ _ _ h => h) (Or.inr ⟨by rfl, rfl⟩) (by assumption) ?_
                  (try simp only [Act.put, List.setIfInBounds_toArray, List.set_cons_zero, List.set_cons_succ])
                  refine UpTo.take (i := 10) (d := 63) (v := undef) rfl rfl (by kernel_rfl) (by kernel_rfl) (by kernel_rfl) (by kernel_rfl) (fun _ _ _ h => h) (Or.inr ⟨by rfl, rfl⟩) (by assumption) ?_
                  (try simp only [Act.put, List.setIfInBounds_toArray, List.set_cons_zero, List.set_cons_succ])
                  refine UpTo.take (i := 11) (d := 64) (v := undef) rfl rfl (by kernel_rfl) (by kernel_rfl) (by kernel_rfl) (by kernel_rfl) (fun _ _ _ h => h) (Or.inr ⟨by rfl, rfl⟩) (by assumption) ?_
                  (try simp only [Act.put, List.setIfInBounds_toArray, List.set_cons_zero, List.set_cons_succ])
                  refine UpTo.take (i := 12) (d := 65) (v := undef) rfl rfl (by kernel_rfl) (by kernel_rfl) (by kernel_rfl) (by kernel_rfl) (fun _ _ _ h => h) (Or.inr ⟨by rfl, rfl⟩) (by assumption) ?_
                  (try simp only [Act.put, List.setIfInBounds_toArray, List.set_cons_zero, List.set_cons_succ])
                  refine UpTo.take (i := 13) (d := 66) (v := undef) rfl rfl (by kernel_rfl) (by kernel_rfl) (by kernel_rfl) (by kernel_rfl) (fun _ _ _ h => h) (Or.inr ⟨by rfl, rfl⟩) (by assumption) ?_
                  (try simp only [Act.put, List.setIfInBounds_toArray, List.set_cons_zero, List.set_cons_succ])
                  refine UpTo.take (i := 14) (d := 67) (v := .bool true) rfl rfl (by kernel_rfl) (by kernel_rfl) (by kernel_rfl) (by kernel_rfl) (fun _ _ _ h => h) (Or.inl ⟨by rfl, ?_⟩) (by assumption) ?_
                  · intro X hX; subst hX; go_simp
                  (try simp only [Act.put, List.setIfInBounds_toArray, List.set_cons_zero, List.set_cons_succ])
                  refine UpTo.last (by kernel_rfl) rfl (by kernel_rfl) (fun K hK => ?_)
                  go_simp
                  refine hK.out _ _ ?_
                  clear hK K hHeld
                  go_wp2_with fail
                  go_roundw
                  case rel => exact ⟨k + 1, by omega, by rw [← HL2.out], by go_num, HBD.out⟩
                  case measure => simp [intOf]; omega
                | false =>
                  have hq : l2 = dm := by have := HSU.out; simpa using this
                  subst hq
                  go_upto_region 14 with (fail)
                  generalize hw9 : wr.drew = w9 at *
                  have hS : (fun X => X = w9) wr.drew := hw9
                  refine UpTo.region 15 (fun X => X = w9) (by kernel_rfl) hS (fun hHeld => ?_)
                  refine UpTo.take (i := 0) (d := 53) (v := .bool false) rfl rfl (by kernel_rfl) (by kernel_rfl) (by kernel_rfl) (by kernel_rfl) (fun _ _ _ h => h) (Or.inl ⟨by rfl, ?_⟩) (by assumption) ?_
                  · intro X hX; subst hX; go_simp
                  (try simp only [Act.put, List.setIfInBounds_toArray, List.set_cons_zero, List.set_cons_succ])
                  refine UpTo.take (i := 1) (d := 54) (v := .bool false) rfl rfl (by kernel_rfl) (by kernel_rfl) (by kernel_rfl) (by kernel_rfl) (fun _ _ _ h => h) (Or.inl ⟨by rfl, ?_⟩) (by assumption) ?_
                  · intro X hX; subst hX; go_simp
                  (try simp only [Act.put, List.setIfInBounds_toArray, List.set_cons_zero, List.set_cons_succ])
                  refine UpTo.take (i := 2) (d := 55) (v := .slice (some ed) g.length ce) rfl rfl (by kernel_rfl) (by kernel_rfl) (by kernel_rfl) (by kernel_rfl) (fun _ _ _ h => h) (Or.inl ⟨by rfl, ?_⟩) (by assumption) ?_
                  · intro X hX; subst hX; go_simp
                  (try simp only [Act.put, List.setIfInBounds_toArray, List.set_cons_zero, List.set_cons_succ])
                  refine UpTo.take (i := 3) (d := 56) (v := .slice (some ad) p.length co3) rfl rfl (by kernel_rfl) (by kernel_rfl) (by kernel_rfl) (by kernel_rfl) (fun _ _ _ h => h) (Or.inl ⟨by rfl, ?_⟩) (by assumption) ?_
                  · intro X hX; subst hX; go_simp
                  (try simp only [Act.put, List.setIfInBounds_toArray, List.set_cons_zero, List.set_cons_succ])
                  refine UpTo.take (i := 4) (d := 57) (v := .int .i64 (k : Int)) rfl rfl (by kernel_rfl) (by kernel_rfl) (by kernel_rfl) (by kernel_rfl) (fun _ _ _ h => h) (Or.inl ⟨by rfl, ?_⟩) (by assumption) ?_
                  · intro X hX; subst hX; go_simp
                  (try simp only [Act.put, List.setIfInBounds_toArray, List.set_cons_zero, List.set_cons_succ])
                  refine UpTo.take (i := 5) (d := 58) (v := .pointer (some (ad.add k))) rfl rfl (by kernel_rfl) (by kernel_rfl) (by kernel_rfl) (by kernel_rfl) (fun _ _ _ h => h) (Or.inl ⟨by rfl, ?_⟩) (by assumption) ?_
                  · intro X hX; subst hX; go_simp
                  (try simp only [Act.put, List.setIfInBounds_toArray, List.set_cons_zero, List.set_cons_succ])
                  refine UpTo.take (i := 6) (d := 59) (v := .int .i64 (m : Int)) rfl rfl (by kernel_rfl) (by kernel_rfl) (by kernel_rfl) (by kernel_rfl) (fun _ _ _ h => h) (Or.inl ⟨by rfl, ?_⟩) (by assumption) ?_
                  · intro X hX; subst hX; go_simp
                  (try simp only [Act.put, List.setIfInBounds_toArray, List.set_cons_zero, List.set_cons_succ])
                  refine UpTo.take (i := 7) (d := 60) (v := .pointer (some (ed.add m))) rfl rfl (by kernel_rfl) (by kernel_rfl) (by kernel_rfl) (by kernel_rfl) (fun _ _ _ h => h) (Or.inl ⟨by rfl, ?_⟩) (by assumption) ?_
                  · intro X hX; subst hX; go_simp
                  (try simp only [Act.put, List.setIfInBounds_toArray, List.set_cons_zero, List.set_cons_succ])
                  refine UpTo.take (i := 8) (d := 61) (v := .slice (ws m).1 q.length (ws m).2) rfl rfl (by kernel_rfl) (by kernel_rfl) (by kernel_rfl) (by kernel_rfl) (fun _ _ _ h => h) (Or.inl ⟨by rfl, ?_⟩) (by assumption) ?_
                  · intro X hX; subst hX; go_simp
                  (try simp only [Act.put, List.setIfInBounds_toArray, List.set_cons_zero, List.set_cons_succ])
                  refine UpTo.take (i := 9) (d := 62) (v := .slice (some ad) p.length co3) rfl rfl (by kernel_rfl) (by kernel_rfl) (by kernel_rfl) (by kernel_rfl) (fun _ _ _ h => h) (Or.inl ⟨by rfl, ?_⟩) (by assumption) ?_
                  · intro X hX; subst hX; go_simp
                  (try simp only [Act.put, List.setIfInBounds_toArray, List.set_cons_zero, List.set_cons_succ])
                  refine UpTo.take (i := 10) (d := 63) (v := .int .i64 (i : Int)) rfl rfl (by kernel_rfl) (by kernel_rfl) (by kernel_rfl) (by kernel_rfl) (fun _ _ _ h => h) (Or.inl ⟨by rfl, ?_⟩) (by assumption) ?_
                  · intro X hX; subst hX; go_simp
                  (try simp only [Act.put, List.setIfInBounds_toArray, List.set_cons_zero, List.set_cons_succ])
                  refine UpTo.take (i := 11) (d := 64) (v := .pointer (some (ad.add i))) rfl rfl (by kernel_rfl) (by kernel_rfl) (by kernel_rfl) (by kernel_rfl) (fun _ _ _ h => h) (Or.inl ⟨by rfl, ?_⟩) (by assumption) ?_
                  · intro X hX; subst hX; go_simp
                  (try simp only [Act.put, List.setIfInBounds_toArray, List.set_cons_zero, List.set_cons_succ])
                  refine UpTo.take (i := 12) (d := 65) (v := .int .i64 x) rfl rfl (by kernel_rfl) (by kernel_rfl) (by kernel_rfl) (by kernel_rfl) (fun _ _ _ h => h) (Or.inl ⟨by rfl, ?_⟩) (by assumption) ?_
                  · intro X hX; subst hX; go_simp
                  (try simp only [Act.put, List.setIfInBounds_toArray, List.set_cons_zero, List.set_cons_succ])
                  refine UpTo.step (i := 13) (by kernel_rfl) rfl (fun K hK => ?_)
                  go_simp
                  refine (HH.out).mono ?_
                  rintro e wq ⟨rfl, rfl⟩
                  go_simp
                  refine hK.out _ _ (by first | exact hHeld | rfl) (fun hHeld => ?_)
                  clear hK K
                  (try simp only [Act.put, List.setIfInBounds_toArray, List.set_cons_zero, List.set_cons_succ])
                  refine UpTo.take (i := 14) (d := 67) (v := .bool l2) rfl rfl (by kernel_rfl) (by kernel_rfl) (by kernel_rfl) (by kernel_rfl) (fun _ _ _ h => h) (Or.inl ⟨by rfl, ?_⟩) (by assumption) ?_
                  · intro X hX; subst hX; go_simp
                  (try simp only [Act.put, List.setIfInBounds_toArray, List.set_cons_zero, List.set_cons_succ])
                  refine UpTo.last (by kernel_rfl) rfl (by kernel_rfl) (fun K hK => ?_)
                  go_simp
                  refine hK.out _ _ ?_
                  clear hK K hHeld
                  go_wp2_with fail
                  go_roundw
                  case rel => exact ⟨k + 1, by omega, by rw [← HL2.out], by go_num, HBD.out⟩
                  case measure => simp [intOf]; omega
              · obtain rfl : k = i := by omega
                obtain ⟨hto1, hto2⟩ := HTO.out k hlt
                rw [hto2]
                have HBD := Lib.hid (HBQ.out.trans ((drew_below wr).mono HBQ.out.size))
                have e3 : wr.drew.cell? (ad.add k) = some (.int .i64 p[k]) := (HO3.out.below HBD.out (fun _ h => h)).at_ ad rfl k _ (ints_get p k hlt)
                have hkc : k ≤ co3 := by omega
                have htl : (p.take k).length = k := by rw [List.length_take]; omega
                have HH := Lib.hid (has_pure (fun j => j < w3.heap.size) (some ad) co3 (p.take k) p[k] wr.drew (by rw [htl, show ints (p.take k) = (ints p).take k from List.map_take]; exact (src_take HO3.out k hi).below HBD.out (fun _ h => h)) (by omega))
                rw [decide_eq_false hto1, htl] at HH
                generalize p[k] = x at *
                clear hto1 hto2 htl
                go_upto_region 15 with (fail)
                generalize hw9 : wr.drew = w9 at *
                have hS : (fun X => X = w9) wr.drew := hw9
                refine wp_region_held_drew (S := fun X => X = w9) (by kernel_rfl) hS (fun hHeld => ?_)
                refine take_at (i := 0) (d := 68) (v := .slice (some ad) p.length co3) rfl rfl (by kernel_rfl) (by kernel_rfl) (by kernel_rfl) (fun _ _ _ h => h) (Or.inl ⟨by rfl, ?_⟩) (by assumption) ?_
                · intro X hX; subst hX; go_simp
                (try simp only [Act.put, List.setIfInBounds_toArray, List.set_cons_zero, List.set_cons_succ])
                refine take_at (i := 1) (d := 69) (v := .int .i64 (k : Int)) rfl rfl (by kernel_rfl) (by kernel_rfl) (by kernel_rfl) (fun _ _ _ h => h) (Or.inl ⟨by rfl, ?_⟩) (by assumption) ?_
                · intro X hX; subst hX; go_simp
                (try simp only [Act.put, List.setIfInBounds_toArray, List.set_cons_zero, List.set_cons_succ])
                refine take_at (i := 2) (d := 70) (v := .slice (some ad) k co3) rfl rfl (by kernel_rfl) (by kernel_rfl) (by kernel_rfl) (fun _ _ _ h => h) (Or.inl ⟨by rfl, ?_⟩) (by assumption) ?_
                · intro X hX; subst hX; go_simp
                (try simp only [Act.put, List.setIfInBounds_toArray, List.set_cons_zero, List.set_cons_succ])
                refine take_at (i := 3) (d := 71) (v := .slice (some ad) p.length co3) rfl rfl (by kernel_rfl) (by kernel_rfl) (by kernel_rfl) (fun _ _ _ h => h) (Or.inl ⟨by rfl, ?_⟩) (by assumption) ?_
                · intro X hX; subst hX; go_simp
                (try simp only [Act.put, List.setIfInBounds_toArray, List.set_cons_zero, List.set_cons_succ])
                refine take_at (i := 4) (d := 72) (v := .int .i64 (k : Int)) rfl rfl (by kernel_rfl) (by kernel_rfl) (by kernel_rfl) (fun _ _ _ h => h) (Or.inl ⟨by rfl, ?_⟩) (by assumption) ?_
                · intro X hX; subst hX; go_simp
                (try simp only [Act.put, List.setIfInBounds_toArray, List.set_cons_zero, List.set_cons_succ])
                refine take_at (i := 5) (d := 73) (v := .pointer (some (ad.add k))) rfl rfl (by kernel_rfl) (by kernel_rfl) (by kernel_rfl) (fun _ _ _ h => h) (Or.inl ⟨by rfl, ?_⟩) (by assumption) ?_
                · intro X hX; subst hX; go_simp
                (try simp only [Act.put, List.setIfInBounds_toArray, List.set_cons_zero, List.set_cons_succ])
                refine take_at (i := 6) (d := 74) (v := .int .i64 x) rfl rfl (by kernel_rfl) (by kernel_rfl) (by kernel_rfl) (fun _ _ _ h => h) (Or.inl ⟨by rfl, ?_⟩) (by assumption) ?_
                · intro X hX; subst hX; go_simp
                (try simp only [Act.put, List.setIfInBounds_toArray, List.set_cons_zero, List.set_cons_succ])
                refine wpAnyH_ready (rs := [7]) (by kernel_rfl) (by simp) ?_
                refine AllReadyH.cons rfl (fun K hK => ?_) AllReadyH.nil
                go_simp
                refine (HH.out).mono ?_
                rintro e wq ⟨rfl, rfl⟩
                go_simp
                refine hK.out _ _ (by first | exact hHeld | rfl) (fun hHeld => ?_)
                clear hK K
                (try simp only [Act.put, List.setIfInBounds_toArray, List.set_cons_zero, List.set_cons_succ])
                refine take_at (i := 8) (d := 76) (v := .bool false) rfl rfl (by kernel_rfl) (by kernel_rfl) (by kernel_rfl) (fun _ _ _ h => h) (Or.inl ⟨by rfl, ?_⟩) (by assumption) ?_
                · intro X hX; subst hX; go_simp
                (try simp only [Act.put, List.setIfInBounds_toArray, List.set_cons_zero, List.set_cons_succ])
                refine take_at (i := 9) (d := 77) (v := .bool true) rfl rfl (by kernel_rfl) (by kernel_rfl) (by kernel_rfl) (fun _ _ _ h => h) (Or.inl ⟨by rfl, ?_⟩) (by assumption) ?_
                · intro X hX; subst hX; go_simp
                (try simp only [Act.put, List.setIfInBounds_toArray, List.set_cons_zero, List.set_cons_succ])
                refine take_at (i := 10) (d := 78) (v := .bool false) rfl rfl (by kernel_rfl) (by kernel_rfl) (by kernel_rfl) (fun _ _ _ h => h) (Or.inl ⟨by rfl, ?_⟩) (by assumption) ?_
                · intro X hX; subst hX; go_simp
                (try simp only [Act.put, List.setIfInBounds_toArray, List.set_cons_zero, List.set_cons_succ])
                refine take_at (i := 11) (d := 79) (v := .bool false) rfl rfl (by kernel_rfl) (by kernel_rfl) (by kernel_rfl) (fun _ _ _ h => h) (Or.inl ⟨by rfl, ?_⟩) (by assumption) ?_
                · intro X hX; subst hX; go_simp
                (try simp only [Act.put, List.setIfInBounds_toArray, List.set_cons_zero, List.set_cons_succ])
                refine wpAnyH_done (by kernel_rfl) ?_ _
                go_wp2_with fail
                go_roundw
                case rel => exact ⟨k + 1, by omega, by go_num, HBD.out⟩
                case measure => simp [intOf]; omega
          · obtain rfl : i = p.length := by omega
            clear HTO HND HLE
            go_wp2_with fail
            go_loopw [11] (fun t wq => ∃ k : Nat, k ≤ r.length ∧ t = .int .i64 (k : Int) ∧ Below w3.heap.size w3 wq) (fun t _ => r.length - (intOf t).toNat)
            case atStart => exact ⟨0, Nat.zero_le _, rfl, HB.out⟩
            case round =>
              obtain ⟨k, hk, rfl, hB⟩ := hrel
              have HBQ := Lib.hid hB
              clear hB
              by_cases hkr : k < r.length
              · obtain ⟨ar, rfl⟩ : ∃ ar, A = some ar := by
                  cases A with
                  | none => have := (HS3.out.nil rfl).1; omega
                  | some ad => exact ⟨ad, rfl⟩
                have e1 : wr.cell? (ar.add k) = some (.int .i64 r[k]) := (HS3.out.below HBQ.out (fun _ h => h)).at_ ar rfl k _ (ints_get r k hkr)
                have HH := Lib.hid (has_any _ O3 co3 p r[k] wr (HO3.out.below HBQ.out (fun _ h => h)) (by omega))
                rw [decide_eq_true (HRO.out _ (List.getElem_mem hkr))] at HH
                generalize r[k] = x at *
                go_wp2_with fail
                refine HH.out.mono ?_
                rintro e w5 ⟨rfl, hb5⟩
                have HB5 := Lib.hid (HBQ.out.trans (hb5.mono HBQ.out.size))
                clear hb5
                go_wp2_with fail
                go_roundw
                case rel => exact ⟨k + 1, by omega, by go_num, HB5.out⟩
                case measure => simp [intOf]; omega
              · obtain rfl : k = r.length := by omega
                go_wp2_with fail
                go_ret
                exact ⟨rfl, HB3.out.trans (HBQ.out.mono HB3.out.size)⟩
end Go.Proofs.Ytkaejcpnlphdpaa
