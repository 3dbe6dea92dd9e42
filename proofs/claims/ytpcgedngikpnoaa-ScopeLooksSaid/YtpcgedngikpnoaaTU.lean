/-
  The document's Right.
-/
import Derived.Test.YtpcgedngikpnoaaTT
import Derived.Test.YtpcgedngikpnoaaTMLoad
import Derived.Deep.QuietTactic
import Derived.BigQuiet
namespace Go.Proofs.Ytpcgedngikpnoaa
set_option maxRecDepth 100000
set_option linter.unusedSimpArgs false
set_option linter.unusedVariables false
open Go.RowKit

theorem right_form {n : Nat} {f : Nat → List Int} {L : List UInt64} {sh : Int} {ss : List Sym} (h : rightT n f L sh ss = true) : formT n L.length sh ss.length = true := by
  unfold rightT at h
  simp only [Bool.and_eq_true] at h
  exact h.1
theorem ret_bl {x y : Bool} (h : y = x) : Ending.returned (Value.bool x) = .returned (.bool y) := by rw [h]
theorem take_one (l : List Int) : (l.take 1).Pairwise (· < ·) := by cases l <;> simp
set_option maxRecDepth 100000 in
set_option maxHeartbeats 4000000 in
theorem qright_any (A : Option Addr) (n c : Nat) (Af : Option Addr) (cf : Nat) (f : Nat → List Int) (L : List UInt64) (sh : Int) (B : Option Addr) (d : Nat) (ss : List Sym) (w : World)
    (ht : TabV w (fun k => k < w.heap.size) A n c Af cf f L) (h : Syl w (fun k => k < w.heap.size) B ss.length d ss) (hs : Named ss) (hn : n ≤ 140737488355328) (hL : L.length ≤ 140737488355328) (hss : ss.length ≤ 140737488355328) (hf : ∀ k, k < n → (f k).length ≤ 140737488355328) :
    Calls Try.prog 37 #[.agg (tabA A n c Af L.length cf sh), .slice B ss.length d] w fun e w' => e = .returned (.bool (rightT n f L sh ss)) ∧ Below w.heap.size w w' := by
  obtain ⟨hb1, hx1⟩ := tab_box w (tabA A n c Af L.length cf sh)
  have HT := Lib.hid ht
  have H := Lib.hid h
  have HNM := Lib.hid hs
  have HFL := Lib.hid hf
  have HRF := Lib.hid (fun (hq : rightT n f L sh ss = true) => right_form hq)
  have HFD := Lib.hid (show formT n L.length sh ss.length = (decide (ss.length ≤ 512) && (decide (1 ≤ n) && decide (n ≤ 512)) && Siv.formB L.length sh) from rfl)
  have HR1 := Lib.hid (fun (hq : rightT n f L sh ss = true) => right_sum hq)
  have HR2 := Lib.hid (fun (hq : rightT n f L sh ss = true) {b : Nat} (hb : b < n) => right_sorted hq hb)
  have HR3 := Lib.hid (fun (hq : rightT n f L sh ss = true) {j : Nat} (hj : j < ss.length) (hse : seenB ss[j] = true) => right_one hq hj hse)
  have HRO := Lib.hid (fun a b c d => right_of (n := n) (f := f) (L := L) (sh := sh) (ss := ss) a b c d)
  have HNO := Lib.hid (fun a => right_no (n := n) (f := f) (L := L) (sh := sh) (ss := ss) a)
  have HLK := Lib.hid (fun (X : World) (hX : Below w.heap.size w X) hh => Siv.rLacks_any _ Af cf L sh hh X (ht.lt hX).words (by omega))
  clear ht h hs hf
  go_enter Try.func37, Try.ntmps37
  go_upto_region 1 with (fail)
  change Code.wp _ _ _ _ (w.alloc (.cells (tabA A n c Af L.length cf sh) 57))
  generalize w.alloc (.cells (tabA A n c Af L.length cf sh) 57) = w1 at *
  have HB1 := Lib.hid hb1
  have HX1 := Lib.hid hx1
  have t0 := cell_of_row w1 w.heap.size 0 _ _ _ hx1
  have t1 := cell_of_row w1 w.heap.size 1 _ _ _ hx1
  have t2 := cell_of_row w1 w.heap.size 2 _ _ _ hx1
  simp only [List.getElem?_toArray, List.getElem?_cons_succ, List.getElem?_cons_zero] at t0 t1 t2
  clear hb1 hx1
  by_cases h1 : 512 < ss.length
  · have HN := Lib.hid (HNO.out fun hq => by have := HRF.out hq; rw [HFD.out, decide_eq_false (show ¬ ss.length ≤ 512 by omega)] at this; simp at this)
    have d1 : (512 : Int) < (ss.length : Int) := by omega
    clear h1
    go_upto_region 99 with (fail)
    first | go_ret | skip
    exact ⟨ret_bl HN.out, HB1.out⟩
  have d1 : ¬ (512 : Int) < (ss.length : Int) := by omega
  by_cases h2 : n < 1
  · have HN := Lib.hid (HNO.out fun hq => by have := HRF.out hq; rw [HFD.out, decide_eq_false (show ¬ 1 ≤ n by omega)] at this; simp at this)
    have d2 : (n : Int) < 1 := by omega
    obtain rfl : n = 0 := by omega
    clear h2
    go_upto_region 99 with (fail)
    first | go_ret | skip
    exact ⟨ret_bl HN.out, HB1.out⟩
  have d2 : ¬ (n : Int) < 1 := by omega
  have d2' : decide ((n : Int) < 1) = false := decide_eq_false d2
  by_cases h3 : 512 < n
  · have HN := Lib.hid (HNO.out fun hq => by have := HRF.out hq; rw [HFD.out, decide_eq_false (show ¬ n ≤ 512 by omega)] at this; simp at this)
    have d3 : (512 : Int) < (n : Int) := by omega
    clear h3
    go_upto_region 99 with (fail)
    first | go_ret | skip
    exact ⟨ret_bl HN.out, HB1.out⟩
  have d3 : ¬ (512 : Int) < (n : Int) := by omega
  have HRR := Lib.hid (Siv.rRight_any Af L.length cf sh w1)
  have HFM := Lib.hid (show formT n L.length sh ss.length = Siv.formB L.length sh by rw [HFD.out]; simp; omega)
  generalize Siv.formB (L.length : Int) sh = fb at *
  generalize hll : L.length = ll at *
  cases fb
  · have HN := Lib.hid (HNO.out fun hq => by have := HRF.out hq; rw [HFM.out] at this; cases this)
    go_upto_region 99 with (go_at_call 42; (with_reducible refine (HRR.out).mono ?_); rintro e w2 ⟨rfl, hb2⟩)
    first | go_ret | skip
    exact ⟨ret_bl HN.out, HB1.out.trans (hb2.mono HB1.out.size)⟩
  go_upto_region 3 with (go_at_call 42; (with_reducible refine (HRR.out).mono ?_); rintro e w2 ⟨rfl, hb2⟩)
  have HB2 := Lib.hid (HB1.out.trans (hb2.mono HB1.out.size))
  have HX2 := Lib.hid (HX1.out.below hb2)
  clear t0 t1 t2 hb2 HX1 HB1 HRR HFD d1 d2 d3 d2'
  have HSN := Lib.hid (qseen_any B ss.length d ss w2 (H.out.lt HB2.out) (by omega))
  have hal := seen_len ss ss.length
  have HSA := Lib.hid (fun k (hk : k < (seenL ss ss.length).length) => seen_at hk)
  have HSH := Lib.hid (fun j (hj : j < ss.length) hse => seen_has hj hse)
  generalize seenL ss ss.length = al at *
  go_upto_region 6 with (go_at_call 51; refine (HSN.out).mono ?_; rintro e w3 ⟨A3, c3, rfl, ho3, hb3⟩; have HB3 := Lib.hid (HB2.out.trans (hb3.mono HB2.out.size)); have HX3 := Lib.hid (HX2.out.below hb3); have HS3 := Lib.hid (Src.of_own ho3).lt; clear ho3 hb3)
  clear HB2 HX2 HSN
  have t0 : w3.cell? ⟨w.heap.size, 0, none⟩ = some (.slice A n c) := cell_of_row w3 w.heap.size 0 _ _ _ HX3.out
  have hcA := HT.out.rows.cap
  go_loopw [6, 7] (fun v t wr => ∃ b m j : Nat, b ≤ n ∧ t = .int .i64 b ∧ v = .int .i64 m ∧ m = sumF f b ∧ m ≤ al.length ∧ (∀ z, z < b → (f z).Pairwise (· < ·)) ∧ wr = w3.drewN j) (fun _ t _ => n - (intOf t).toNat)
  case atStart => exact ⟨0, 0, 0, Nat.zero_le _, rfl, rfl, rfl, Nat.zero_le _, fun z hz => absurd hz (Nat.not_lt_zero _), rfl⟩
  case round =>
    obtain ⟨b, m, j, hb, rfl, rfl, hm, hma, hso, rfl⟩ := hrel
    have HMS := Lib.hid hm
    have HSO := Lib.hid hso
    clear hm hso
    by_cases hbn : b < n
    · obtain ⟨ad, rfl⟩ : ∃ ad, A = some ad := by
        cases A with
        | none => have := (HT.out.rows.nil rfl).1; omega
        | some ad => exact ⟨ad, rfl⟩
      obtain ⟨Ai, ci, r1, r2⟩ := (HT.out.lt HB3.out).rows.at_ ad rfl b hbn
      have HRW := Lib.hid r2
      have hrc := r2.cap
      have hfl := HFL.out b hbn
      have HNX := Lib.hid (show m + (f b).length = sumF f (b + 1) by rw [sumF, HMS.out])
      have HMO := Lib.hid (sum_mono f (show b + 1 ≤ n from hbn))
      have HSR := Lib.hid (fun (hq : rightT n f L sh ss = true) => HR2.out hq hbn)
      have HSX := Lib.hid (fun (hz : (f b).Pairwise (· < ·)) => show ∀ z, z < b + 1 → (f z).Pairwise (· < ·) from fun z hz' => by
        by_cases e : z = b
        · subst e; exact hz
        · exact HSO.out z (by omega))
      clear r2
      generalize f b = l at *
      have hb0 : (0 : Int) ≤ (b : Int) := by omega
      have hb1 : (b : Int) < (n : Int) := by omega
      by_cases hbig : al.length < m + l.length
      · have HN := Lib.hid (HNO.out fun hq => by have h1 := HR1.out hq; have h2 := HMO.out; rw [← HNX.out] at h2; omega)
        have d4 : (al.length : Int) < (m : Int) + (l.length : Int) := by omega
        clear hbig
        go_upto_region 99 with (fail)
        first | go_ret | skip
        exact ⟨ret_bl HN.out, below_drewN HB3.out _⟩
      · have d4 : ¬ (al.length : Int) < (m : Int) + (l.length : Int) := by omega
        have hmb : m + l.length ≤ al.length := by omega
        clear hbig
        go_upto_region 12 with (fail)
        go_loopw [8] (fun t wq => ∃ i j : Nat, 1 ≤ i ∧ (i ≤ l.length ∨ i = 1) ∧ t = .int .i64 i ∧ wq = w3.drewN j ∧ (l.take i).Pairwise (· < ·)) (fun t _ => l.length + 1 - (intOf t).toNat)
        case atStart => exact ⟨1, _, Nat.le_refl _, .inr rfl, rfl, rfl, take_one l⟩
        case round =>
          obtain ⟨i, j2, hi1, hil, rfl, rfl, hpw⟩ := hrel
          have HPW := Lib.hid hpw
          clear hpw
          by_cases hlt : i < l.length
          · obtain ⟨ai, rfl⟩ : ∃ ai, Ai = some ai := by
              cases Ai with
              | none => have := (HRW.out.nil rfl).1; omega
              | some ad => exact ⟨ad, rfl⟩
            obtain ⟨p, hpi⟩ : ∃ p, p + 1 = i := ⟨i - 1, by omega⟩
            have hp : p < l.length := by omega
            have v1 : w3.cell? (ai.add p) = some (.int .i64 l[p]) := HRW.out.at_ ai rfl p _ (il_get l p hp)
            have v2 : w3.cell? (ai.add i) = some (.int .i64 l[i]) := HRW.out.at_ ai rfl i _ (il_get l i hlt)
            have hk1 : l.Pairwise (· < ·) → l[p] < l[i] := by subst hpi; exact fun hz => sorted_at hlt hz
            have HSA1 := Lib.hid hk1
            have hk2 : l[p] < l[i] → (l.take (i + 1)).Pairwise (· < ·) := by subst hpi; exact fun hz => sorted_take hlt HPW.out hz
            have HST1 := Lib.hid hk2
            clear hk1 hk2
            generalize l[p] = x at *
            generalize l[i] = y at *
            have i0 : (0 : Int) ≤ (i : Int) - 1 := by omega
            have i1 : (i : Int) - 1 < (l.length : Int) := by omega
            have i2 : (i : Int) < (l.length : Int) := by omega
            have i3 : wrap64 ((i : Int) - 1) = (i : Int) - 1 := IntWalk.wrap64_in _ (by omega)
            have i4 : ((i : Int) - 1).toNat = p := by omega
            have i5 : (0 : Int) ≤ (i : Int) := by omega
            clear hpi hp hi1
            by_cases hyx : y ≤ x
            · have HN := Lib.hid (HNO.out fun hq => by have := HSA1.out (HSR.out hq); omega)
              clear HSA1 HST1
              go_upto_region 14 with (fail)
              go_quiet (fail)
              go_upto_region 99 with (fail)
              first | go_ret | skip
              exact ⟨ret_bl HN.out, below_drewN (below_drewN HB3.out _) _⟩
            · have HN := Lib.hid (HST1.out (by omega))
              clear HSA1 HST1
              go_upto_region 14 with (fail)
              go_quiet (fail)
              go_wp2_with fail
              go_roundw
              case rel => exact ⟨i + 1, _, by omega, .inl (by omega), by go_num, rfl, HN.out⟩
              case measure => simp [intOf]; omega
          · have htk : l.take i = l := List.take_of_length_le (by omega)
            have HPL := Lib.hid (show l.Pairwise (· < ·) by have := HPW.out; rwa [htk] at this)
            have hil' : ¬ (i : Int) < (l.length : Int) := by omega
            clear htk hil
            go_wp2_with fail
            go_roundw
            case rel => exact ⟨b + 1, m + l.length, _, hbn, by go_num, by go_num, HNX.out, hmb, HSX.out HPL.out, rfl⟩
            case measure => simp [intOf]; omega
    · obtain rfl : b = n := by omega
      go_upto_region 17 with (fail)
      have HB4 := Lib.hid (below_drewN HB3.out j)
      have HX4 := Lib.hid (show Tx (w3.drewN j) w.heap.size (tabA A b c Af ll cf sh) from HX3.out)
      have HS4 := Lib.hid ((HS3.out.below (drewN_below w3 j) (fun _ h => h)).lt)
      clear HB3 HX3 HS3 t0
      generalize w3.drewN j = w4 at *
      have hpos : 0 < b := by omega
      obtain ⟨ad, rfl⟩ : ∃ ad, A = some ad := by
        cases A with
        | none => have := (HT.out.rows.nil rfl).1; omega
        | some ad => exact ⟨ad, rfl⟩
      go_loopw [9] (fun t wr => ∃ k : Nat, k ≤ al.length ∧ t = .int .i64 k ∧ Below w4.heap.size w4 wr ∧ ∀ z (hz : z < al.length), z < k → ∀ jj (hj : jj < ss.length), al[z] = (jj : Int) → cntL (f (bkt (hashS ss[jj].name) b)) (jj : Int) = 1 ∧ Siv.lacksB L sh (hashS ss[jj].name) = false) (fun t _ => al.length - (intOf t).toNat)
      case atStart => exact ⟨0, Nat.zero_le _, rfl, Below.refl _ _, fun z hz h0 => absurd h0 (Nat.not_lt_zero _)⟩
      case round =>
        obtain ⟨k, hk, rfl, hb, hall⟩ := hrel
        have HALL := Lib.hid hall
        have HB := Lib.hid hb
        clear hall hb
        by_cases hki : k < al.length
        · obtain ⟨jj, hjj, hal1, hse⟩ := HSA.out k hki
          obtain ⟨a3, rfl⟩ : ∃ a3, A3 = some a3 := by
            cases A3 with
            | none => have := (HS4.out.nil rfl).1; omega
            | some ad => exact ⟨ad, rfl⟩
          have hc3 := HS4.out.cap
          have va : wr.cell? (a3.add k) = some (.int .i64 al[k]) := (HS4.out.below HB.out (fun _ h => h)).at_ a3 rfl k _ (il_get al k hki)
          rw [hal1] at va
          have hbw : Below w.heap.size w wr := HB4.out.trans (HB.out.mono HB4.out.size)
          obtain ⟨bb, rfl⟩ : ∃ bb, B = some bb := by
            cases B with
            | none => have := (H.out.nil rfl).1; omega
            | some bb => exact ⟨bb, rfl⟩
          obtain ⟨g, o, rfl⟩ := H.out.plain (by omega)
          have hcap2 := H.out.cap
          obtain ⟨c0, -⟩ := (H.out.below hbw (fun _ h => h)).get jj hjj
          have hyl := HNM.out ss[jj] (List.getElem_mem hjj)
          have HR3J := Lib.hid (fun hq => HR3.out hq hjj hse)
          have HNX := Lib.hid (fun (hz : cntL (f (bkt (hashS ss[jj].name) b)) (jj : Int) = 1 ∧ Siv.lacksB L sh (hashS ss[jj].name) = false) => show ∀ z (hz : z < al.length), z < k + 1 → ∀ ji (hj : ji < ss.length), al[z] = (ji : Int) → cntL (f (bkt (hashS ss[ji].name) b)) (ji : Int) = 1 ∧ Siv.lacksB L sh (hashS ss[ji].name) = false from fun z hz' hzk ji hj e => by
            by_cases ez : z = k
            · subst ez
              rw [hal1] at e
              obtain rfl : jj = ji := by omega
              exact hz
            · exact HALL.out z hz' (by omega) ji hj e)
          have HQH := Lib.hid (fun X => home_any ss[jj].name b hpos (by omega) X (by omega))
          have HHA := Lib.hid (fun X => qhash_any ss[jj].name X (by omega))
          have HLX := Lib.hid (HLK.out (wr.drewN 1) (hbw.trans ((drewN_below wr 1).mono hbw.size)) (hashS ss[jj].name))
          have hbl := bkt_lt (hashS ss[jj].name) hpos
          generalize hyn : ss[jj].name = yn at *
          generalize hashS yn = hh at *
          generalize bkt hh b = bi at *
          obtain ⟨Ai, ci, r1, r2⟩ := (HT.out.lt hbw).rows.at_ ad rfl bi hbl
          have hfl := HFL.out bi hbl
          have HQS := Lib.hid (fun (q : Nat) => qstands_any Ai ci (f bi) (jj : Int) (wr.drewN q) (r2.below (drewN_below wr q) (fun _ h => h)) (by omega))
          have t0 : wr.cell? ⟨w.heap.size, 0, none⟩ = some (.slice (some ad) b c) := cell_of_row wr w.heap.size 0 _ _ _ (HX4.out.below HB.out)
          have t1 : wr.cell? ⟨w.heap.size, 1, none⟩ = some (.slice Af ll cf) := cell_of_row wr w.heap.size 1 _ _ _ (HX4.out.below HB.out)
          have t2 : wr.cell? ⟨w.heap.size, 2, none⟩ = some (.int .i64 sh) := cell_of_row wr w.heap.size 2 _ _ _ (HX4.out.below HB.out)
          have b0 : (0 : Int) ≤ (bi : Int) := by omega
          have b1 : (bi : Int) < (b : Int) := by omega
          have k0 : (0 : Int) ≤ (k : Int) := by omega
          have k1 : (k : Int) < (al.length : Int) := by omega
          have j0 : (0 : Int) ≤ (jj : Int) := by omega
          have j1 : (jj : Int) < (ss.length : Int) := by omega
          clear r2 hse hal1
          generalize (f bi).length = fl at *
          generalize hcs : cntL (f bi) (jj : Int) = cs at *
          generalize Siv.lacksB L sh hh = lk at *
          have HBW := Lib.hid hbw
          clear hbw hcs hyn
          go_upto_region 20 with (fail)
          clear c0 hjj hyl
          by_cases hc1 : cs = 1
          · subst hc1
            rw [show ((1 : Nat) : Int) = 1 from rfl] at HQS
            go_region_held3 (fun X => X.cell? ⟨w.heap.size, 0, none⟩ = some (.slice (some ad) b c) ∧ X.cell? ⟨w.heap.size, 1, none⟩ = some (.slice Af ll cf) ∧ X.cell? ⟨w.heap.size, 2, none⟩ = some (.int .i64 sh) ∧ X.cell? (a3.add k) = some (.int .i64 (jj : Int)) ∧ X.cell? (ad.add bi) = some (.slice Ai fl ci)) (first | (exact ⟨by assumption, by assumption, by assumption, by assumption, by assumption⟩) | go_keep) (first
              | (go_at_call 50; (with_reducible refine (HQH.out _).mono ?_); rintro e w' ⟨rfl, rfl⟩)
              | (go_at_call 52; (refine (HQS.out 1).mono ?_); rintro e w' ⟨rfl, rfl⟩)
              | (go_at_call 26; (with_reducible refine (HHA.out _).mono ?_); rintro e w' ⟨rfl, rfl⟩)
              | (go_at_call 28; (with_reducible refine (HLX.out).mono ?_); rintro e w5 ⟨rfl, hb5⟩; have hq := (drewN_below wr 1).trans hb5; have q0 := cell_below hq t0; have q1 := cell_below hq t1; have q2 := cell_below hq t2; have q3 := cell_below hq va; have q4 := cell_below hq r1))
            have HB5 := Lib.hid (HB.out.trans (hq.mono HB.out.size))
            clear q0 q1 q2 q3 q4 t0 t1 t2 va r1 hq hb5
            cases lk
            · have HN := Lib.hid (HNX.out (by simp))
              go_wp2_with fail
              go_roundw
              case rel => exact ⟨k + 1, hki, by go_num, HB5.out, HN.out⟩
              case measure => simp [intOf]; omega
            · have HN := Lib.hid (HNO.out fun hq => by have := (HR3J.out hq).2; cases this)
              go_upto_region 99 with (fail)
              first | go_ret | skip
              exact ⟨ret_bl HN.out, HB4.out.trans (HB5.out.mono HB4.out.size)⟩
          · have HN := Lib.hid (HNO.out fun hq => hc1 (HR3J.out hq).1)
            have hcb : ((cs : Int) != 1) = true := by simp; omega
            go_quiet ((first
              | (go_at_call 50; exact Calls.quiet_of_same ((HQH.out _).mono fun _ _ h => ⟨h.1, h.2.symm⟩))
              | (go_at_call 52; exact Calls.quiet_of_same ((HQS.out _).mono fun _ _ h => ⟨h.1, h.2.symm⟩))))
            go_upto_region 99 with (fail)
            first | go_ret | skip
            exact ⟨ret_bl HN.out, below_drewN HBW.out _⟩
        · obtain rfl : k = al.length := by omega
          by_cases hma' : m = al.length
          · have HN := Lib.hid (HRO.out HFM.out (fun z hz => HSO.out z hz) (fun ji hj hse => by
              obtain ⟨z, hz, e⟩ := HSH.out ji hj hse
              exact HALL.out z hz hz ji hj e) (by rw [← HMS.out]; exact hma'))
            have he : ((m : Int) == (al.length : Int)) = true := by simp [hma']
            clear hma'
            go_upto_region 99 with (fail)
            first | go_ret | skip
            exact ⟨ret_bl HN.out, HB4.out.trans (HB.out.mono HB4.out.size)⟩
          · have HN := Lib.hid (HNO.out fun hq => hma' (by rw [HMS.out]; exact HR1.out hq))
            have he : ((m : Int) == (al.length : Int)) = false := beq_eq_false_iff_ne.2 (by omega)
            clear hma'
            go_upto_region 99 with (fail)
            first | go_ret | skip
            exact ⟨ret_bl HN.out, HB4.out.trans (HB.out.mono HB4.out.size)⟩
end Go.Proofs.Ytpcgedngikpnoaa
