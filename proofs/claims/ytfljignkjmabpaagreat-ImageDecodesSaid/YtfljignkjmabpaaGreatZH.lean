/- A part of the proof. -/
import Derived.Test.YtfljignkjmabpaaGreatZTT
import Derived.Test.YtfljignkjmabpaaGreatZC
import Derived.Test.YtfljignkjmabpaaGreatZD
set_option linter.unusedSimpArgs false
set_option linter.unusedVariables false
namespace Go.Proofs.YtfljignkjmabpaaGreat
set_option maxRecDepth 100000
open Go.RowKit
theorem right_form {n : Nat} {f : Nat → List Int} {L : List UInt64} {sh : Int} {ss : List Sym} (h : rightT n f L sh ss = true) : formT n L.length sh ss.length = true := by
 unfold rightT at h
 simp only [Bool.and_eq_true] at h
 exact h.1
theorem ret_bl {x y : Bool} (h : y = x) : Ending.returned (Value.bool x) = .returned (.bool y) := by rw [h]
theorem take_one (l : List Int) : (l.take 1).Pairwise (· < ·) := by cases l <;> simp
set_option maxHeartbeats 4000000 in
theorem qright_any (A : Option Addr) (n c : Nat) (Af : Option Addr) (cf : Nat) (f : Nat → List Int) (L : List UInt64) (sh : Int) (B : Option Addr) (d : Nat) (ss : List Sym) (w : World)
  (ht : TabV w (fun k => k < w.heap.size) A n c Af cf f L) (h : Syl w (fun k => k < w.heap.size) B ss.length d ss) (hs : Named ss) (hn : n ≤ 140737488355328) (hL : L.length ≤ 140737488355328) (hss : ss.length ≤ 140737488355328) (hf : ∀ k, k < n → (f k).length ≤ 140737488355328) :
  Calls Tryz.prog 66 #[.agg (tabA A n c Af L.length cf sh), .slice B ss.length d] w fun e w' => e = .returned (.bool (rightT n f L sh ss)) ∧ Below w.heap.size w w' := by
 obtain ⟨hb1, hx1⟩ := tab_box w (tabA A n c Af L.length cf sh)
 have HT := hD ht
 have H := hD h
 have HNM := hD hs
 have HFL := hD hf
 have HRF := hD (fun (hq : rightT n f L sh ss = true) => right_form hq)
 have HFD := hD (show formT n L.length sh ss.length = (decide (ss.length ≤ 512) && (decide (1 ≤ n) && decide (n ≤ 512)) && Siv.formB L.length sh) from rfl)
 have HR1 := hD (fun (hq : rightT n f L sh ss = true) => right_sum hq)
 have HR2 := hD (fun (hq : rightT n f L sh ss = true) {b : Nat} (hb : b < n) => right_sorted hq hb)
 have HR3 := hD (fun (hq : rightT n f L sh ss = true) {j : Nat} (hj : j < ss.length) (hse : seenB ss[j] = true) => right_one hq hj hse)
 have HRO := hD (fun a b c d => right_of (n := n) (f := f) (L := L) (sh := sh) (ss := ss) a b c d)
 have HNO := hD (fun a => right_no (n := n) (f := f) (L := L) (sh := sh) (ss := ss) a)
 have HLK := hD (fun (X : World) (hX : Below w.heap.size w X) hh => Siv.rLacks_any _ Af cf L sh hh X (ht.lt hX).words (by omega))
 clear ht h hs hf
 go_enter Tryz.func66, Tryz.ntmps66
 go_upto_region 1 with (fail)
 change Code.wp _ _ _ _ (w.alloc (.cells (tabA A n c Af L.length cf sh) 35))
 generalize w.alloc (.cells (tabA A n c Af L.length cf sh) 35) = w1 at *
 have HB1 := hD hb1
 have HX1 := hD hx1
 have t0 := cell_of_row w1 w.heap.size 0 _ _ _ hx1
 have t1 := cell_of_row w1 w.heap.size 1 _ _ _ hx1
 have t2 := cell_of_row w1 w.heap.size 2 _ _ _ hx1
 simp only [List.getElem?_toArray, List.getElem?_cons_succ, List.getElem?_cons_zero] at t0 t1 t2
 clear hb1 hx1
 by_cases h1 : 512 < ss.length
 ·
  have HN := hD (HNO.out fun hq => by have := HRF.out hq; rw [HFD.out, decide_eq_false (show ¬ ss.length ≤ 512 by omega)] at this; simp at this)
  have d1 : (512 : Int) < (ss.length : Int) := by omega
  clear h1
  go_upto_region 99 with (fail)
  first | go_ret | skip
  exact ⟨ret_bl HN.out, HB1.out⟩
 have d1 : ¬ (512 : Int) < (ss.length : Int) := by omega
 by_cases h2 : n < 1
 ·
  have HN := hD (HNO.out fun hq => by have := HRF.out hq; rw [HFD.out, decide_eq_false (show ¬ 1 ≤ n by omega)] at this; simp at this)
  have d2 : (n : Int) < 1 := by omega
  obtain rfl : n = 0 := by omega
  clear h2
  go_upto_region 99 with (fail)
  first | go_ret | skip
  exact ⟨ret_bl HN.out, HB1.out⟩
 have d2 : ¬ (n : Int) < 1 := by omega
 have d2' : decide ((n : Int) < 1) = false := decide_eq_false d2
 by_cases h3 : 512 < n
 ·
  have HN := hD (HNO.out fun hq => by have := HRF.out hq; rw [HFD.out, decide_eq_false (show ¬ n ≤ 512 by omega)] at this; simp at this)
  have d3 : (512 : Int) < (n : Int) := by omega
  clear h3
  go_upto_region 99 with (fail)
  first | go_ret | skip
  exact ⟨ret_bl HN.out, HB1.out⟩
 have d3 : ¬ (512 : Int) < (n : Int) := by omega
 have HRR := hD (Siv.rRight_any Af L.length cf sh w1)
 have HFM := hD (show formT n L.length sh ss.length = Siv.formB L.length sh by rw [HFD.out]; simp; omega)
 generalize Siv.formB (L.length : Int) sh = fb at *
 generalize hll : L.length = ll at *
 cases fb
 ·
  have HN := hD (HNO.out fun hq => by have := HRF.out hq; rw [HFM.out] at this; cases this)
  go_upto_region 99 with (go_at_call 146; (with_reducible refine (HRR.out).mono ?_); rintro e w2 ⟨rfl, hb2⟩)
  first | go_ret | skip
  exact ⟨ret_bl HN.out, HB1.out.trans (hb2.mono HB1.out.size)⟩
 go_upto_region 3 with (go_at_call 146; (with_reducible refine (HRR.out).mono ?_); rintro e w2 ⟨rfl, hb2⟩)
 have HB2 := hD (HB1.out.trans (hb2.mono HB1.out.size))
 have HX2 := hD (HX1.out.below hb2)
 clear t0 t1 t2 hb2 HX1 HB1 HRR HFD d1 d2 d3 d2'
 have HSN := hD (qseen_any B ss.length d ss w2 (H.out.lt HB2.out) (by omega))
 have hal := seen_len ss ss.length
 have HSA := hD (fun k (hk : k < (seenL ss ss.length).length) => seen_at hk)
 have HSH := hD (fun j (hj : j < ss.length) hse => seen_has hj hse)
 generalize seenL ss ss.length = al at *
 go_upto_region 6 with (go_at_call 94; refine (HSN.out).mono ?_; rintro e w3 ⟨A3, c3, rfl, ho3, hb3⟩; have HB3 := hD (HB2.out.trans (hb3.mono HB2.out.size)); have HX3 := hD (HX2.out.below hb3); have HS3 := hD (Src.of_own ho3).lt; clear ho3 hb3)
 clear HB2 HX2 HSN
 have t0 : w3.cell? ⟨w.heap.size, 0, none⟩ = some (.slice A n c) := cell_of_row w3 w.heap.size 0 _ _ _ HX3.out
 have hcA := HT.out.rows.cap
 go_loopw [6, 7] (fun v t wr => ∃ b m j : Nat, b ≤ n ∧ t = .int .i64 b ∧ v = .int .i64 m ∧ m = sumF f b ∧ m ≤ al.length ∧ (∀ z, z < b → (f z).Pairwise (· < ·)) ∧ wr = w3.drewN j) (fun _ t _ => n - (intOf t).toNat)
 case atStart => exact ⟨0, 0, 0, Nat.zero_le _, rfl, rfl, rfl, Nat.zero_le _, fun z hz => absurd hz (Nat.not_lt_zero _), rfl⟩
 case round =>
  obtain ⟨b, m, j, hb, rfl, rfl, hm, hma, hso, rfl⟩ := hrel
  have HMS := hD hm
  have HSO := hD hso
  clear hm hso
  by_cases hbn : b < n
  ·
   obtain ⟨ad, rfl⟩ : ∃ ad, A = some ad := by
    cases A with
    | none => have := (HT.out.rows.nil rfl).1; omega
    | some ad => exact ⟨ad, rfl⟩
   obtain ⟨Ai, ci, r1, r2⟩ := (HT.out.lt HB3.out).rows.at_ ad rfl b hbn
   have HRW := hD r2
   have hrc := r2.cap
   have hfl := HFL.out b hbn
   have HNX := hD (show m + (f b).length = sumF f (b + 1) by rw [sumF, HMS.out])
   have HMO := hD (sum_mono f (show b + 1 ≤ n from hbn))
   have HSR := hD (fun (hq : rightT n f L sh ss = true) => HR2.out hq hbn)
   have HSX := hD (fun (hz : (f b).Pairwise (· < ·)) => show ∀ z, z < b + 1 → (f z).Pairwise (· < ·) from fun z hz' => by
    by_cases e : z = b
    ·
     subst e; exact hz
    ·
     exact HSO.out z (by omega))
   clear r2
   generalize f b = l at *
   have hb0 : (0 : Int) ≤ (b : Int) := by omega
   have hb1 : (b : Int) < (n : Int) := by omega
   by_cases hbig : al.length < m + l.length
   ·
    have HN := hD (HNO.out fun hq => by have h1 := HR1.out hq; have h2 := HMO.out; rw [← HNX.out] at h2; omega)
    have d4 : (al.length : Int) < (m : Int) + (l.length : Int) := by omega
    clear hbig
    go_upto_region 99 with (fail)
    first | go_ret | skip
    exact ⟨ret_bl HN.out, below_drewN HB3.out _⟩
   ·
    have d4 : ¬ (al.length : Int) < (m : Int) + (l.length : Int) := by omega
    have hmb : m + l.length ≤ al.length := by omega
    clear hbig
    go_upto_region 12 with (fail)
    go_loopw [8] (fun t wq => ∃ i j : Nat, 1 ≤ i ∧ (i ≤ l.length ∨ i = 1) ∧ t = .int .i64 i ∧ wq = w3.drewN j ∧ (l.take i).Pairwise (· < ·)) (fun t _ => l.length + 1 - (intOf t).toNat)
    case atStart => exact ⟨1, _, Nat.le_refl _, .inr rfl, rfl, rfl, take_one l⟩
    case round =>
     obtain ⟨i, j2, hi1, hil, rfl, rfl, hpw⟩ := hrel
     have HPW := hD hpw
     clear hpw
     by_cases hlt : i < l.length
     ·
      obtain ⟨ai, rfl⟩ : ∃ ai, Ai = some ai := by
       cases Ai with
       | none => have := (HRW.out.nil rfl).1; omega
       | some ad => exact ⟨ad, rfl⟩
      obtain ⟨p, hpi⟩ : ∃ p, p + 1 = i := ⟨i - 1, by omega⟩
      have hp : p < l.length := by omega
      have v1 : w3.cell? (ai.add p) = some (.int .i64 l[p]) := HRW.out.at_ ai rfl p _ (il_get l p hp)
      have v2 : w3.cell? (ai.add i) = some (.int .i64 l[i]) := HRW.out.at_ ai rfl i _ (il_get l i hlt)
      have hk1 : l.Pairwise (· < ·) → l[p] < l[i] := by subst hpi; exact fun hz => sorted_at hlt hz
      have HSA1 := hD hk1
      have hk2 : l[p] < l[i] → (l.take (i + 1)).Pairwise (· < ·) := by subst hpi; exact fun hz => sorted_take hlt HPW.out hz
      have HST1 := hD hk2
      clear hk1 hk2
      generalize l[p] = x at *
      generalize l[i] = y at *
      have i0 : (0 : Int) ≤ (i : Int) - 1 := by omega
      have i1 : (i : Int) - 1 < (l.length : Int) := by omega
      have i2 : (i : Int) < (l.length : Int) := by omega
      have i3 : wrap64 ((i : Int) - 1) = (i : Int) - 1 := IntWalk.wrap64_in _ (by omega)
      have i4 : ((i : Int) - 1).toNat = p := by omega
      have i5 : (0 : Int) ≤ (i : Int) := by omega
      clear hpi hp hi1
      by_cases hyx : y ≤ x
      ·
       have HN := hD (HNO.out fun hq => by have := HSA1.out (HSR.out hq); omega)
       clear HSA1 HST1
       go_upto_region 14 with (fail)
       go_quiet (fail)
       go_upto_region 99 with (fail)
       first | go_ret | skip
       exact ⟨ret_bl HN.out, below_drewN (below_drewN HB3.out _) _⟩
      ·
       have HN := hD (HST1.out (by omega))
       clear HSA1 HST1
       go_upto_region 14 with (fail)
       go_quiet (fail)
       go_wp2_with fail
       go_roundw
       case rel => exact ⟨i + 1, _, by omega, .inl (by omega), by go_num, rfl, HN.out⟩
       case measure => simp [intOf]; omega
     ·
      have htk : l.take i = l := List.take_of_length_le (by omega)
      have HPL := hD (show l.Pairwise (· < ·) by have := HPW.out; rwa [htk] at this)
      have hil' : ¬ (i : Int) < (l.length : Int) := by omega
      clear htk hil
      go_wp2_with fail
      go_roundw
      case rel => exact ⟨b + 1, m + l.length, _, hbn, by go_num, by go_num, HNX.out, hmb, HSX.out HPL.out, rfl⟩
      case measure => simp [intOf]; omega
  ·
   obtain rfl : b = n := by omega
   go_upto_region 17 with (fail)
   have HB4 := hD (below_drewN HB3.out j)
   have HX4 := hD (show Tx (w3.drewN j) w.heap.size (tabA A b c Af ll cf sh) from HX3.out)
   have HS4 := hD ((HS3.out.below (drewN_below w3 j) (fun _ h => h)).lt)
   clear HB3 HX3 HS3 t0
   generalize w3.drewN j = w4 at *
   have hpos : 0 < b := by omega
   obtain ⟨ad, rfl⟩ : ∃ ad, A = some ad := by
    cases A with
    | none => have := (HT.out.rows.nil rfl).1; omega
    | some ad => exact ⟨ad, rfl⟩
   go_loopw [9] (fun t wr => ∃ k : Nat, k ≤ al.length ∧ t = .int .i64 k ∧ Below w4.heap.size w4 wr ∧ ∀ z (hz : z < al.length), z < k → ∀ jj (hj : jj < ss.length), al[z] = (jj : Int) → cntL (f (bkt (hashS ss[jj].name) b)) (jj : Int) = 1 ∧ Siv.lacksB L sh (hashS ss[jj].name) = false) (fun t _ => al.length - (intOf t).toNat)
   case atStart => exact ⟨0, Nat.zero_le _, rfl, Below.refl _ _, fun z hz h0 => absurd h0 (Nat.not_lt_zero _)⟩
   case round =>
    obtain ⟨k, hk, rfl, hb, hall⟩ := hrel
    have HALL := hD hall
    have HB := hD hb
    clear hall hb
    by_cases hki : k < al.length
    ·
     obtain ⟨jj, hjj, hal1, hse⟩ := HSA.out k hki
     obtain ⟨a3, rfl⟩ : ∃ a3, A3 = some a3 := by
      cases A3 with
      | none => have := (HS4.out.nil rfl).1; omega
      | some ad => exact ⟨ad, rfl⟩
     have hc3 := HS4.out.cap
     have va : wr.cell? (a3.add k) = some (.int .i64 al[k]) := (HS4.out.below HB.out (fun _ h => h)).at_ a3 rfl k _ (il_get al k hki)
     rw [hal1] at va
     have hbw : Below w.heap.size w wr := HB4.out.trans (HB.out.mono HB4.out.size)
     obtain ⟨bb, rfl⟩ : ∃ bb, B = some bb := by
      cases B with
      | none => have := (H.out.nil rfl).1; omega
      | some bb => exact ⟨bb, rfl⟩
     obtain ⟨g, o, rfl⟩ := H.out.plain (by omega)
     have hcap2 := H.out.cap
     obtain ⟨c0, -⟩ := (H.out.below hbw (fun _ h => h)).get jj hjj
     have hyl := HNM.out ss[jj] (List.getElem_mem hjj)
     have HR3J := hD (fun hq => HR3.out hq hjj hse)
     have HNX := hD (fun (hz : cntL (f (bkt (hashS ss[jj].name) b)) (jj : Int) = 1 ∧ Siv.lacksB L sh (hashS ss[jj].name) = false) => show ∀ z (hz : z < al.length), z < k + 1 → ∀ ji (hj : ji < ss.length), al[z] = (ji : Int) → cntL (f (bkt (hashS ss[ji].name) b)) (ji : Int) = 1 ∧ Siv.lacksB L sh (hashS ss[ji].name) = false from fun z hz' hzk ji hj e => by
      by_cases ez : z = k
      ·
       subst ez
       rw [hal1] at e
       obtain rfl : jj = ji := by omega
       exact hz
      ·
       exact HALL.out z hz' (by omega) ji hj e)
     have HQH := hD (fun X => home_any ss[jj].name b hpos (by omega) X (by omega))
     have HHA := hD (fun X => qhash_any ss[jj].name X (by omega))
     have HLX := hD (HLK.out (wr.drewN 1) (hbw.trans ((drewN_below wr 1).mono hbw.size)) (hashS ss[jj].name))
     have hbl := bkt_lt (hashS ss[jj].name) hpos
     generalize hyn : ss[jj].name = yn at *
     generalize hashS yn = hh at *
     generalize bkt hh b = bi at *
     obtain ⟨Ai, ci, r1, r2⟩ := (HT.out.lt hbw).rows.at_ ad rfl bi hbl
     have hfl := HFL.out bi hbl
     have HQS := hD (fun (q : Nat) => qstands_any Ai ci (f bi) (jj : Int) (wr.drewN q) (r2.below (drewN_below wr q) (fun _ h => h)) (by omega))
     have t0 : wr.cell? ⟨w.heap.size, 0, none⟩ = some (.slice (some ad) b c) := cell_of_row wr w.heap.size 0 _ _ _ (HX4.out.below HB.out)
     have t1 : wr.cell? ⟨w.heap.size, 1, none⟩ = some (.slice Af ll cf) := cell_of_row wr w.heap.size 1 _ _ _ (HX4.out.below HB.out)
     have t2 : wr.cell? ⟨w.heap.size, 2, none⟩ = some (.int .i64 sh) := cell_of_row wr w.heap.size 2 _ _ _ (HX4.out.below HB.out)
     have b0 : (0 : Int) ≤ (bi : Int) := by omega
     have b1 : (bi : Int) < (b : Int) := by omega
     have k0 : (0 : Int) ≤ (k : Int) := by omega
     have k1 : (k : Int) < (al.length : Int) := by omega
     have j0 : (0 : Int) ≤ (jj : Int) := by omega
     have j1 : (jj : Int) < (ss.length : Int) := by omega
     clear r2 hse hal1
     generalize (f bi).length = fl at *
     generalize hcs : cntL (f bi) (jj : Int) = cs at *
     generalize Siv.lacksB L sh hh = lk at *
     have HBW := hD hbw
     clear hbw hcs hyn
     go_upto_region 20 with (fail)
     clear c0 hjj hyl
     by_cases hc1 : cs = 1
     ·
      subst hc1
      rw [show ((1 : Nat) : Int) = 1 from rfl] at HQS
      go_region_held3 (fun X => X.cell? ⟨w.heap.size, 0, none⟩ = some (.slice (some ad) b c) ∧ X.cell? ⟨w.heap.size, 1, none⟩ = some (.slice Af ll cf) ∧ X.cell? ⟨w.heap.size, 2, none⟩ = some (.int .i64 sh) ∧ X.cell? (a3.add k) = some (.int .i64 (jj : Int)) ∧ X.cell? (ad.add bi) = some (.slice Ai fl ci)) (first | (exact ⟨by assumption, by assumption, by assumption, by assumption, by assumption⟩) | go_keep) (first
       | (go_at_call 97; (with_reducible refine (HQH.out _).mono ?_); rintro e w' ⟨rfl, rfl⟩)
       | (go_at_call 147; (refine (HQS.out 1).mono ?_); rintro e w' ⟨rfl, rfl⟩)
       | (go_at_call 98; (with_reducible refine (HHA.out _).mono ?_); rintro e w' ⟨rfl, rfl⟩)
       | (go_at_call 148; (with_reducible refine (HLX.out).mono ?_); rintro e w5 ⟨rfl, hb5⟩; have hq := (drewN_below wr 1).trans hb5; have q0 := cell_below hq t0; have q1 := cell_below hq t1; have q2 := cell_below hq t2; have q3 := cell_below hq va; have q4 := cell_below hq r1))
      have HB5 := hD (HB.out.trans (hq.mono HB.out.size))
      clear q0 q1 q2 q3 q4 t0 t1 t2 va r1 hq hb5
      cases lk
      ·
       have HN := hD (HNX.out (by simp))
       go_wp2_with fail
       go_roundw
       case rel => exact ⟨k + 1, hki, by go_num, HB5.out, HN.out⟩
       case measure => simp [intOf]; omega
      ·
       have HN := hD (HNO.out fun hq => by have := (HR3J.out hq).2; cases this)
       go_upto_region 99 with (fail)
       first | go_ret | skip
       exact ⟨ret_bl HN.out, HB4.out.trans (HB5.out.mono HB4.out.size)⟩
     ·
      have HN := hD (HNO.out fun hq => hc1 (HR3J.out hq).1)
      have hcb : ((cs : Int) != 1) = true := by simp; omega
      go_quiet ((first
       | (go_at_call 97; exact Calls.quiet_of_same ((HQH.out _).mono fun _ _ h => ⟨h.1, h.2.symm⟩))
       | (go_at_call 147; exact Calls.quiet_of_same ((HQS.out _).mono fun _ _ h => ⟨h.1, h.2.symm⟩))))
      go_upto_region 99 with (fail)
      first | go_ret | skip
      exact ⟨ret_bl HN.out, below_drewN HBW.out _⟩
    ·
     obtain rfl : k = al.length := by omega
     by_cases hma' : m = al.length
     ·
      have HN := hD (HRO.out HFM.out (fun z hz => HSO.out z hz) (fun ji hj hse => by
       obtain ⟨z, hz, e⟩ := HSH.out ji hj hse
       exact HALL.out z hz hz ji hj e) (by rw [← HMS.out]; exact hma'))
      have he : ((m : Int) == (al.length : Int)) = true := by simp [hma']
      clear hma'
      go_upto_region 99 with (fail)
      first | go_ret | skip
      exact ⟨ret_bl HN.out, HB4.out.trans (HB.out.mono HB4.out.size)⟩
     ·
      have HN := hD (HNO.out fun hq => hma' (by rw [HMS.out]; exact HR1.out hq))
      have he : ((m : Int) == (al.length : Int)) = false := beq_eq_false_iff_ne.2 (by omega)
      clear hma'
      go_upto_region 99 with (fail)
      first | go_ret | skip
      exact ⟨ret_bl HN.out, HB4.out.trans (HB.out.mono HB4.out.size)⟩
end Go.Proofs.YtfljignkjmabpaaGreat
namespace Go.Proofs.YtfljignkjmabpaaGreat
set_option maxRecDepth 100000
open Go.RowKit
theorem wrap_in {n : Int} (h1 : -9223372036854775808 ≤ n) (h2 : n ≤ 9223372036854775807) : wrap64 n = n := IntWalk.wrap64_in _ ⟨h1, h2⟩
def segB (s : Sg) : Bool := withB s.at_ 0 65536 && (s.at_ % 64 == 0) && withB s.size 1 (65536 - s.at_) && decide ((s.bs.length : Int) ≤ s.size) && withB s.perm 0 7
def SegOk (s : Sg) : Prop := 0 ≤ s.at_ ∧ 1 ≤ s.size ∧ s.at_ + s.size ≤ 65536
theorem segB_ok {s : Sg} (h : segB s = true) : SegOk s := by
 unfold segB withB at h
 simp only [Bool.and_eq_true, decide_eq_true_eq] at h
 unfold SegOk
 omega
def permB (p q : Int) : Bool := bits .and .i64 p q == q
def standB (l : List Sg) (a n p : Int) : Bool := l.any fun s => permB s.perm p && withB a s.at_ (s.at_ + s.size - n)
theorem has1_any (s : Sg) (q : Option Addr × Nat) (gp ga gn : Nat) (a n p : Int) (w : World) (hs : SegOk s) (hn : 0 ≤ n) (hn' : n ≤ 9223372036854775807)
  (h1 : w.cell? ⟨gp, 0, none⟩ = some (.int .i64 p)) (h2 : w.cell? ⟨ga, 0, none⟩ = some (.int .i64 a)) (h3 : w.cell? ⟨gn, 0, none⟩ = some (.int .i64 n)) :
  Calls Tryz.prog 186 #[.agg (sgA s q), .pointer (some ⟨gp, 0, none⟩), .pointer (some ⟨ga, 0, none⟩), .pointer (some ⟨gn, 0, none⟩)] w
   fun e w' => e = .returned (.bool (permB s.perm p && withB a s.at_ (s.at_ + s.size - n))) ∧ Below w.heap.size w w' := by
 have HB := hD ((Below.refl w.heap.size w).alloc (Nat.le_refl _) (.cells (sgA s q) 61))
 have hx := Bx.new w (sgA s q) 61
 have x0 := hx.c 0
 have x1 := hx.c 1
 have x3 := hx.c 3
 simp only [List.getElem?_toArray, List.getElem?_cons_succ, List.getElem?_cons_zero] at x0 x1 x3
 have y1 := cell_below HB.out h1
 have y2 := cell_below HB.out h2
 have y3 := cell_below HB.out h3
 have e1 : wrap64 (s.at_ + s.size) = s.at_ + s.size := by unfold SegOk at hs; exact wrap_in (by omega) (by omega)
 have e2 : wrap64 (s.at_ + s.size - n) = s.at_ + s.size - n := by unfold SegOk at hs; exact wrap_in (by omega) (by omega)
 have HW := hD (fun X => within_any a s.at_ (s.at_ + s.size - n) X)
 have HPB := hD (show permB s.perm p = (bits .and .i64 s.perm p == p) from rfl)
 generalize withB a s.at_ (s.at_ + s.size - n) = b2 at *
 clear hx h1 h2 h3 hs hn hn'
 go_enter Tryz.func186, Tryz.ntmps186
 go_upto_region 1 with (fail)
 change Code.wp _ _ _ _ (w.alloc (.cells (sgA s q) 61))
 generalize w.alloc (.cells (sgA s q) 61) = w1 at *
 go_wp2_with (go_at_call 100; refine (HW.out _).mono ?_; rintro e w2 ⟨rfl, rfl⟩)
 all_goals
  go_ret
  refine ⟨?_, HB.out⟩
  rw [HPB.out]
  simp [*]
theorem has_img (p : Pl) (x : Im) (a n q : Int) (w : World) (h : ImIn w (fun k => k < w.heap.size) p x) (hf : Long x.segs.length) (hs : ∀ s ∈ x.segs, SegOk s) (hn : 0 ≤ n) (hn' : n ≤ 9223372036854775807) :
  Calls Tryz.prog 124 #[imV p x, .int .i64 a, .int .i64 n, .int .i64 q] w fun e w' => e = .returned (.bool (standB x.segs a n q)) ∧ Below w.heap.size w w' := by
 have hb1 := ibox_below w p x
 have hx1 := Ix.new w p x
 generalize hw1 : w.alloc (.cells (imA p x) 40) = w1 at *
 have hb2 := (Below.refl w1.heap.size w1).alloc (Nat.le_refl _) (.cells #[.int .i64 a] 3)
 have hx2 := Bx.new w1 #[.int .i64 a] 3
 generalize hw2 : w1.alloc (.cells #[.int .i64 a] 3) = w2 at *
 have hb3 := (Below.refl w2.heap.size w2).alloc (Nat.le_refl _) (.cells #[.int .i64 n] 3)
 have hx3 := Bx.new w2 #[.int .i64 n] 3
 generalize hw3 : w2.alloc (.cells #[.int .i64 n] 3) = w3 at *
 have hb4 := (Below.refl w3.heap.size w3).alloc (Nat.le_refl _) (.cells #[.int .i64 q] 59)
 have hx4 := Bx.new w3 #[.int .i64 q] 59
 generalize hw4 : w3.alloc (.cells #[.int .i64 q] 59) = w4 at *
 have z1 : w1.heap.size = w.heap.size + 1 := by rw [← hw1]; simp
 have z2 : w2.heap.size = w.heap.size + 2 := by rw [← hw2]; simp [z1]
 have z3 : w3.heap.size = w.heap.size + 3 := by rw [← hw3]; simp [z2]
 have HB := hD (hb1.trans (((hb2.trans ((hb3.trans (hb4.mono (by omega))).mono (by omega)))).mono (by omega)))
 have x1 : Ix w4 w.heap.size p x := ((hx1.below hb2).below hb3).below hb4
 have x2 := ((hx2.below hb3).below hb4)
 have x3 := hx3.below hb4
 obtain ⟨hl, B, hE, -⟩ := (h.lt HB.out).segs
 have HC := hD (cfSeg_any p.sg.1 x.segs.length p.sg.2 x.segs B 186 #[.pointer (some ⟨w3.heap.size, 0, none⟩), .pointer (some ⟨w1.heap.size, 0, none⟩), .pointer (some ⟨w2.heap.size, 0, none⟩)]
  (fun k => permB (x.segs.getD k noSg).perm q && withB a (x.segs.getD k noSg).at_ ((x.segs.getD k noSg).at_ + (x.segs.getD k noSg).size - n)) w4 hE (by unfold Long at hf; omega) (fun _ _ => by go_simp)
  (fun k X hk hX => has1_any _ _ _ _ _ a n q X (hs _ (getD_mem hk)) hn hn' ((hx4.below hX).c 0) ((x2.below hX).c 0) ((x3.below hX).c 0)))
 rw [range_any x.segs noSg (fun s => permB s.perm q && withB a s.at_ (s.at_ + s.size - n))] at HC
 have HF := hD (show standB x.segs a n q = x.segs.any (fun s => permB s.perm q && withB a s.at_ (s.at_ + s.size - n)) from rfl)
 obtain ⟨-, -, c2, -⟩ := x1.cells
 clear h hf hs hn hn' hb1 hb2 hb3 hb4 hx1 hx2 hx3 hx4 x1 x2 x3 hE hl
 rw [z1, z2, z3] at HC
 go_enter Tryz.func124, Tryz.ntmps124
 go_upto_region 1 with (fail)
 go_upto_region 99 with (go_at_call 185; refine (HC.out).mono ?_; rintro e w5 ⟨rfl, hb5⟩)
 first | go_ret | skip
 exact ⟨by rw [HF.out]; rfl, HB.out.trans (hb5.mono HB.out.size)⟩
def tlsB (x : Im) : Bool := withB x.tlsSize 0 4096 && decide ((x.tls.length : Int) ≤ x.tlsSize)
theorem tls_any (p : Pl) (x : Im) (w : World) (hf : Long x.tls.length) :
  Calls Tryz.prog 30 #[imV p x] w fun e w' => e = .returned (.bool (tlsB x)) ∧ Below w.heap.size w w' := by
 have HB := hD (ibox_below w p x)
 obtain ⟨-, -, -, -, -, -, -, -, -, -, -, -, -, c13, c14⟩ := (Ix.new w p x).cells
 have HW := hD (fun X => within_any x.tlsSize 0 4096 X)
 have HF := hD (show tlsB x = (withB x.tlsSize 0 4096 && decide ((x.tls.length : Int) ≤ x.tlsSize)) from rfl)
 generalize withB x.tlsSize 0 4096 = b1 at *
 unfold Long at hf
 go_enter Tryz.func30, Tryz.ntmps30
 go_upto_region 1 with (fail)
 change Code.wp _ _ _ _ (w.alloc (.cells (imA p x) 40))
 generalize w.alloc (.cells (imA p x) 40) = w1 at *
 go_wp2_with (go_at_call 100; refine (HW.out _).mono ?_; rintro e w2 ⟨rfl, rfl⟩)
 all_goals
  go_ret
  refine ⟨?_, HB.out⟩
  rw [HF.out]
  simp [*]
def upI (n : Int) : Int := (n + 63) / 64 * 64
theorem roundUp_any (n : Int) (w : World) (h0 : 0 ≤ n) (h1 : n ≤ 65536) : Calls Tryz.prog 104 #[.int .i64 n] w fun e w' => e = .returned (.int .i64 (upI n)) ∧ w = w' := by
 have e1 : wrap64 (n + 64) = n + 64 := wrap_in (by omega) (by omega)
 have e2 : wrap64 (n + 64 - 1) = n + 63 := by rw [wrap_in (by omega) (by omega)]; omega
 have e3 : Int.tdiv (n + 63) 64 = (n + 63) / 64 := Int.tdiv_eq_ediv_of_nonneg (by omega)
 have e4 : wrap64 ((n + 63) / 64) = (n + 63) / 64 := wrap_in (by omega) (by omega)
 have e5 : wrap64 ((n + 63) / 64 * 64) = upI n := by rw [wrap_in (by omega) (by omega)]; rfl
 go_enter Tryz.func104, Tryz.ntmps104
 go_wp2_with (fail)
 go_ret
 refine ⟨?_, rfl⟩
 unfold upI
 rw [show n + 63 = n + 64 - 1 by omega]
 rfl
theorem isSeg_any (s : Sg) (q : Option Addr × Nat) (w : World) (hf : I64 s.at_ ∧ I64 s.size ∧ I64 s.perm ∧ Long s.bs.length) :
  Calls Tryz.prog 106 #[.agg (sgA s q)] w fun e w' => e = .returned (.bool (segB s)) ∧ Below w.heap.size w w' := by
 have HB := hD ((Below.refl w.heap.size w).alloc (Nat.le_refl _) (.cells (sgA s q) 61))
 have hx := Bx.new w (sgA s q) 61
 have x0 := hx.c 0
 have x1 := hx.c 1
 have x2 := hx.c 2
 have x3 := hx.c 3
 simp only [List.getElem?_toArray, List.getElem?_cons_succ, List.getElem?_cons_zero] at x0 x1 x2 x3
 have HW1 := hD (fun X => within_any s.at_ 0 65536 X)
 have HW2 := hD (fun X => within_any s.size 1 (65536 - s.at_) X)
 have HW3 := hD (fun X => within_any s.perm 0 7 X)
 have HF := hD (show segB s = (withB s.at_ 0 65536 && (s.at_ % 64 == 0) && withB s.size 1 (65536 - s.at_) && decide ((s.bs.length : Int) ≤ s.size) && withB s.perm 0 7) from rfl)
 unfold I64 Long at hf
 obtain ⟨h1, h2, h3, h4⟩ := hf
 clear hx
 by_cases hw : withB s.at_ 0 65536 = true
 ·
  have hb := hw
  unfold withB at hb
  simp only [Bool.and_eq_true, decide_eq_true_eq] at hb
  have e1 : wrap64 (65536 - s.at_) = 65536 - s.at_ := wrap_in (by omega) (by omega)
  rw [hw] at HW1 HF
  clear hw
  generalize withB s.size 1 (65536 - s.at_) = b2 at *
  generalize withB s.perm 0 7 = b3 at *
  go_enter Tryz.func106, Tryz.ntmps106
  go_upto_region 1 with (fail)
  change Code.wp _ _ _ _ (w.alloc (.cells (sgA s q) 61))
  generalize w.alloc (.cells (sgA s q) 61) = w1 at *
  go_wp2_with (first
   | (go_at_call 100; with_reducible refine (HW1.out _).mono ?_; rintro e w2 ⟨rfl, rfl⟩)
   | (go_at_call 100; with_reducible refine (HW2.out _).mono ?_; rintro e w2 ⟨rfl, rfl⟩)
   | (go_at_call 100; with_reducible refine (HW3.out _).mono ?_; rintro e w2 ⟨rfl, rfl⟩))
  all_goals
   go_ret
   refine ⟨?_, HB.out⟩
   rw [HF.out]
   simp [*] <;> (intros; omega)
 ·
  have hw' : withB s.at_ 0 65536 = false := by simpa using hw
  rw [hw'] at HW1 HF
  clear hw
  go_enter Tryz.func106, Tryz.ntmps106
  go_upto_region 1 with (fail)
  change Code.wp _ _ _ _ (w.alloc (.cells (sgA s q) 61))
  generalize w.alloc (.cells (sgA s q) 61) = w1 at *
  go_wp2_with (first
   | (go_at_call 100; with_reducible refine (HW1.out _).mono ?_; rintro e w2 ⟨rfl, rfl⟩))
  all_goals
   go_ret
   refine ⟨?_, HB.out⟩
   rw [HF.out]
   simp
set_option maxHeartbeats 1000000 in
theorem seg_range_any (s : Sg) (q : Option Addr × Nat) (w : World) (hs : SegOk s) :
  Calls Tryz.prog 103 #[.agg (sgA s q)] w fun e w' => e = .returned (.tuple #[.int .i64 s.at_, .int .i64 (upI (s.at_ + s.size))]) ∧ Below w.heap.size w w' := by
 have HB := hD ((Below.refl w.heap.size w).alloc (Nat.le_refl _) (.cells (sgA s q) 61))
 have hx := Bx.new w (sgA s q) 61
 have x0 := hx.c 0
 have x1 := hx.c 1
 simp only [List.getElem?_toArray, List.getElem?_cons_succ, List.getElem?_cons_zero] at x0 x1
 have e1 : wrap64 (s.at_ + s.size) = s.at_ + s.size := by unfold SegOk at hs; exact wrap_in (by omega) (by omega)
 have e2 : IntKind.i64.wrap (s.at_ + s.size) = s.at_ + s.size := (wrap_i64 _).trans e1
 have HR := hD (fun X => roundUp_any (s.at_ + s.size) X (by unfold SegOk at hs; omega) (by unfold SegOk at hs; omega))
 generalize upI (s.at_ + s.size) = u at *
 clear hs hx
 go_enter Tryz.func103, Tryz.ntmps103
 go_upto_region 1 with (fail)
 change Code.wp _ _ _ _ (w.alloc (.cells (sgA s q) 61))
 generalize w.alloc (.cells (sgA s q) 61) = w1 at *
 refine wp_region_still_lit (by kernel_rfl) (by kernel_rfl) ?_
 repeat still_step
 still_call ((HR.out _).mono fun e w' h => ⟨h.1, h.2.symm⟩)
 repeat still_step
 refine wpStill_nil ?_
 go_wp2_with fail
 first | go_ret2 | go_ret | skip
 exact ⟨rfl, HB.out.trans ((drew_below w1).mono HB.out.size)⟩
def segsB (l : List Sg) : Bool := withB (l.length : Int) 1 8 && apartB l.length (fun k => segB (l.getD k noSg)) (fun k => (l.getD k noSg).at_) (fun k => upI ((l.getD k noSg).at_ + (l.getD k noSg).size))
theorem segs_ok {l : List Sg} (h : segsB l = true) : ∀ s ∈ l, SegOk s := by
 intro s hs
 unfold segsB at h
 simp only [Bool.and_eq_true] at h
 obtain ⟨k, hk, rfl⟩ := List.getElem_of_mem hs
 have := apart_yes hk h.2
 simp only [List.getD_eq_getElem?_getD, List.getElem?_eq_getElem hk, Option.getD_some] at this
 exact segB_ok this
theorem segs_any (A : Option Addr) (c : Nat) (l : List Sg) (w : World) (h : Sgs w (fun k => k < w.heap.size) A l.length c l) (hl : Long l.length) (hs : ∀ s ∈ l, I64 s.at_ ∧ I64 s.size ∧ I64 s.perm ∧ Long s.bs.length) :
  Calls Tryz.prog 29 #[.slice A l.length c] w fun e w' => e = .returned (.bool (segsB l)) ∧ Below w.heap.size w w' := by
 obtain ⟨-, B, h1, -⟩ := h
 have HA := hD (apartSeg_any A l.length c l B 106 103 #[] #[] (fun k => segB (l.getD k noSg)) (fun k => (l.getD k noSg).at_) (fun k => upI ((l.getD k noSg).at_ + (l.getD k noSg).size)) w h1 (by unfold Long at hl; omega) (fun _ _ => by go_simp) (fun _ _ => by go_simp)
  (fun k X hk hX => isSeg_any _ _ X (hs _ (getD_mem hk))) (fun k X hk hp hX => seg_range_any _ _ X (segB_ok hp)))
 have HW := hD (fun X => within_any (l.length : Int) 1 8 X)
 have HF := hD (show segsB l = (withB (l.length : Int) 1 8 && apartB l.length (fun k => segB (l.getD k noSg)) (fun k => (l.getD k noSg).at_) (fun k => upI ((l.getD k noSg).at_ + (l.getD k noSg).size))) from rfl)
 generalize apartB l.length (fun k => segB (l.getD k noSg)) (fun k => (l.getD k noSg).at_) (fun k => upI ((l.getD k noSg).at_ + (l.getD k noSg).size)) = b2 at *
 generalize withB (l.length : Int) 1 8 = b1 at *
 unfold Long at hl
 clear h1 hs
 go_enter Tryz.func29, Tryz.ntmps29
 go_wp2_with (first
  | (go_at_call 100; with_reducible refine (HW.out _).mono ?_; rintro e w2 ⟨rfl, rfl⟩)
  | (go_at_call 105; with_reducible refine (HA.out).mono ?_; rintro e w2 ⟨rfl, hb2⟩))
 all_goals
  go_ret
  rw [HF.out]
  first
   | (refine ⟨?_, hb2⟩; simp [*])
   | (refine ⟨?_, Below.refl _ _⟩; simp [*])
end Go.Proofs.YtfljignkjmabpaaGreat
namespace Go.Proofs.YtfljignkjmabpaaGreat
set_option maxRecDepth 100000
open Go.RowKit
def clashB (s e : Sym) : Bool := e.dfd && s.dfd && decide (e.name = s.name) && (decide (e.ver = s.ver) || (!e.old && !s.old))
set_option maxHeartbeats 1000000 in
theorem clash1_any (s e : Sym) (g : Nat) (w : World) (h : Sx w g s) :
  Calls Tryz.prog 169 #[symV e, .pointer (some ⟨g, 0, none⟩)] w fun en w' => en = .returned (.bool (clashB s e)) ∧ Below w.heap.size w w' := by
 have HB := hD (box_below w e)
 obtain ⟨c0, c1, c2, -, -, -, c6, -, -⟩ := (Sx.new w e).cells
 obtain ⟨e0, e1, e2, -, -, -, e6, -, -⟩ := (h.below HB.out).cells
 have HF := hD (show clashB s e = (e.dfd && s.dfd && decide (e.name = s.name) && (decide (e.ver = s.ver) || (!e.old && !s.old))) from rfl)
 obtain ⟨en, ev, eo, ek, ew, evs, ed, evl, es⟩ := e
 obtain ⟨sn, sv, so, sk, sw, svs, sd, svl, ss⟩ := s
 simp only at c0 c1 c2 c6 e0 e1 e2 e6 HF
 clear h
 go_enter Tryz.func169, Tryz.ntmps169
 go_upto_region 1 with (fail)
 change Code.wp _ _ _ _ (w.alloc (.cells (symA _) 105))
 generalize w.alloc (.cells (symA ⟨en, ev, eo, ek, ew, evs, ed, evl, es⟩) 105) = w1 at *
 cases ed
 ·
  go_wp2_with fail
  all_goals
   go_ret
   refine ⟨ret_bool ?_, HB.out⟩
   rw [HF.out]
   simp [*]
 cases sd
 ·
  go_wp2_with fail
  all_goals
   go_ret
   refine ⟨ret_bool ?_, HB.out⟩
   rw [HF.out]
   simp [*]
 by_cases hn : en = sn
 ·
  subst hn
  by_cases hv : ev = sv
  ·
   subst hv
   go_wp2_with fail
   all_goals
    go_ret
    refine ⟨ret_bool ?_, HB.out⟩
    rw [HF.out]
    simp [*]
  ·
   cases eo <;> cases so
   all_goals
    go_wp2_with fail
    all_goals
     go_ret
     refine ⟨ret_bool ?_, HB.out⟩
     rw [HF.out]
     simp [*]
 ·
  go_wp2_with fail
  all_goals
   go_ret
   refine ⟨ret_bool ?_, HB.out⟩
   rw [HF.out]
   simp [*]
theorem clashes_any (s : Sym) (A : Option Addr) (c : Nat) (l : List Sym) (w : World) (h : Syl w (fun k => k < w.heap.size) A l.length c l) (hl : l.length ≤ 4611686018427387904) :
  Calls Tryz.prog 108 #[symV s, .slice A l.length c] w fun e w' => e = .returned (.bool (l.any (clashB s))) ∧ Below w.heap.size w w' := by
 have hB := box_below w s
 have hX := Sx.new w s
 have HC := hD (cfSym_any A l.length c l 169 #[.pointer (some ⟨w.heap.size, 0, none⟩)] (fun k => clashB s (l.getD k noSy)) (w.alloc (.cells (symA s) 105)) (h.els.lt hB) hl (fun _ _ => by go_simp)
  (fun k X hk hX' => clash1_any s _ _ X (hX.below hX')))
 rw [range_any l noSy (clashB s)] at HC
 have HB := hD hB
 generalize l.any (clashB s) = b at *
 clear h hB hX
 go_enter Tryz.func108, Tryz.ntmps108
 go_upto_region 99 with (go_at_call 168; refine (HC.out).mono ?_; rintro e w2 ⟨rfl, hb2⟩)
 first | go_ret | skip
 exact ⟨rfl, HB.out.trans (hb2.mono HB.out.size)⟩
def symB (x : Im) (s : Sym) : Bool := rightB s && (!s.dfd || (if s.kind = 3 then withB s.val 0 (x.tlsSize - s.size) else standB x.segs s.val s.size 0))
theorem right_size {s : Sym} (h : rightB s = true) : 0 ≤ s.val ∧ 0 ≤ s.size := by
 unfold rightB fieldsB at h
 simp only [Bool.and_eq_true, decide_eq_true_eq] at h
 omega
set_option maxHeartbeats 2000000 in
theorem isSym_any (p : Pl) (x : Im) (s : Sym) (w : World) (h : ImIn w (fun k => k < w.heap.size) p x) (hf : Long x.segs.length) (hs : ∀ s ∈ x.segs, SegOk s) (ht : 0 ≤ x.tlsSize ∧ x.tlsSize ≤ 4096) (hz : I64 s.size) :
  Calls Tryz.prog 107 #[imV p x, symV s] w fun e w' => e = .returned (.bool (symB x s)) ∧ Below w.heap.size w w' := by
 have hb1 := ibox_below w p x
 have hx1 := Ix.new w p x
 generalize hw1 : w.alloc (.cells (imA p x) 40) = w1 at *
 have hb2 := box_below w1 s
 have hx2 := Sx.new w1 s
 generalize hw2 : w1.alloc (.cells (symA s) 105) = w2 at *
 have z1 : w1.heap.size = w.heap.size + 1 := by rw [← hw1]; simp
 have HB := hD (hb1.trans (hb2.mono (by omega)))
 have HX := hD (hx1.below hb2)
 rw [z1] at hx2
 have HS := hD hx2
 have HR := hD (right_any s w2)
 have HF := hD (show symB x s = (rightB s && (!s.dfd || (if s.kind = 3 then withB s.val 0 (x.tlsSize - s.size) else standB x.segs s.val s.size 0))) from rfl)
 obtain ⟨d0, d1, d2, d3, d4, d5, d6, d7, d8⟩ := HS.out.cells
 by_cases hr : rightB s = true
 ·
  have hsz := right_size hr
  unfold I64 at hz
  have HH := hD (fun (X : World) (hX : Below w.heap.size w X) => has_img p x s.val s.size 0 X (h.lt hX) hf hs hsz.2 hz.2)
  have HW := hD (fun X => within_any s.val 0 (x.tlsSize - s.size) X)
  have e1 : wrap64 (x.tlsSize - s.size) = x.tlsSize - s.size := wrap_in (by omega) (by omega)
  rw [hr] at HF
  rw [show okV (rightB s) = .int .i64 0 by rw [hr]; rfl] at HR
  generalize withB s.val 0 (x.tlsSize - s.size) = b1 at *
  generalize standB x.segs s.val s.size 0 = b2 at *
  clear hr h hf hs ht hz hsz hb1 hb2 hx1 hx2
  obtain ⟨sn, sv, so, sk, sw, svs, sd, svl, ss⟩ := s
  simp only at d0 d1 d2 d3 d4 d5 d6 d7 d8 HF
  go_enter Tryz.func107, Tryz.ntmps107
  cases sd
  ·
   go_wp2_with (go_at_call 167; refine HR.out.mono ?_; rintro e w3 ⟨rfl, hb3⟩; have HB3 := hD (HB.out.trans (hb3.mono HB.out.size)); obtain ⟨c0, c1, c2, c3, c4, c5, c6, c7, c8, c9, c10, c11, c12, c13, c14⟩ := (HX.out.below hb3).cells; obtain ⟨e0, e1', e2, e3, e4, e5, e6, e7, e8⟩ := (HS.out.below hb3).cells; simp only at e3 e6 e7 e8; clear hb3)
   go_ret
   exact ⟨by rw [HF.out]; rfl, HB3.out⟩
  ·
   by_cases hk : sk = 3
   ·
    subst hk
    go_wp2_with (first
     | (go_at_call 167; refine HR.out.mono ?_; rintro e w3 ⟨rfl, hb3⟩; have HB3 := hD (HB.out.trans (hb3.mono HB.out.size)); obtain ⟨c0, c1, c2, c3, c4, c5, c6, c7, c8, c9, c10, c11, c12, c13, c14⟩ := (HX.out.below hb3).cells; obtain ⟨e0, e1', e2, e3, e4, e5, e6, e7, e8⟩ := (HS.out.below hb3).cells; simp only at e3 e6 e7 e8; clear hb3)
     | (go_at_call 100; with_reducible refine (HW.out _).mono ?_; rintro e w2 ⟨rfl, rfl⟩))
    go_ret
    exact ⟨by rw [HF.out]; rfl, HB3.out⟩
   ·
    go_wp2_with (first
     | (go_at_call 167; refine HR.out.mono ?_; rintro e w3 ⟨rfl, hb3⟩; have HB3 := hD (HB.out.trans (hb3.mono HB.out.size)); obtain ⟨c0, c1, c2, c3, c4, c5, c6, c7, c8, c9, c10, c11, c12, c13, c14⟩ := (HX.out.below hb3).cells; obtain ⟨e0, e1', e2, e3, e4, e5, e6, e7, e8⟩ := (HS.out.below hb3).cells; simp only at e3 e6 e7 e8; clear hb3)
     | (go_at_call 124; with_reducible refine (HH.out _ HB3.out).mono ?_; rintro e w4 ⟨rfl, hb4⟩))
    go_ret
    exact ⟨by rw [HF.out]; simp [hk], HB3.out.trans (hb4.mono HB3.out.size)⟩
 ·
  have hr' : rightB s = false := by simpa using hr
  rw [hr'] at HF
  rw [show okV (rightB s) = .int .i64 70 by rw [hr']; rfl] at HR
  clear hr h hf hs ht hz hb1 hb2 hx1 hx2
  go_enter Tryz.func107, Tryz.ntmps107
  go_wp2_with (go_at_call 167; refine HR.out.mono ?_; rintro e w3 ⟨rfl, hb3⟩)
  go_ret
  exact ⟨by rw [HF.out]; rfl, HB.out.trans (hb3.mono HB.out.size)⟩
end Go.Proofs.YtfljignkjmabpaaGreat
namespace Go.Proofs.YtfljignkjmabpaaGreat
set_option maxRecDepth 100000
open Go.RowKit
def idxB (n : Nat) (k : Int) : Bool := withB k 0 ((n : Int) - 1)
theorem idx_any (p : Pl) (x : Im) (k : Int) (w : World) (hf : Long x.syms.length) :
  Calls Tryz.prog 181 #[imV p x, .int .i64 k] w fun e w' => e = .returned (.bool (idxB x.syms.length k)) ∧ Below w.heap.size w w' := by
 have HB := hD (ibox_below w p x)
 obtain ⟨-, -, -, -, -, c5, -⟩ := (Ix.new w p x).cells
 have HW := hD (fun X => within_any k 0 ((x.syms.length : Int) - 1) X)
 unfold Long at hf
 have e1 : wrap64 ((x.syms.length : Int) - 1) = (x.syms.length : Int) - 1 := wrap_in (by omega) (by omega)
 have HF := hD (show idxB x.syms.length k = withB k 0 ((x.syms.length : Int) - 1) from rfl)
 generalize withB k 0 ((x.syms.length : Int) - 1) = b at *
 go_enter Tryz.func181, Tryz.ntmps181
 go_upto_region 1 with (fail)
 change Code.wp _ _ _ _ (w.alloc (.cells (imA p x) 40))
 generalize w.alloc (.cells (imA p x) 40) = w1 at *
 go_wp2_with (go_at_call 100; with_reducible refine (HW.out _).mono ?_; rintro e w2 ⟨rfl, rfl⟩)
 go_ret
 exact ⟨by rw [HF.out]; rfl, HB.out⟩
theorem idx_get {n : Nat} {k : Int} (h : idxB n k = true) : ∃ j : Nat, k = j ∧ j < n := by
 unfold idxB withB at h
 simp only [Bool.and_eq_true, decide_eq_true_eq] at h
 exact ⟨k.toNat, by omega, by omega⟩
def wideI (x : Im) (r : Rl) : Int := if r.kind = 2 then (x.syms.getD r.sym.toNat noSy).size else 8
theorem rl_cells (w : World) (r : Rl) : Bx (w.alloc (.cells (rlA r) 57)) w.heap.size (rlA r) 57 := Bx.new _ _ _
theorem Bx.rl {w : World} {g : Nat} {r : Rl} (h : Bx w g (rlA r) 57) : w.cell? ⟨g, 0, none⟩ = some (.int .i64 r.at_) ∧ w.cell? ⟨g, 1, none⟩ = some (.int .i64 r.kind) ∧ w.cell? ⟨g, 2, none⟩ = some (.int .i64 r.sym) ∧ w.cell? ⟨g, 3, none⟩ = some (.int .i64 r.add) := ⟨h.c 0, h.c 1, h.c 2, h.c 3⟩
theorem im_rl (w : World) (p : Pl) (x : Im) (r : Rl) : ∃ W : World, W = (w.alloc (.cells (imA p x) 40)).alloc (.cells (rlA r) 57) ∧ Below w.heap.size w W ∧ Ix W w.heap.size p x ∧ Bx W (w.heap.size + 1) (rlA r) 57 := by
 refine ⟨_, rfl, (ibox_below w p x).alloc (by simp) _, ⟨(Ix.new w p x).bx.alloc _⟩, ?_⟩
 have := Bx.new (w.alloc (.cells (imA p x) 40)) (rlA r) 57
 simpa using this
theorem permOf_any (r : Rl) (w : World) : Calls Tryz.prog 180 #[.agg (rlA r)] w fun e w' => e = .returned (.int .i64 (if r.kind = 2 then 2 else 0)) ∧ Below w.heap.size w w' := by
 have HB := hD ((Below.refl w.heap.size w).alloc (Nat.le_refl _) (.cells (rlA r) 57))
 obtain ⟨c0, c1, c2, c3⟩ := (rl_cells w r).rl
 go_enter Tryz.func180, Tryz.ntmps180
 go_upto_region 1 with (fail)
 change Code.wp _ _ _ _ (w.alloc (.cells (rlA r) 57))
 generalize w.alloc (.cells (rlA r) 57) = w1 at *
 by_cases hk : r.kind = 2
 ·
  go_wp2_with fail
  go_ret
  exact ⟨rfl, HB.out⟩
 ·
  go_wp2_with fail
  go_ret
  exact ⟨rfl, HB.out⟩
theorem sizeOf_any (p : Pl) (x : Im) (r : Rl) (w : World) (h : ImIn w (fun k => k < w.heap.size) p x) (hf : Long x.syms.length) (hi : r.kind = 2 → ∃ j : Nat, r.sym = j ∧ j < x.syms.length) :
  Calls Tryz.prog 116 #[imV p x, .agg (rlA r)] w fun e w' => e = .returned (.int .i64 (wideI x r)) ∧ Below w.heap.size w w' := by
 obtain ⟨W, hW, hB, hX, hR⟩ := im_rl w p x r
 have HB := hD hB
 obtain ⟨-, -, -, -, -, c5, -⟩ := hX.cells
 obtain ⟨d0, d1, d2, d3⟩ := hR.rl
 have HS := hD (h.lt hB).syms
 clear h hB hX hR
 unfold Long at hf
 go_enter Tryz.func116, Tryz.ntmps116
 go_upto_region 1 with (fail)
 rw [← hW]
 clear hW
 by_cases hk : r.kind = 2
 ·
  obtain ⟨j, hj, hlt⟩ := hi hk
  obtain ⟨ad, hsy⟩ : ∃ ad, p.sy.1 = some ad := by
   cases h0 : p.sy.1 with
   | none => have := (HS.out.nil h0).1; omega
   | some ad => exact ⟨ad, rfl⟩
  rw [hsy] at HS c5
  obtain ⟨b, o, rfl⟩ := HS.out.plain (by omega)
  have hg := HS.out.els.get j hlt
  have e8 := hg 8 _ rfl
  have hv : wideI x r = (x.syms.getD j noSy).size := by unfold wideI; rw [if_pos hk, hj]; rfl
  rw [hj] at d2
  rw [hk] at d1
  clear hg hj hk hi
  have hj0 : (0 : Int) ≤ (j : Int) := by omega
  have hj1 : (j : Int) < (x.syms.length : Int) := by omega
  generalize x.syms.getD j noSy = s at *
  go_wp2_with fail
  go_ret
  exact ⟨by rw [hv]; rfl, HB.out⟩
 ·
  have hv : wideI x r = 8 := by unfold wideI; rw [if_neg hk]
  go_wp2_with fail
  go_ret
  exact ⟨by rw [hv]; rfl, HB.out⟩
def copiedB (s : Sym) (a : Int) : Bool := decide (s.kind = 2) && s.dfd && decide (1 ≤ s.size) && decide (s.val = a)
theorem copied_im_any (s : Sym) (a : Int) (w : World) : Calls Tryz.prog 207 #[symV s, .int .i64 a] w fun e w' => e = .returned (.bool (copiedB s a)) ∧ Below w.heap.size w w' := by
 have HB := hD (box_below w s)
 obtain ⟨c0, c1, c2, c3, c4, c5, c6, c7, c8⟩ := (Sx.new w s).cells
 have HF := hD (show copiedB s a = (decide (s.kind = 2) && s.dfd && decide (1 ≤ s.size) && decide (s.val = a)) from rfl)
 go_enter Tryz.func207, Tryz.ntmps207
 go_upto_region 1 with (fail)
 change Code.wp _ _ _ _ (w.alloc (.cells (symA s) 105))
 generalize w.alloc (.cells (symA s) 105) = w1 at *
 go_wp2_with fail
 all_goals
  go_ret
  refine ⟨ret_bool ?_, HB.out⟩
  rw [HF.out]
  simp [*]
 all_goals
  try intros
  try omega
def kindRB (x : Im) (r : Rl) : Bool :=
 if r.kind = 1 then decide (r.sym = -1) && withB r.add 0 65536
 else if idxB x.syms.length r.sym = false then false
 else if r.kind = 0 ∨ r.kind = 6 then !decide ((x.syms.getD r.sym.toNat noSy).kind = 3)
 else if r.kind = 7 then decide (r.add = 0)
 else if r.kind = 3 then decide ((x.syms.getD r.sym.toNat noSy).kind = 3) && decide (r.add = 0)
 else if r.kind = 4 ∨ r.kind = 5 then decide ((x.syms.getD r.sym.toNat noSy).kind = 3)
 else if r.kind = 2 then !decide (bits .and .i64 x.flags 1 = 0) && copiedB (x.syms.getD r.sym.toNat noSy) r.at_ && decide (r.add = 0)
 else false
set_option maxHeartbeats 4000000 in
theorem fitsKind_any (p : Pl) (x : Im) (r : Rl) (w : World) (h : ImIn w (fun k => k < w.heap.size) p x) (hf : Long x.syms.length) :
  Calls Tryz.prog 179 #[imV p x, .agg (rlA r)] w fun e w' => e = .returned (.bool (kindRB x r)) ∧ Below w.heap.size w w' := by
 obtain ⟨W, hW, hB, hX, hR⟩ := im_rl w p x r
 have HB := hD hB
 obtain ⟨c0, c1, c2, c3, c4, c5, c6, c7, c8, c9, c10, c11, c12, c13, c14⟩ := hX.cells
 obtain ⟨d0, d1, d2, d3⟩ := hR.rl
 have HS := hD (h.lt hB).syms
 have HX := hD hX
 have HR := hD hR
 have HI := hD (fun X => idx_any p x r.sym X hf)
 have HW := hD (fun X => within_any r.add 0 65536 X)
 clear h hB hX hR
 unfold Long at hf
 generalize hbb : kindRB x r = bb
 have HF := hD hbb
 clear hbb
 go_enter Tryz.func179, Tryz.ntmps179
 go_upto_region 1 with (fail)
 rw [← hW]
 clear hW
 by_cases h1 : r.kind = 1
 ·
  have HV := hD (show bb = (decide (r.sym = -1) && withB r.add 0 65536) by rw [← HF.out]; unfold kindRB; rw [if_pos h1])
  clear HF
  generalize withB r.add 0 65536 = b1 at *
  go_wp2_with (go_at_call 100; with_reducible refine (HW.out _).mono ?_; rintro e w2 ⟨rfl, rfl⟩)
  all_goals
   go_ret
   refine ⟨ret_bool ?_, HB.out⟩
   rw [HV.out]
   simp [*]
 cases hix : idxB x.syms.length r.sym
 ·
  have HV := hD (show bb = false by rw [← HF.out]; unfold kindRB; rw [if_neg h1, if_pos hix])
  clear HF
  rw [hix] at HI
  clear hix
  go_wp2_with (go_at_call 181; with_reducible refine (HI.out _).mono ?_; rintro e w2 ⟨rfl, hb2⟩)
  go_ret
  exact ⟨by rw [HV.out]; rfl, HB.out.trans (hb2.mono HB.out.size)⟩
 have HF2 := hD (show bb = (if r.kind = 0 ∨ r.kind = 6 then !decide ((x.syms.getD r.sym.toNat noSy).kind = 3)
  else if r.kind = 7 then decide (r.add = 0)
  else if r.kind = 3 then decide ((x.syms.getD r.sym.toNat noSy).kind = 3) && decide (r.add = 0)
  else if r.kind = 4 ∨ r.kind = 5 then decide ((x.syms.getD r.sym.toNat noSy).kind = 3)
  else if r.kind = 2 then !decide (bits .and .i64 x.flags 1 = 0) && copiedB (x.syms.getD r.sym.toNat noSy) r.at_ && decide (r.add = 0)
  else false) by rw [← HF.out]; unfold kindRB; rw [if_neg h1, if_neg (by rw [hix]; simp)])
 clear HF
 rw [hix] at HI
 obtain ⟨j, hj, hlt⟩ := idx_get hix
 obtain ⟨ad, hsy⟩ : ∃ ad, p.sy.1 = some ad := by
  cases h0 : p.sy.1 with
  | none => have := (HS.out.nil h0).1; omega
  | some ad => exact ⟨ad, rfl⟩
 rw [hsy] at HS
 obtain ⟨b, o, rfl⟩ := HS.out.plain (by omega)
 have HSY0 := hD hsy
 clear hix hsy HW
 obtain ⟨ra, rk, rs, rd⟩ := r
 simp only at hj h1 d0 d1 d2 d3 HI HF2 HR
 subst hj
 rw [show ((j : Int)).toNat = j from rfl] at HF2
 have hj0 : (0 : Int) ≤ (j : Int) := by omega
 have hj1 : (j : Int) < (x.syms.length : Int) := by omega
 have HEL := hD (fun (X : World) (hX : Below W.heap.size W X) => (HS.out.els.below hX (fun _ h => h)).get j hlt)
 generalize x.syms.getD j noSy = s at *
 go_upto_region 6 with (go_at_call 181; with_reducible refine (HI.out _).mono ?_; rintro e w2 ⟨rfl, hb2⟩; have HB2 := hD (HB.out.trans (hb2.mono HB.out.size)); obtain ⟨-, f1, -, -, -, f5, -⟩ := (HX.out.below hb2).cells; rw [HSY0.out] at f5; obtain ⟨g0, g1, g2, g3⟩ := (HR.out.below hb2).rl; have hg := HEL.out _ hb2; have e0 := hg 0 _ rfl; have e1 := hg 1 _ rfl; have e2 := hg 2 _ rfl; have e3 := hg 3 _ rfl; have e4 := hg 4 _ rfl; have e5 := hg 5 _ rfl; have e6 := hg 6 _ rfl; have e7 := hg 7 _ rfl; have e8 := hg 8 _ rfl; simp only [Nat.add_zero] at e0 g0 g1 g2 g3; have HXR := hD (HR.out.below hb2); clear hg hb2 c0 c1 c2 c3 c4 c5 c6 c7 c8 c9 c10 c11 c12 c13 c14 d0 d1 d2 d3)
 clear e0 e1 e2 e3 e4 e5 e6 e7 e8 HS HEL HI HR HX hj0 hj1
 have HB3 := hD (HB2.out.trans ((box_below w2 s).mono HB2.out.size))
 have hx3 := Sx.new w2 s
 have hr3 := (HXR.out.below (box_below w2 s)).rl
 have f3 := cell_below (box_below w2 s) f1
 have hz3 : w2.heap.size < (w2.alloc (.cells (symA s) 105)).heap.size := by simp
 change Code.wp _ _ _ _ (w2.alloc (.cells (symA s) 105))
 generalize w2.alloc (.cells (symA s) 105) = w3 at *
 clear f1 f5 g0 g1 g2 g3 HXR
 obtain ⟨g0, g1, g2, g3⟩ := hr3
 simp only at g0 g1 g2 g3
 obtain ⟨x0, x1, x2, x3, x4, x5, x6, x7, x8⟩ := hx3.cells
 clear hx3
 have HCP := hD (copied_im_any s ra w3)
 by_cases k0 : rk = 0
 ·
  subst k0
  have HV := hD (show bb = !decide (s.kind = 3) by rw [HF2.out]; rfl)
  clear HF2
  go_wp2_with fail
  all_goals
   go_ret
   refine ⟨ret_bool ?_, HB3.out⟩
   rw [HV.out]
   simp [*]
 by_cases k6 : rk = 6
 ·
  subst k6
  have HV := hD (show bb = !decide (s.kind = 3) by rw [HF2.out]; rfl)
  clear HF2
  go_wp2_with fail
  all_goals
   go_ret
   refine ⟨ret_bool ?_, HB3.out⟩
   rw [HV.out]
   simp [*]
 by_cases k7 : rk = 7
 ·
  subst k7
  have HV := hD (show bb = decide (rd = 0) by rw [HF2.out]; rfl)
  clear HF2
  go_wp2_with fail
  all_goals
   go_ret
   refine ⟨ret_bool ?_, HB3.out⟩
   rw [HV.out]
   simp [*]
 by_cases k3 : rk = 3
 ·
  subst k3
  have HV := hD (show bb = (decide (s.kind = 3) && decide (rd = 0)) by rw [HF2.out]; rfl)
  clear HF2
  go_wp2_with fail
  all_goals
   go_ret
   refine ⟨ret_bool ?_, HB3.out⟩
   rw [HV.out]
   simp [*]
 by_cases k4 : rk = 4
 ·
  subst k4
  have HV := hD (show bb = decide (s.kind = 3) by rw [HF2.out]; rfl)
  clear HF2
  go_wp2_with fail
  all_goals
   go_ret
   refine ⟨ret_bool ?_, HB3.out⟩
   rw [HV.out]
   simp [*]
 by_cases k5 : rk = 5
 ·
  subst k5
  have HV := hD (show bb = decide (s.kind = 3) by rw [HF2.out]; rfl)
  clear HF2
  go_wp2_with fail
  all_goals
   go_ret
   refine ⟨ret_bool ?_, HB3.out⟩
   rw [HV.out]
   simp [*]
 by_cases k2 : rk = 2
 ·
  subst k2
  have HV := hD (show bb = (!decide (bits .and .i64 x.flags 1 = 0) && copiedB s ra && decide (rd = 0)) by rw [HF2.out]; rfl)
  clear HF2
  generalize copiedB s ra = cb at *
  have hgr := HB3.out.size
  go_wp2_with (go_at_call 207; with_reducible refine (HCP.out).mono ?_; rintro e w4 ⟨rfl, hb4⟩; have HB4 := hD (HB3.out.trans (hb4.mono HB3.out.size)); have g3' := cell_below hb4 g3; clear hb4)
  all_goals
   go_ret
   rw [HV.out]
   first
    | (refine ⟨ret_bool ?_, HB4.out⟩; simp [*]; done)
    | (refine ⟨ret_bool ?_, HB3.out⟩; simp [*]; done)
 ·
  have HV := hD (show bb = false by rw [HF2.out, if_neg (by omega), if_neg k7, if_neg k3, if_neg (by omega), if_neg k2])
  clear HF2
  go_wp2_with fail
  all_goals
   go_ret
   refine ⟨ret_bool ?_, HB3.out⟩
   rw [HV.out]
end Go.Proofs.YtfljignkjmabpaaGreat
