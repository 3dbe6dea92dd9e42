/-
  The law on how full a table is, walked.
-/
import Derived.Test.YtlkhmpnahbbpeaaK
namespace Go.Proofs.Ytlkhmpnahbbpeaa
open Go.RowKit

/-- The box that holds a table. -/
theorem tab_box (w : World) (cs : Array Value) : Below w.heap.size w (w.alloc (.cells cs 29)) ∧ Tx (w.alloc (.cells cs 29)) w.heap.size cs := ⟨(Below.refl _ _).alloc (Nat.le_refl _) _, heap_alloc_new _ _⟩
theorem Tx.below {w w' : World} {b : Nat} {cs : Array Value} (h : Tx w b cs) (hb : Below w.heap.size w w') : Tx w' b cs := (hb.block b (by
  cases hg : w.heap[b]? with
  | none => rw [Tx, hg] at h; cases h
  | some o => exact (Array.getElem?_eq_some_iff.1 hg).1)).trans h
theorem sum_take {ss : List Sym} {cnt m : Nat} (hss : ss.length ≤ 512) : sumF (fillS ss cnt ss.length) m ≤ m * 512 := sum_le _ 512 (fun k => Nat.le_trans (fill_len ss cnt ss.length k) hss) m
set_option maxRecDepth 100000 in
set_option maxHeartbeats 2000000 in
theorem load_any (A : Option Addr) (n c : Nat) (ss : List Sym) (w : World) (h : Syl w (fun k => k < w.heap.size) A n c ss) (hn : n ≤ 1000000000000000000) (hs : Named ss) : Calls Try.prog 10 #[.slice A n c] w fun e w' => e = .returned (.bool true) ∧ Below w.heap.size w w' := by
  obtain rfl := h.len
  have H := Lib.hid h
  have HA := Lib.hid (awake_any w)
  by_cases h5 : 512 < ss.length
  · have HM := Lib.hid (fun X => tmake_no A ss.length c X h5 (by omega))
    have d1 : (512 : Int) < (ss.length : Int) := by omega
    clear h5 h
    go_enter Try.func10, Try.ntmps10
    go_upto_region 2 with (go_at_call 11; refine (HA.out).mono ?_; rintro e w1 ⟨rfl, hb1⟩; have HB1 := Lib.hid hb1; clear hb1)
    go_upto_region 3 with (go_at_call 12; refine (HM.out _).mono ?_; rintro e w2 ⟨rfl, hb2⟩; have HB2 := Lib.hid (HB1.out.trans (hb2.mono HB1.out.size)); clear hb2)
    have HB3 := Lib.hid (HB2.out.trans ((tab_box w2 (tabA none 0 0 none 0 0 0)).1.mono HB2.out.size))
    change Code.wp _ _ _ _ (w2.alloc (.cells (tabA none 0 0 none 0 0 0) 29))
    generalize w2.alloc (.cells (tabA none 0 0 none 0 0 0) 29) = w3 at *
    go_upto_region 99 with (fail)
    first | go_ret | skip
    exact ⟨rfl, HB3.out⟩
  · have hss : ss.length ≤ 512 := by omega
    have HM := Lib.hid (fun (X : World) (hX : Below w.heap.size w X) => tmake_any A c ss X (H.out.lt hX) hss hs)
    have hct := cntS_le hss
    have HV := Lib.hid (cntS_val ss)
    have HSA := Lib.hid (sum_all ss (cntS ss) hct.1)
    have hml : (hashesS ss).length ≤ 512 := Nat.le_trans (hashes_all ss) hss
    clear h5 h
    go_enter Try.func10, Try.ntmps10
    go_upto_region 2 with (go_at_call 11; refine (HA.out).mono ?_; rintro e w1 ⟨rfl, hb1⟩; have HB1 := Lib.hid hb1; clear hb1)
    go_upto_region 3 with (go_at_call 12; refine (HM.out _ HB1.out).mono ?_; rintro e w2 ⟨g, s, Af, cf, rfl, ht⟩; have HT2 := Lib.hid ht.tabv; have HB2 := Lib.hid (HB1.out.trans (ht.2.2.mono HB1.out.size)); clear ht)
    have hbx := tab_box w2 (tabA (some ⟨g, 0, none⟩) (cntS ss) (cntS ss) Af (wlS ss) cf 6)
    have HB3 := Lib.hid (HB2.out.trans (hbx.1.mono HB2.out.size))
    have HT3 := Lib.hid (HT2.out.lt hbx.1)
    have HX3 := Lib.hid hbx.2
    clear hbx HT2
    change Code.wp _ _ _ _ (w2.alloc (.cells (tabA (some ⟨g, 0, none⟩) (cntS ss) (cntS ss) Af (wlS ss) cf 6) 29))
    generalize w2.alloc (.cells (tabA (some ⟨g, 0, none⟩) (cntS ss) (cntS ss) Af (wlS ss) cf 6) 29) = w3 at *
    generalize w2.heap.size = tb at *
    generalize hcn : cntS ss = cn at *
    go_upto_region 7 with (fail)
    go_loopw [6, 8] (fun m t wr => ∃ k j : Nat, k ≤ ss.length ∧ t = .int .i64 k ∧ m = .int .i64 j ∧ j = (hashesS (ss.take k)).length ∧ j ≤ k ∧ Below w3.heap.size w3 wr) (fun _ t _ => ss.length - (intOf t).toNat)
    case atStart => exact ⟨0, 0, Nat.zero_le _, rfl, rfl, rfl, Nat.le_refl _, Below.refl _ _⟩
    case round =>
      obtain ⟨k, j, hk, rfl, rfl, hj, hjk, hb⟩ := hrel
      have HB := Lib.hid hb
      have HJ := Lib.hid hj
      clear hb hj
      by_cases hki : k < ss.length
      · obtain ⟨ad, rfl⟩ : ∃ ad, A = some ad := by
          cases A with
          | none => have := (H.out.nil rfl).1; omega
          | some ad => exact ⟨ad, rfl⟩
        obtain ⟨b, o, rfl⟩ := H.out.plain (by omega)
        have hcap := H.out.cap
        obtain ⟨c0, c1, c2, c3, c4, c5, c6, c7, c8⟩ := (H.out.below (HB3.out.trans (HB.out.mono HB3.out.size)) (fun _ h => h)).get k hki
        have HTK := Lib.hid (congrArg List.length (hashes_take hki))
        generalize ss[k] = y at *
        have HSE := Lib.hid (fun X => rseen_any y X)
        generalize hse : seenB y = se at *
        cases se
        · have HTN := Lib.hid (show j = (hashesS (ss.take (k + 1))).length by rw [HTK.out, HJ.out]; simp)
          clear HTK
          go_upto_region 8 with (go_at_call 24; refine (HSE.out _).mono ?_; rintro e w4 ⟨rfl, hb4⟩; have HB4 := Lib.hid (HB.out.trans (hb4.mono HB.out.size)); clear hb4)
          clear c0 c1 c2 c3 c4 c5 c6 c7 c8
          go_wp2_with fail
          go_roundw
          case rel => exact ⟨k + 1, j, by omega, by go_num, rfl, HTN.out, by omega, HB4.out⟩
          case measure => simp [intOf]; omega
        · have HTN := Lib.hid (show j + 1 = (hashesS (ss.take (k + 1))).length by rw [HTK.out, HJ.out]; simp)
          clear HTK
          go_upto_region 8 with (go_at_call 24; refine (HSE.out _).mono ?_; rintro e w4 ⟨rfl, hb4⟩; have HB4 := Lib.hid (HB.out.trans (hb4.mono HB.out.size)); clear hb4)
          clear c0 c1 c2 c3 c4 c5 c6 c7 c8
          go_wp2_with fail
          go_roundw
          case rel => exact ⟨k + 1, j + 1, by omega, by go_num, by go_num, HTN.out, by omega, HB4.out⟩
          case measure => simp [intOf]; omega
      · obtain rfl : k = ss.length := by omega
        rw [List.take_length] at HJ
        have hjm := HJ.out
        have HT4 := Lib.hid (HT3.out.lt HB.out)
        have HX4 := Lib.hid (HX3.out.below HB.out)
        have HB4 := Lib.hid (HB3.out.trans (HB.out.mono HB3.out.size))
        clear HT3 HX3 HB HB3 HB2
        have t0 : wr.cell? ⟨tb, 0, none⟩ = some (.slice (some ⟨g, 0, none⟩) cn cn) := cell_of_row wr tb 0 _ _ _ HX4.out
        go_upto_region 12 with (fail)
        go_loopw [7, 9] (fun a t wq => ∃ k m : Nat, k ≤ cn ∧ t = .int .i64 k ∧ a = .int .i64 m ∧ m = sumF (fillS ss cn ss.length) k ∧ m ≤ k * 512 ∧ wr = wq) (fun _ t _ => cn - (intOf t).toNat)
        case atStart => exact ⟨0, 0, Nat.zero_le _, rfl, rfl, rfl, Nat.zero_le _, rfl⟩
        case round =>
          obtain ⟨k, m, hk, rfl, rfl, hm, hmk, rfl⟩ := hrel
          have HMS := Lib.hid hm
          clear hm
          by_cases hki : k < cn
          · obtain ⟨Ai, ci, hac, -⟩ := HT4.out.rows.at_ _ rfl k hki
            rw [plainAdd, Nat.zero_add] at hac
            have HNX := Lib.hid (show m + (fillS ss cn ss.length k).length = sumF (fillS ss cn ss.length) (k + 1) by rw [sumF, HMS.out])
            have hfl : (fillS ss cn ss.length k).length ≤ 512 := Nat.le_trans (fill_len ss cn ss.length k) hss
            generalize (fillS ss cn ss.length k).length = fl at *
            go_wp2_with fail
            go_roundw
            case rel => exact ⟨k + 1, m + fl, by omega, by go_num, by go_num, HNX.out, by omega, trivial⟩
            case measure => simp [intOf]; omega
          · obtain rfl : k = cn := by omega
            have hfin : m = j := by rw [HMS.out, HSA.out ss.length (Nat.le_refl _), List.take_length, HJ.out]
            subst hfin
            have hv := HV.out
            have hge : m ≤ 4 * k := by
              rw [hjm]
              unfold cntT at hv
              split at hv <;> omega
            clear hmk hjm hv HSA HV HMS HJ
            have e1 : wrap64 (4 * (k : Int)) = 4 * (k : Int) := IntWalk.wrap64_in _ (by omega)
            have e2 : (m : Int) ≤ 4 * (k : Int) := by omega
            have e3 : (1 : Int) ≤ (k : Int) := by omega
            go_wp2_with fail
            first | go_ret | skip
            exact ⟨rfl, HB4.out⟩
end Go.Proofs.Ytlkhmpnahbbpeaa
