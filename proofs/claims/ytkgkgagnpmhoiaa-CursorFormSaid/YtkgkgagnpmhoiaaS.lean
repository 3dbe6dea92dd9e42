/-
  The law CursorSticks: walked, for all pieces that a slice can take when they are written.
-/
import Derived.Test.YtkgkgagnpmhoiaaQ
namespace Go.Proofs.Ytkgkgagnpmhoiaa
open Go.RowKit

/-! What a writer's error hangs on. -/
theorem wNum1_err (size : Nat) (n : Int) (s t : St) (h : s.1 = t.1) : (wNum1 size n s).1 = (wNum1 size n t).1 := by
  unfold wNum1
  rw [h]
  split
  · split <;> rfl
  · exact h
theorem wNums_err (size : Nat) (ns : List Int) : ∀ s t : St, s.1 = t.1 → (wNums size ns s).1 = (wNums size ns t).1 := by
  induction ns with
  | nil => intro s t h; exact h
  | cons n ns ih => intro s t h; exact ih _ _ (wNum1_err size n s t h)
theorem wNumsA_err (size : Int) (ns : List Int) (s t : St) (h : s.1 = t.1) : (wNumsA size ns s).1 = (wNumsA size ns t).1 := by
  unfold wNumsA
  split
  · exact wNums_err _ _ _ _ h
  · rw [h]
    split
    · rfl
    · exact h
theorem wMeas_err (size most : Nat) (l : List UInt8) (s t : St) (h : s.1 = t.1) : (wMeas size most l s).1 = (wMeas size most l t).1 := by
  unfold wMeas
  rw [h]
  split
  · split <;> rfl
  · exact h
theorem wTexts_err (ss : List (List UInt8)) : ∀ s t : St, s.1 = t.1 → (wTexts ss s).1 = (wTexts ss t).1 := by
  induction ss with
  | nil => intro s t h; exact h
  | cons l ss ih => intro s t h; exact ih _ _ (wMeas_err 2 4096 l s t h)
theorem wPut_err (p : Pc) (s t : St) (h : s.1 = t.1) : (wPut p s).1 = (wPut p t).1 := by
  unfold wPut
  split
  · exact wNumsA_err _ _ _ _ h
  · split
    · exact wTexts_err _ _ _ h
    · split
      · exact wMeas_err _ _ _ _ _ h
      · split <;> exact h
theorem wNums_stick (size : Nat) (ns : List Int) (s : St) (h : s.1 ≠ 0) : wNums size ns s = s := by
  induction ns with
  | nil => rfl
  | cons n ns ih =>
    have : wNum1 size n s = s := if_neg h
    show wNums size ns (wNum1 size n s) = s
    rw [this, ih]
theorem wTexts_stick (ss : List (List UInt8)) (s : St) (h : s.1 ≠ 0) : wTexts ss s = s := by
  induction ss with
  | nil => rfl
  | cons l ss ih =>
    have : wMeas 2 4096 l s = s := if_neg h
    show wTexts ss (wMeas 2 4096 l s) = s
    rw [this, ih]
theorem wPut_stick (p : Pc) (s : St) (h : s.1 ≠ 0) : wPut p s = s := by
  unfold wPut
  split
  · unfold wNumsA
    split
    · exact wNums_stick _ _ _ h
    · simp
  · split
    · exact wTexts_stick _ _ h
    · split
      · exact if_neg h
      · split
        · simp [putIf, h]
        · rfl
theorem wAll_stick (ps : List Pc) (s : St) (h : s.1 ≠ 0) : wAll ps s = s := by
  induction ps with
  | nil => rfl
  | cons p ps ih =>
    show wAll ps (wPut p s) = s
    rw [wPut_stick p s h, ih]

/-- The cells of a piece in a block of its own. -/
theorem piece_block {w : World} {g : Nat} {p : Pc} {An As Ab : Option Addr} {cn cs cb : Nat} (h : w.heap[g]? = some (.cells (pcells p An cn As cs Ab cb) 34 (0, 0))) :
    w.cell? ⟨g, 0, none⟩ = some (.int .i64 p.kind) ∧ w.cell? ⟨g, 1, none⟩ = some (.int .i64 p.size) ∧ w.cell? ⟨g, 2, none⟩ = some (.int .i64 p.n) ∧ w.cell? ⟨g, 3, none⟩ = some (.slice An p.ns.length cn) ∧
      w.cell? ⟨g, 4, none⟩ = some (.slice As p.ss.length cs) ∧ w.cell? ⟨g, 5, none⟩ = some (.slice Ab p.b.length cb) :=
  ⟨cell_of_row w g 0 _ _ _ h, cell_of_row w g 1 _ _ _ h, cell_of_row w g 2 _ _ _ h, cell_of_row w g 3 _ _ _ h, cell_of_row w g 4 _ _ _ h, cell_of_row w g 5 _ _ _ h⟩

set_option maxHeartbeats 2000000 in
set_option maxRecDepth 100000 in
theorem sticks_any (Aa : Option Addr) (na ca : Nat) (ahead : List Pc) (bad : Pc) (An : Option Addr) (cn : Nat) (As : Option Addr) (cs : Nat) (Ab : Option Addr) (cb : Nat) (Ah : Option Addr) (nh ch : Nat) (behind : List Pc) (w : World)
    (ha : Pcs w (fun k => k < w.heap.size) Aa na ca ahead) (hv : PcV w (fun k => k < w.heap.size) bad An cn As cs Ab cb) (hh : Pcs w (fun k => k < w.heap.size) Ah nh ch behind) (hc : costs ahead + cost bad + costs behind ≤ 140737488355328) :
    Calls Try.prog 8 #[.slice Aa na ca, .agg (pcells bad An cn As cs Ab cb), .slice Ah nh ch] w fun en w' => en = .returned (.bool true) ∧ Below w.heap.size w w' := by
  have hla := ha.len
  have hlh := hh.len
  have hga := costs_ge ahead
  have hgh := costs_ge behind
  have hna : na ≤ 140737488355328 := by omega
  have hnh : nh ≤ 140737488355328 := by omega
  have HLA := Lib.hid hla
  have HLH := Lib.hid hlh
  have HA := Lib.hid ha
  have HV := Lib.hid hv
  have HH := Lib.hid hh
  clear ha hv hh hla hlh hga hgh
  obtain ⟨x, hx⟩ : ∃ x, x = pcells bad An cn As cs Ab cb := ⟨_, rfl⟩
  have hblk : (w.alloc (.cells (pcells bad An cn As cs Ab cb) 34)).heap[w.heap.size]? = some (.cells (pcells bad An cn As cs Ab cb) 34 (0, 0)) := heap_alloc_new _ _
  have HK := Lib.hid hblk
  have hBx : Below w.heap.size w (w.alloc (.cells (pcells bad An cn As cs Ab cb) 34)) := (Below.refl _ _).alloc (Nat.le_refl _) _
  have HBX := Lib.hid hBx
  have hsx : (w.alloc (.cells (pcells bad An cn As cs Ab cb) 34)).heap.size = w.heap.size + 1 := by simp
  have HSX := Lib.hid hsx
  clear hblk hBx hx x hsx
  go_enter Try.func8, Try.ntmps8
  go_wp2_with fail
  generalize w.alloc (.cells (pcells bad An cn As cs Ab cb) 34) = wx at *
  refine (awake_any _).mono ?_
  rintro en w0 ⟨rfl, hb0⟩
  have hl0 : w.heap.size < w0.heap.size := by have := hb0.size; have := HSX.out; omega
  have HB0 := Lib.hid (HBX.out.trans (hb0.mono (by have := HSX.out; omega)))
  have HK0 := Lib.hid ((hb0.block w.heap.size (by have := HSX.out; omega)).trans HK.out)
  clear hb0
  have CW := written_any Aa na ca ahead w0 ((HA.out.keep fun k hk _ => HB0.out.block k hk).weak fun k hk => by omega) (by omega)
  have HCW := Lib.hid CW
  clear CW
  go_wp2_with fail
  refine HCW.out.mono ?_
  rintro en w1 ⟨A1, c1, l1, rfl, _, _, hb1⟩
  have hl1 : w0.heap.size ≤ w1.heap.size := hb1.size
  have HB1 := Lib.hid (HB0.out.trans (hb1.mono (by omega)))
  have HK1 := Lib.hid ((hb1.block w.heap.size (by omega)).trans HK0.out)
  clear hb1
  go_wp2_with fail
  refine (wnew_any _).mono ?_
  rintro en w2 ⟨rfl, hw2, hb2, hz2⟩
  have hl2 : w1.heap.size < w2.heap.size := by omega
  have HB2 := Lib.hid (HB1.out.trans (hb2.mono (by omega)))
  have HK2 := Lib.hid ((hb2.block w.heap.size (by omega)).trans HK1.out)
  have HW2 := Lib.hid hw2
  clear hw2 hb2 hz2
  go_wp2_with fail
  refine (wnew_any _).mono ?_
  rintro en w3 ⟨rfl, hw3, hb3, hz3⟩
  have hl3 : w2.heap.size < w3.heap.size := by omega
  have HB3 := Lib.hid (HB2.out.trans (hb3.mono (by omega)))
  have HK3 := Lib.hid ((hb3.block w.heap.size (by omega)).trans HK2.out)
  have HW3 := Lib.hid (HW2.out.below hb3)
  have hv3 := (HV.out.keep fun k hk _ => HB3.out.block k hk)
  have C4 := put_any w3.heap.size w2.heap.size (0, []) none 0 bad An cn As cs Ab cb w3 hw3 (hv3.weak fun k hk => ⟨by omega, by simp [row]⟩) (by simp; omega)
  unfold pcells at C4
  have HC4 := Lib.hid C4
  obtain ⟨k0, k1, k2, k3, k4, k5⟩ := piece_block HK3.out
  clear hw3 hb3 hz3 hv3 C4
  go_wp2_with fail
  refine HC4.out.mono ?_
  rintro en w4 ⟨rfl, A4, c4, hw4, hs4⟩
  have hl4 : w3.heap.size ≤ w4.heap.size := hs4.size
  have hbl4 := wPut_len bad (0, [])
  have HB4 := Lib.hid (HB3.out.trans (hs4.to_below (B := w.heap.size) (by omega) (by intro k hk; cases hk) (by omega)))
  have HK4 := Lib.hid ((hs4.block w.heap.size (by omega) (by omega) (by simp [row])).trans HK3.out)
  have HW4 := Lib.hid ((HW3.out.other hs4 (by omega) (by simp [row]) (by simp [row]) (by intro k hk; cases hk)))
  have hlim4 : (wPut bad (0, [])).2.length ≤ 140737488355328 := by simp at hbl4; omega
  clear k0 k1 k2 k3 k4 k5 hs4 hbl4
  by_cases hok : (wAll ahead (0, [])).1 = 0
  case neg =>
    have hok2 : ((wAll ahead (0, [])).1 == 0) = false := by simpa using hok
    clear hok
    by_cases he : (wPut bad (0, [])).1 = 0
    · have HC5 := Lib.hid (bytes_ok w3.heap.size w2.heap.size A4 c4 (wPut bad (0, [])).2 w4 (by rw [he] at hw4; exact hw4) hlim4)
      clear hw4 he
      go_wp2_with fail
      refine HC5.out.mono ?_
      rintro en w5 ⟨A5, c5, rfl, _, hb5⟩
      have HB5 := Lib.hid (HB4.out.trans (hb5.mono (by omega)))
      clear hb5
      go_wp2_with fail
      go_ret
      exact ⟨rfl, HB5.out⟩
    · have HC5 := Lib.hid (bytes_err _ _ _ _ _ _ w4 hw4 (by simpa using he))
      clear hw4 he
      go_wp2_with fail
      refine HC5.out.mono ?_
      rintro en w5 ⟨rfl, hb5⟩
      have HB5 := Lib.hid (HB4.out.trans (hb5.mono (by omega)))
      clear hb5
      go_wp2_with fail
      go_ret
      exact ⟨rfl, HB5.out⟩
  have hok2 : ((wAll ahead (0, [])).1 == 0) = true := by simpa using hok
  have HOK := Lib.hid hok
  clear hok
  by_cases he : (wPut bad (0, [])).1 = 0
  case pos =>
    have HC5 := Lib.hid (bytes_ok w3.heap.size w2.heap.size A4 c4 (wPut bad (0, [])).2 w4 (by rw [he] at hw4; exact hw4) hlim4)
    clear hw4 he
    go_wp2_with fail
    refine HC5.out.mono ?_
    rintro en w5 ⟨A5, c5, rfl, _, hb5⟩
    have HB5 := Lib.hid (HB4.out.trans (hb5.mono (by omega)))
    clear hb5
    go_wp2_with fail
    go_ret
    exact ⟨rfl, HB5.out⟩
  have he1 : ((wPut bad (0, [])).1 == 0) = false := by simpa using he
  have HC5 := Lib.hid (bytes_err _ _ _ _ _ _ w4 hw4 (by simpa using he))
  have HE := Lib.hid he
  clear hw4 he
  go_wp2_with fail
  refine HC5.out.mono ?_
  rintro en w5 ⟨rfl, hb5⟩
  have hl5 : w4.heap.size ≤ w5.heap.size := hb5.size
  have HB5 := Lib.hid (HB4.out.trans (hb5.mono (by omega)))
  have HK5 := Lib.hid ((hb5.block w.heap.size (by omega)).trans HK4.out)
  have HW5 := Lib.hid (HW4.out.below hb5).anew
  clear hb5
  go_wp2_with fail
  go_loopw [14] (fun i wr => ∃ k : Nat, k ≤ na ∧ i = .int .i64 k ∧ At w5 w5.heap.size w1.heap.size none (wAll (ahead.take k) (0, [])).1 (wAll (ahead.take k) (0, [])).2 wr) (fun i _ => na - (intOf i).toNat)
  case atStart => exact ⟨0, Nat.zero_le _, rfl, none, 0, HW5.out, Step.refl _ _ _⟩
  case round =>
    obtain ⟨k, hk, rfl, A6, c6, hw6, hs6⟩ := hrel
    have hl6 : w5.heap.size ≤ wr.heap.size := hs6.size
    have HB6 := Lib.hid (HB5.out.trans (hs6.to_below (B := w.heap.size) (by omega) (by intro k hk; cases hk) (by omega)))
    have hbl := wAll_len (ahead.take k) (0, [])
    by_cases hlt : k < na
    · have hkl : k < ahead.length := by rw [HLA.out]; exact hlt
      obtain ⟨ad, rfl⟩ : ∃ ad, Aa = some ad := by
        cases Aa with
        | none => have := (HA.out.nil rfl).1; omega
        | some ad => exact ⟨ad, rfl⟩
      have hbt := costs_take ahead k hkl
      obtain ⟨b, o, Bn, dn, Bs, ds, Bb, db, rfl, hv, k0, k1, k2, k3, k4, k5⟩ := (HA.out.keep fun k hk _ => HB6.out.block k hk).cells k hkl
      have C := put_any w5.heap.size w1.heap.size (wAll (ahead.take k) (0, [])) A6 c6 ahead[k] Bn dn Bs ds Bb db wr hw6 (hv.weak fun j hj => ⟨by omega, fun e => by have := (hw6.rowLt _ e).1; omega⟩) (by simp at hbl; omega)
      rw [← wAll_snoc ahead k hkl] at C
      unfold pcells at C
      have HC := Lib.hid C
      have HS6 := Lib.hid hs6
      have hcp := HA.out.cap
      clear hw6 hs6 hbl hbt hv C
      go_wp2_with (go_at_call 14; refine HC.out.mono ?_; rintro en w7 ⟨rfl, hat⟩; have HA := Lib.hid hat; clear hat)
      go_roundw
      case rel => exact ⟨k + 1, by omega, by go_num, At.trans HS6.out HA.out⟩
      case measure => simp [intOf]; omega
    · obtain rfl : k = na := by omega
      have htk : ahead.take k = ahead := List.take_of_length_le (by rw [HLA.out]; exact Nat.le_refl _)
      rw [htk] at hw6 hbl
      have HK6 := Lib.hid ((hs6.block w.heap.size (by omega) (by omega) (by simp [row])).trans HK5.out)
      have hv6 := (HV.out.keep fun k hk _ => HB6.out.block k hk)
      have C := put_any w5.heap.size w1.heap.size (wAll ahead (0, [])) A6 c6 bad An cn As cs Ab cb wr hw6 (hv6.weak fun j hj => ⟨by omega, fun e => by have := (hw6.rowLt _ e).1; omega⟩) (by simp at hbl; omega)
      have hbl6 := wPut_len bad (wAll ahead (0, []))
      have hl6b : (wPut bad (wAll ahead (0, []))).2.length ≤ costs ahead + cost bad := by simp at hbl; omega
      unfold pcells at C
      have HC := Lib.hid C
      have HS6 := Lib.hid hs6
      obtain ⟨k0, k1, k2, k3, k4, k5⟩ := piece_block HK6.out
      clear hw6 hs6 hbl htk hv6 C hbl6
      obtain ⟨wq, rfl⟩ : ∃ wq : World, wq = wr := ⟨_, rfl⟩
      go_wp2_with fail
      refine HC.out.mono ?_
      rintro en w7 ⟨rfl, hat⟩
      have HA7 := Lib.hid (At.trans HS6.out hat)
      clear hat k0 k1 k2 k3 k4 k5
      go_wp2_with fail
      go_loopw [15] (fun i wr => ∃ j : Nat, j ≤ nh ∧ i = .int .i64 j ∧ At w5 w5.heap.size w1.heap.size none (wAll (behind.take j) (wPut bad (wAll ahead (0, [])))).1 (wAll (behind.take j) (wPut bad (wAll ahead (0, [])))).2 wr) (fun i _ => nh - (intOf i).toNat)
      case atStart => exact ⟨0, Nat.zero_le _, rfl, HA7.out⟩
      case round =>
        obtain ⟨j, hj, rfl, A8, c8, hw8, hs8⟩ := hrel
        have hl8 : w5.heap.size ≤ wr.heap.size := hs8.size
        have HB8 := Lib.hid (HB5.out.trans (hs8.to_below (B := w.heap.size) (by omega) (by intro k hk; cases hk) (by omega)))
        have hbl := wAll_len (behind.take j) (wPut bad (wAll ahead (0, [])))
        by_cases hlt2 : j < nh
        · have hkl : j < behind.length := by rw [HLH.out]; exact hlt2
          obtain ⟨ad, rfl⟩ : ∃ ad, Ah = some ad := by
            cases Ah with
            | none => have := (HH.out.nil rfl).1; omega
            | some ad => exact ⟨ad, rfl⟩
          have hbt := costs_take behind j hkl
          obtain ⟨b, o, Bn, dn, Bs, ds, Bb, db, rfl, hv, k0, k1, k2, k3, k4, k5⟩ := (HH.out.keep fun k hk _ => HB8.out.block k hk).cells j hkl
          have C := put_any w5.heap.size w1.heap.size (wAll (behind.take j) (wPut bad (wAll ahead (0, [])))) A8 c8 behind[j] Bn dn Bs ds Bb db wr hw8 (hv.weak fun j hj => ⟨by omega, fun e => by have := (hw8.rowLt _ e).1; omega⟩) (by omega)
          rw [← wAll_snoc behind j hkl] at C
          unfold pcells at C
          have HC := Lib.hid C
          have HS8 := Lib.hid hs8
          have hcp := HH.out.cap
          clear hw8 hs8 hbl hbt hv C
          go_wp2_with (go_at_call 14; refine HC.out.mono ?_; rintro en w7 ⟨rfl, hat⟩; have HA := Lib.hid hat; clear hat)
          go_roundw
          case rel => exact ⟨j + 1, by omega, by go_num, At.trans HS8.out HA.out⟩
          case measure => simp [intOf]; omega
        · obtain rfl : j = nh := by omega
          have htk : behind.take j = behind := List.take_of_length_le (by rw [HLH.out]; exact Nat.le_refl _)
          have hE : (wPut bad (wAll ahead (0, []))).1 = (wPut bad (0, [])).1 := wPut_err bad _ _ HOK.out
          have hst : wAll behind (wPut bad (wAll ahead (0, []))) = wPut bad (wAll ahead (0, [])) := wAll_stick behind _ (by rw [hE]; exact HE.out)
          rw [htk, hst, hE] at hw8
          have HC9 := Lib.hid (bytes_err _ _ _ _ _ _ wr hw8 (by simpa using HE.out))
          clear hw8 hs8 hbl htk hE hst
          obtain ⟨wz, rfl⟩ : ∃ wz : World, wz = wr := ⟨_, rfl⟩
          go_wp2_with fail
          refine HC9.out.mono ?_
          rintro en w9 ⟨rfl, hb9⟩
          have HB9 := Lib.hid (HB8.out.trans (hb9.mono (by omega)))
          clear hb9
          go_wp2_with fail
          go_ret
          exact ⟨rfl, HB9.out⟩
end Go.Proofs.Ytkgkgagnpmhoiaa
