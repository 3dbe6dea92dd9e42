/-
  The law CursorNumbers: walked, for every number and size.
-/
import Derived.Test.YtkgkgagnpmhoiaaD
namespace Go.Proofs.Ytkgkgagnpmhoiaa
open Go.RowKit

theorem val_digs (n : Int) (size : Nat) (hs : sized size = true) (hf : fitB size n = true) (hi : I64 n) : val (digs n size) = n := by
  have hs' : size = 1 ∨ size = 2 ∨ size = 4 ∨ size = 8 := by simp only [sized, decide_eq_true_eq] at hs; omega
  have d0 := dig_val n 0
  have d1 := dig_val n 1
  have d2 := dig_val n 2
  have d3 := dig_val n 3
  have d4 := dig_val n 4
  have d5 := dig_val n 5
  have d6 := dig_val n 6
  have d7 := dig_val n 7
  simp only [Nat.mul_zero, Nat.reduceMul, Int.reducePow] at d0 d1 d2 d3 d4 d5 d6 d7
  unfold I64 at hi
  rcases hs' with rfl | rfl | rfl | rfl
  · simp [fitB] at hf
    simp only [digs, show List.range 1 = [0] from rfl, List.map, val, valN, wrap64]
    omega
  · simp [fitB] at hf
    simp only [digs, show List.range 2 = [0, 1] from rfl, List.map, val, valN, wrap64]
    omega
  · simp [fitB] at hf
    simp only [digs, show List.range 4 = [0, 1, 2, 3] from rfl, List.map, val, valN, wrap64]
    omega
  · simp only [digs, show List.range 8 = [0, 1, 2, 3, 4, 5, 6, 7] from rfl, List.map, val, valN, wrap64]
    omega

theorem rTake_app (n : Nat) (l rest : List UInt8) (h : l.length = n) : rTake n (0, l ++ rest) = (l, (0, rest)) := by
  subst h
  unfold rTake
  simp
theorem cells_digs (n : Int) (size k : Nat) (h : k < size) : (cells (digs n size))[k]? = some (.int .u8 ((dig n k).toNat : Int)) := by simp [cells, u8, digs, h]
/-- A number that was put is read as it was. -/
theorem rNum_back (n : Int) (size : Nat) (rest : List UInt8) (hs : sized size = true) (hf : fitB size n = true) (hi : I64 n) : rNum size (0, digs n size ++ rest) = (n, (0, rest)) := by
  have h := val_digs n size hs hf hi
  unfold rNum
  rw [if_pos hs, Int.toNat_natCast, rTake_app size _ rest (digs_len n size)]
  show (val (digs n size), ((0, rest) : St)) = _
  rw [h]

set_option maxHeartbeats 1000000 in
set_option maxRecDepth 100000 in
theorem numbers_bad (n size : Int) (w : World) (hi : I64 n) (hs : sized size = false) :
    Calls Try.prog 7 #[.int .i64 n, .int .i64 size] w fun en w' => en = .returned (.bool true) ∧ Below w.heap.size w w' := by
  have hs' : size ≠ 1 ∧ size ≠ 2 ∧ size ≠ 4 ∧ size ≠ 8 := by simp only [sized, decide_eq_false_iff_not] at hs; omega
  obtain ⟨h1, h2, h4, h8⟩ := hs'
  have b1 : (size == 1) = false := by simpa using h1
  have b2 : (size == 2) = false := by simpa using h2
  have b3 : (size == 4) = false := by simpa using h4
  have b4 : (size == 8) = false := by simpa using h8
  have c1 : (size != 1) = true := by simpa using h1
  have c2 : (size != 2) = true := by simpa using h2
  have c3 : (size != 4) = true := by simpa using h4
  have c4 : (size != 8) = true := by simpa using h8
  have HS := Lib.hid hs
  clear hs h1 h2 h4 h8
  go_enter Try.func7, Try.ntmps7
  go_wp2_with fail
  refine (awake_any _).mono ?_
  rintro en w0 ⟨rfl, hb0⟩
  have HB0 := Lib.hid hb0
  have hl0 : w.heap.size ≤ w0.heap.size := hb0.size
  clear hb0
  go_wp2_with fail
  refine (wnew_any _).mono ?_
  rintro en w1 ⟨rfl, hw1, hb1, hz1⟩
  have hz1' : w0.heap.size < w1.heap.size := by omega
  have C2 := wnum_any w1.heap.size w0.heap.size (0, []) none 0 size _ 1 1 [n] _ (hw1.alloc (.cells #[.int .i64 n] 3)) (by intro x hx; simp at hx; subst hx; exact hi)
    ((src_int w1 n).weak fun k hk => (by subst hk; exact ⟨by omega, by simp [row]⟩)) (by simp)
  have e2 : wNumsA size [n] (0, []) = (1, []) := by unfold wNumsA; rw [if_neg (by rw [HS.out]; decide)]; rfl
  rw [e2] at C2
  have HC2 := Lib.hid C2
  have HB1 := Lib.hid hb1
  clear hw1 hb1 hz1 C2 e2
  go_wp2_with fail
  refine HC2.out.mono ?_
  rintro en w2 ⟨rfl, A2, c2, hw2, hs2⟩
  have hl2 : w1.heap.size < w2.heap.size := by have := hs2.size; simp at this; omega
  have HC3 := Lib.hid (bytes_err _ _ _ _ _ _ w2 hw2 rfl)
  have HS2 := Lib.hid hs2
  clear hw2 hs2
  go_wp2_with fail
  refine HC3.out.mono ?_
  rintro en w3 ⟨rfl, hb3⟩
  have HB3 := Lib.hid hb3
  clear hb3
  go_wp2_with fail
  go_ret
  refine ⟨rfl, ?_⟩
  have b2 : Below w.heap.size w1 w2 := ((Below.refl _ _).alloc (by omega) _).trans (HS2.out.to_below (by omega) (by intro k hk; cases hk) (by simp; omega))
  exact ((HB0.out.trans (HB1.out.mono (by omega))).trans b2).trans (HB3.out.mono (by omega))

-- WRITTEN BY gen_e.py FROM HERE ON

set_option maxHeartbeats 1000000 in
set_option maxRecDepth 100000 in
theorem numbers_nofit1 (n : Int) (w : World) (hi : I64 n) (hf : n < 0 ∨ 256 ≤ n) :
    Calls Try.prog 7 #[.int .i64 n, .int .i64 1] w fun en w' => en = .returned (.bool true) ∧ Below w.heap.size w w' := by
  have hfb : fitB (1 : Nat) n = false := by simp [fitB]; omega
  have e2 : wNumsA 1 [n] (0, []) = (10, []) := by simp [wNumsA, sized, wNums, wNum1]; simpa using hfb
  have HI := Lib.hid hi
  have HE := Lib.hid e2
  clear hi e2 hfb
  rcases hf with hf | hf
  all_goals
    go_enter Try.func7, Try.ntmps7
    go_wp2_with fail
    refine (awake_any _).mono ?_
    rintro en w0 ⟨rfl, hb0⟩
    have HB0 := Lib.hid hb0
    have hl0 : w.heap.size ≤ w0.heap.size := hb0.size
    clear hb0
    go_wp2_with fail
    refine (wnew_any _).mono ?_
    rintro en w1 ⟨rfl, hw1, hb1, hz1⟩
    have hz1' : w0.heap.size < w1.heap.size := by omega
    have C2 := wnum_any w1.heap.size w0.heap.size (0, []) none 0 1 _ 1 1 [n] _ (hw1.alloc (.cells #[.int .i64 n] 3)) (by intro x hx; simp at hx; subst hx; exact HI.out)
      ((src_int w1 n).weak fun k hk => (by subst hk; exact ⟨by omega, by simp [row]⟩)) (by simp)
    rw [HE.out] at C2
    have HC2 := Lib.hid C2
    have HB1 := Lib.hid hb1
    clear hw1 hb1 hz1 C2
    go_wp2_with fail
    refine HC2.out.mono ?_
    rintro en w2 ⟨rfl, A2, c2, hw2, hs2⟩
    have hl2 : w1.heap.size < w2.heap.size := by have := hs2.size; simp at this; omega
    have HC3 := Lib.hid (bytes_err _ _ _ _ _ _ w2 hw2 rfl)
    have HS2 := Lib.hid hs2
    clear hw2 hs2
    go_wp2_with fail
    refine HC3.out.mono ?_
    rintro en w3 ⟨rfl, hb3⟩
    have HB3 := Lib.hid hb3
    clear hb3
    have b2 : Hid (Below w.heap.size w1 w2) := ((Below.refl _ _).alloc (by omega) _).trans (HS2.out.to_below (by omega) (by intro k hk; cases hk) (by simp; omega))
  · go_wp2_with fail
    go_ret
    exact ⟨rfl, ((HB0.out.trans (HB1.out.mono (by omega))).trans b2.out).trans (HB3.out.mono (by omega))⟩
  · have hq1 : (n / 256 != 0) = true := by rw [bne_iff_ne]; omega
    have hq2 : (n / 256 == 0) = false := by rw [beq_eq_false_iff_ne]; omega
    have hn0 : 0 ≤ n := by omega
    go_wp2_with fail
    go_ret
    exact ⟨rfl, ((HB0.out.trans (HB1.out.mono (by omega))).trans b2.out).trans (HB3.out.mono (by omega))⟩

set_option maxHeartbeats 1000000 in
set_option maxRecDepth 100000 in
theorem numbers_nofit2 (n : Int) (w : World) (hi : I64 n) (hf : n < 0 ∨ 65536 ≤ n) :
    Calls Try.prog 7 #[.int .i64 n, .int .i64 2] w fun en w' => en = .returned (.bool true) ∧ Below w.heap.size w w' := by
  have hfb : fitB (2 : Nat) n = false := by simp [fitB]; omega
  have e2 : wNumsA 2 [n] (0, []) = (10, []) := by simp [wNumsA, sized, wNums, wNum1]; simpa using hfb
  have HI := Lib.hid hi
  have HE := Lib.hid e2
  clear hi e2 hfb
  rcases hf with hf | hf
  all_goals
    go_enter Try.func7, Try.ntmps7
    go_wp2_with fail
    refine (awake_any _).mono ?_
    rintro en w0 ⟨rfl, hb0⟩
    have HB0 := Lib.hid hb0
    have hl0 : w.heap.size ≤ w0.heap.size := hb0.size
    clear hb0
    go_wp2_with fail
    refine (wnew_any _).mono ?_
    rintro en w1 ⟨rfl, hw1, hb1, hz1⟩
    have hz1' : w0.heap.size < w1.heap.size := by omega
    have C2 := wnum_any w1.heap.size w0.heap.size (0, []) none 0 2 _ 1 1 [n] _ (hw1.alloc (.cells #[.int .i64 n] 3)) (by intro x hx; simp at hx; subst hx; exact HI.out)
      ((src_int w1 n).weak fun k hk => (by subst hk; exact ⟨by omega, by simp [row]⟩)) (by simp)
    rw [HE.out] at C2
    have HC2 := Lib.hid C2
    have HB1 := Lib.hid hb1
    clear hw1 hb1 hz1 C2
    go_wp2_with fail
    refine HC2.out.mono ?_
    rintro en w2 ⟨rfl, A2, c2, hw2, hs2⟩
    have hl2 : w1.heap.size < w2.heap.size := by have := hs2.size; simp at this; omega
    have HC3 := Lib.hid (bytes_err _ _ _ _ _ _ w2 hw2 rfl)
    have HS2 := Lib.hid hs2
    clear hw2 hs2
    go_wp2_with fail
    refine HC3.out.mono ?_
    rintro en w3 ⟨rfl, hb3⟩
    have HB3 := Lib.hid hb3
    clear hb3
    have b2 : Hid (Below w.heap.size w1 w2) := ((Below.refl _ _).alloc (by omega) _).trans (HS2.out.to_below (by omega) (by intro k hk; cases hk) (by simp; omega))
  · go_wp2_with fail
    go_ret
    exact ⟨rfl, ((HB0.out.trans (HB1.out.mono (by omega))).trans b2.out).trans (HB3.out.mono (by omega))⟩
  · have hq1 : (n / 65536 != 0) = true := by rw [bne_iff_ne]; omega
    have hq2 : (n / 65536 == 0) = false := by rw [beq_eq_false_iff_ne]; omega
    have hn0 : 0 ≤ n := by omega
    go_wp2_with fail
    go_ret
    exact ⟨rfl, ((HB0.out.trans (HB1.out.mono (by omega))).trans b2.out).trans (HB3.out.mono (by omega))⟩

set_option maxHeartbeats 1000000 in
set_option maxRecDepth 100000 in
theorem numbers_nofit4 (n : Int) (w : World) (hi : I64 n) (hf : n < 0 ∨ 4294967296 ≤ n) :
    Calls Try.prog 7 #[.int .i64 n, .int .i64 4] w fun en w' => en = .returned (.bool true) ∧ Below w.heap.size w w' := by
  have hfb : fitB (4 : Nat) n = false := by simp [fitB]; omega
  have e2 : wNumsA 4 [n] (0, []) = (10, []) := by simp [wNumsA, sized, wNums, wNum1]; simpa using hfb
  have HI := Lib.hid hi
  have HE := Lib.hid e2
  clear hi e2 hfb
  rcases hf with hf | hf
  all_goals
    go_enter Try.func7, Try.ntmps7
    go_wp2_with fail
    refine (awake_any _).mono ?_
    rintro en w0 ⟨rfl, hb0⟩
    have HB0 := Lib.hid hb0
    have hl0 : w.heap.size ≤ w0.heap.size := hb0.size
    clear hb0
    go_wp2_with fail
    refine (wnew_any _).mono ?_
    rintro en w1 ⟨rfl, hw1, hb1, hz1⟩
    have hz1' : w0.heap.size < w1.heap.size := by omega
    have C2 := wnum_any w1.heap.size w0.heap.size (0, []) none 0 4 _ 1 1 [n] _ (hw1.alloc (.cells #[.int .i64 n] 3)) (by intro x hx; simp at hx; subst hx; exact HI.out)
      ((src_int w1 n).weak fun k hk => (by subst hk; exact ⟨by omega, by simp [row]⟩)) (by simp)
    rw [HE.out] at C2
    have HC2 := Lib.hid C2
    have HB1 := Lib.hid hb1
    clear hw1 hb1 hz1 C2
    go_wp2_with fail
    refine HC2.out.mono ?_
    rintro en w2 ⟨rfl, A2, c2, hw2, hs2⟩
    have hl2 : w1.heap.size < w2.heap.size := by have := hs2.size; simp at this; omega
    have HC3 := Lib.hid (bytes_err _ _ _ _ _ _ w2 hw2 rfl)
    have HS2 := Lib.hid hs2
    clear hw2 hs2
    go_wp2_with fail
    refine HC3.out.mono ?_
    rintro en w3 ⟨rfl, hb3⟩
    have HB3 := Lib.hid hb3
    clear hb3
    have b2 : Hid (Below w.heap.size w1 w2) := ((Below.refl _ _).alloc (by omega) _).trans (HS2.out.to_below (by omega) (by intro k hk; cases hk) (by simp; omega))
  · go_wp2_with fail
    go_ret
    exact ⟨rfl, ((HB0.out.trans (HB1.out.mono (by omega))).trans b2.out).trans (HB3.out.mono (by omega))⟩
  · have hq1 : (n / 4294967296 != 0) = true := by rw [bne_iff_ne]; omega
    have hq2 : (n / 4294967296 == 0) = false := by rw [beq_eq_false_iff_ne]; omega
    have hn0 : 0 ≤ n := by omega
    go_wp2_with fail
    go_ret
    exact ⟨rfl, ((HB0.out.trans (HB1.out.mono (by omega))).trans b2.out).trans (HB3.out.mono (by omega))⟩

set_option maxHeartbeats 2000000 in
set_option maxRecDepth 100000 in
theorem numbers_fit1 (n : Int) (w : World) (hi : I64 n) (h0 : 0 ≤ n) (h1 : n < 256) :
    Calls Try.prog 7 #[.int .i64 n, .int .i64 1] w fun en w' => en = .returned (.bool true) ∧ Below w.heap.size w w' := by
  have hfb : fitB (1 : Nat) n = true := by simp [fitB]; omega
  have hbk := rNum_back n 1 [] (by decide) hfb hi
  rw [List.append_nil] at hbk
  have e2 : wNumsA 1 [n] (0, []) = (0, digs n 1) := by
    have hfb' := hfb
    simp [wNumsA, sized, wNums, wNum1]
    simpa using hfb'
  have hq1 : (n / 256 != 0) = false := by rw [bne_eq_false_iff_eq]; omega
  have hq2 : (n / 256 == 0) = true := by rw [beq_iff_eq]; omega
  have HI := Lib.hid hi
  have HE := Lib.hid e2
  have HK := Lib.hid hbk
  have hdl := digs_len n 1
  have HD := Lib.hid hdl
  clear hi e2 hfb hbk hdl h1
  go_enter Try.func7, Try.ntmps7
  go_wp2_with fail
  refine (awake_any _).mono ?_
  rintro en w0 ⟨rfl, hb0⟩
  have HB0 := Lib.hid hb0
  have hl0 : w.heap.size ≤ w0.heap.size := hb0.size
  clear hb0
  go_wp2_with fail
  refine (wnew_any _).mono ?_
  rintro en w1 ⟨rfl, hw1, hb1, hz1⟩
  have hz1' : w0.heap.size < w1.heap.size := by omega
  have C2 := wnum_any w1.heap.size w0.heap.size (0, []) none 0 1 _ 1 1 [n] _ (hw1.alloc (.cells #[.int .i64 n] 3)) (by intro x hx; simp at hx; subst hx; exact HI.out)
    ((src_int w1 n).weak fun k hk => (by subst hk; exact ⟨by omega, by simp [row]⟩)) (by simp)
  rw [HE.out] at C2
  have HC2 := Lib.hid C2
  have HB1 := Lib.hid hb1
  clear hw1 hb1 hz1 C2
  go_wp2_with fail
  refine HC2.out.mono ?_
  rintro en w2 ⟨rfl, A2, c2, hw2, hs2⟩
  have hl2 : w1.heap.size < w2.heap.size := by have := hs2.size; simp at this; omega
  have hlen : (digs n 1).length ≤ 140737488355328 := by rw [HD.out]; omega
  have HC3 := Lib.hid (bytes_ok _ _ _ _ _ w2 hw2 hlen)
  have HS2 := Lib.hid hs2
  clear hw2 hs2 hlen
  go_wp2_with fail
  refine HC3.out.mono ?_
  rintro en w3 ⟨A3, c3, he3, hown3, hb3⟩
  rw [HD.out] at he3 hown3
  subst he3
  have HO := Lib.hid hown3
  have HSR := Lib.hid (Src.of_own hown3)
  have HB3 := Lib.hid hb3
  have hl3 : w2.heap.size ≤ w3.heap.size := hb3.size
  obtain ⟨g3, rfl⟩ : ∃ g3, A3 = some ⟨g3, 0, none⟩ := by
    obtain ⟨g3, cap, hv, _⟩ := hown3.form (by omega)
    injection hv with hv
    exact ⟨g3, hv⟩
  have hcell : ∀ k : Nat, k < 1 → w3.cell? ⟨g3, k, none⟩ = some (.int .u8 (n / 2 ^ (8 * k) % 256)) := by
    intro k hk
    rw [hown3.cellAt k (by omega), dig_val, cells_digs n 1 k hk]
  have HCE := Lib.hid hcell
  have hc3 := own_cap hown3
  have hc4 : 1 ≤ c3 := (Src.of_own hown3).cap
  clear hb3 hown3 hcell
  have b2 : Hid (Below w.heap.size w1 w2) := ((Below.refl _ _).alloc (by omega) _).trans (HS2.out.to_below (by omega) (by intro k hk; cases hk) (by simp; omega))
  go_wp2_with fail
  go_loopw [9] (fun i wr => ∃ k m : Nat, k ≤ 1 ∧ i = .int .i64 k ∧ wr = w3.drewN m) (fun i _ => 1 - (intOf i).toNat)
  case atStart => exact ⟨0, 0, by omega, rfl, rfl⟩
  case round =>
    obtain ⟨k, m, hk, rfl, rfl⟩ := hrel
    by_cases hlt : k < 1
    · have hcell := HCE.out k hlt
      go_wp2_with fail
      go_quiet (fail)
      go_wp2_with fail
      exact ⟨⟨k + 1, m + nq, by omega, by go_num, rfl⟩, by simp [intOf]; omega⟩
    · obtain rfl : k = 1 := by omega
      have HR := Lib.hid (rnew_any _ _ _ _ _ (w3.drewN m) (HSR.out.keep (w' := w3.drewN m) fun k _ _ => rfl) (by omega))
      go_wp2_with fail
      refine HR.out.mono ?_
      rintro en w4 ⟨g, A4, c4, rfl, hr4, hb4, hg4⟩
      have hg4' : w3.heap.size ≤ g := hg4
      have C4 := rnum_any _ g (0, digs n 1) A4 c4 1 w4 hr4
      have hk' := HK.out
      change rNum 1 (0, digs n 1) = _ at hk'
      rw [hk'] at C4
      have HC4 := Lib.hid C4
      have HB4 := Lib.hid hb4
      have hl4 : w3.heap.size ≤ w4.heap.size := hb4.size
      clear C4 hr4 hb4 hk'
      go_wp2_with fail
      refine HC4.out.mono ?_
      rintro en w5 ⟨rfl, his⟩
      have HB5 := Lib.hid (his.to_below (B := w.heap.size) (by omega) (by omega))
      obtain ⟨A5, c5, hr5, _⟩ := his
      have HC5 := Lib.hid (rend_any _ g (0, []) A5 c5 w5 hr5)
      clear hr5
      go_wp2_with fail
      refine HC5.out.mono ?_
      rintro en w6 ⟨rfl, rfl⟩
      go_wp2_with fail
      go_ret
      refine ⟨rfl, ?_⟩
      have b4 : Below w.heap.size (w3.drewN m) w4 := HB4.out.mono (by show w.heap.size ≤ w3.heap.size; omega)
      exact (((((HB0.out.trans (HB1.out.mono (by omega))).trans b2.out).trans (HB3.out.mono (by omega))).trans ⟨b4.os, b4.tape, b4.output, b4.size, b4.block⟩).trans HB5.out)

set_option maxHeartbeats 2000000 in
set_option maxRecDepth 100000 in
theorem numbers_fit2 (n : Int) (w : World) (hi : I64 n) (h0 : 0 ≤ n) (h1 : n < 65536) :
    Calls Try.prog 7 #[.int .i64 n, .int .i64 2] w fun en w' => en = .returned (.bool true) ∧ Below w.heap.size w w' := by
  have hfb : fitB (2 : Nat) n = true := by simp [fitB]; omega
  have hbk := rNum_back n 2 [] (by decide) hfb hi
  rw [List.append_nil] at hbk
  have e2 : wNumsA 2 [n] (0, []) = (0, digs n 2) := by
    have hfb' := hfb
    simp [wNumsA, sized, wNums, wNum1]
    simpa using hfb'
  have hq1 : (n / 65536 != 0) = false := by rw [bne_eq_false_iff_eq]; omega
  have hq2 : (n / 65536 == 0) = true := by rw [beq_iff_eq]; omega
  have HI := Lib.hid hi
  have HE := Lib.hid e2
  have HK := Lib.hid hbk
  have hdl := digs_len n 2
  have HD := Lib.hid hdl
  clear hi e2 hfb hbk hdl h1
  go_enter Try.func7, Try.ntmps7
  go_wp2_with fail
  refine (awake_any _).mono ?_
  rintro en w0 ⟨rfl, hb0⟩
  have HB0 := Lib.hid hb0
  have hl0 : w.heap.size ≤ w0.heap.size := hb0.size
  clear hb0
  go_wp2_with fail
  refine (wnew_any _).mono ?_
  rintro en w1 ⟨rfl, hw1, hb1, hz1⟩
  have hz1' : w0.heap.size < w1.heap.size := by omega
  have C2 := wnum_any w1.heap.size w0.heap.size (0, []) none 0 2 _ 1 1 [n] _ (hw1.alloc (.cells #[.int .i64 n] 3)) (by intro x hx; simp at hx; subst hx; exact HI.out)
    ((src_int w1 n).weak fun k hk => (by subst hk; exact ⟨by omega, by simp [row]⟩)) (by simp)
  rw [HE.out] at C2
  have HC2 := Lib.hid C2
  have HB1 := Lib.hid hb1
  clear hw1 hb1 hz1 C2
  go_wp2_with fail
  refine HC2.out.mono ?_
  rintro en w2 ⟨rfl, A2, c2, hw2, hs2⟩
  have hl2 : w1.heap.size < w2.heap.size := by have := hs2.size; simp at this; omega
  have hlen : (digs n 2).length ≤ 140737488355328 := by rw [HD.out]; omega
  have HC3 := Lib.hid (bytes_ok _ _ _ _ _ w2 hw2 hlen)
  have HS2 := Lib.hid hs2
  clear hw2 hs2 hlen
  go_wp2_with fail
  refine HC3.out.mono ?_
  rintro en w3 ⟨A3, c3, he3, hown3, hb3⟩
  rw [HD.out] at he3 hown3
  subst he3
  have HO := Lib.hid hown3
  have HSR := Lib.hid (Src.of_own hown3)
  have HB3 := Lib.hid hb3
  have hl3 : w2.heap.size ≤ w3.heap.size := hb3.size
  obtain ⟨g3, rfl⟩ : ∃ g3, A3 = some ⟨g3, 0, none⟩ := by
    obtain ⟨g3, cap, hv, _⟩ := hown3.form (by omega)
    injection hv with hv
    exact ⟨g3, hv⟩
  have hcell : ∀ k : Nat, k < 2 → w3.cell? ⟨g3, k, none⟩ = some (.int .u8 (n / 2 ^ (8 * k) % 256)) := by
    intro k hk
    rw [hown3.cellAt k (by omega), dig_val, cells_digs n 2 k hk]
  have HCE := Lib.hid hcell
  have hc3 := own_cap hown3
  have hc4 : 2 ≤ c3 := (Src.of_own hown3).cap
  clear hb3 hown3 hcell
  have b2 : Hid (Below w.heap.size w1 w2) := ((Below.refl _ _).alloc (by omega) _).trans (HS2.out.to_below (by omega) (by intro k hk; cases hk) (by simp; omega))
  go_wp2_with fail
  go_loopw [9] (fun i wr => ∃ k m : Nat, k ≤ 2 ∧ i = .int .i64 k ∧ wr = w3.drewN m) (fun i _ => 2 - (intOf i).toNat)
  case atStart => exact ⟨0, 0, by omega, rfl, rfl⟩
  case round =>
    obtain ⟨k, m, hk, rfl, rfl⟩ := hrel
    by_cases hlt : k < 2
    · have hcell := HCE.out k hlt
      go_wp2_with fail
      go_quiet (fail)
      go_wp2_with fail
      exact ⟨⟨k + 1, m + nq, by omega, by go_num, rfl⟩, by simp [intOf]; omega⟩
    · obtain rfl : k = 2 := by omega
      have HR := Lib.hid (rnew_any _ _ _ _ _ (w3.drewN m) (HSR.out.keep (w' := w3.drewN m) fun k _ _ => rfl) (by omega))
      go_wp2_with fail
      refine HR.out.mono ?_
      rintro en w4 ⟨g, A4, c4, rfl, hr4, hb4, hg4⟩
      have hg4' : w3.heap.size ≤ g := hg4
      have C4 := rnum_any _ g (0, digs n 2) A4 c4 2 w4 hr4
      have hk' := HK.out
      change rNum 2 (0, digs n 2) = _ at hk'
      rw [hk'] at C4
      have HC4 := Lib.hid C4
      have HB4 := Lib.hid hb4
      have hl4 : w3.heap.size ≤ w4.heap.size := hb4.size
      clear C4 hr4 hb4 hk'
      go_wp2_with fail
      refine HC4.out.mono ?_
      rintro en w5 ⟨rfl, his⟩
      have HB5 := Lib.hid (his.to_below (B := w.heap.size) (by omega) (by omega))
      obtain ⟨A5, c5, hr5, _⟩ := his
      have HC5 := Lib.hid (rend_any _ g (0, []) A5 c5 w5 hr5)
      clear hr5
      go_wp2_with fail
      refine HC5.out.mono ?_
      rintro en w6 ⟨rfl, rfl⟩
      go_wp2_with fail
      go_ret
      refine ⟨rfl, ?_⟩
      have b4 : Below w.heap.size (w3.drewN m) w4 := HB4.out.mono (by show w.heap.size ≤ w3.heap.size; omega)
      exact (((((HB0.out.trans (HB1.out.mono (by omega))).trans b2.out).trans (HB3.out.mono (by omega))).trans ⟨b4.os, b4.tape, b4.output, b4.size, b4.block⟩).trans HB5.out)

set_option maxHeartbeats 2000000 in
set_option maxRecDepth 100000 in
theorem numbers_fit4 (n : Int) (w : World) (hi : I64 n) (h0 : 0 ≤ n) (h1 : n < 4294967296) :
    Calls Try.prog 7 #[.int .i64 n, .int .i64 4] w fun en w' => en = .returned (.bool true) ∧ Below w.heap.size w w' := by
  have hfb : fitB (4 : Nat) n = true := by simp [fitB]; omega
  have hbk := rNum_back n 4 [] (by decide) hfb hi
  rw [List.append_nil] at hbk
  have e2 : wNumsA 4 [n] (0, []) = (0, digs n 4) := by
    have hfb' := hfb
    simp [wNumsA, sized, wNums, wNum1]
    simpa using hfb'
  have hq1 : (n / 4294967296 != 0) = false := by rw [bne_eq_false_iff_eq]; omega
  have hq2 : (n / 4294967296 == 0) = true := by rw [beq_iff_eq]; omega
  have HI := Lib.hid hi
  have HE := Lib.hid e2
  have HK := Lib.hid hbk
  have hdl := digs_len n 4
  have HD := Lib.hid hdl
  clear hi e2 hfb hbk hdl h1
  go_enter Try.func7, Try.ntmps7
  go_wp2_with fail
  refine (awake_any _).mono ?_
  rintro en w0 ⟨rfl, hb0⟩
  have HB0 := Lib.hid hb0
  have hl0 : w.heap.size ≤ w0.heap.size := hb0.size
  clear hb0
  go_wp2_with fail
  refine (wnew_any _).mono ?_
  rintro en w1 ⟨rfl, hw1, hb1, hz1⟩
  have hz1' : w0.heap.size < w1.heap.size := by omega
  have C2 := wnum_any w1.heap.size w0.heap.size (0, []) none 0 4 _ 1 1 [n] _ (hw1.alloc (.cells #[.int .i64 n] 3)) (by intro x hx; simp at hx; subst hx; exact HI.out)
    ((src_int w1 n).weak fun k hk => (by subst hk; exact ⟨by omega, by simp [row]⟩)) (by simp)
  rw [HE.out] at C2
  have HC2 := Lib.hid C2
  have HB1 := Lib.hid hb1
  clear hw1 hb1 hz1 C2
  go_wp2_with fail
  refine HC2.out.mono ?_
  rintro en w2 ⟨rfl, A2, c2, hw2, hs2⟩
  have hl2 : w1.heap.size < w2.heap.size := by have := hs2.size; simp at this; omega
  have hlen : (digs n 4).length ≤ 140737488355328 := by rw [HD.out]; omega
  have HC3 := Lib.hid (bytes_ok _ _ _ _ _ w2 hw2 hlen)
  have HS2 := Lib.hid hs2
  clear hw2 hs2 hlen
  go_wp2_with fail
  refine HC3.out.mono ?_
  rintro en w3 ⟨A3, c3, he3, hown3, hb3⟩
  rw [HD.out] at he3 hown3
  subst he3
  have HO := Lib.hid hown3
  have HSR := Lib.hid (Src.of_own hown3)
  have HB3 := Lib.hid hb3
  have hl3 : w2.heap.size ≤ w3.heap.size := hb3.size
  obtain ⟨g3, rfl⟩ : ∃ g3, A3 = some ⟨g3, 0, none⟩ := by
    obtain ⟨g3, cap, hv, _⟩ := hown3.form (by omega)
    injection hv with hv
    exact ⟨g3, hv⟩
  have hcell : ∀ k : Nat, k < 4 → w3.cell? ⟨g3, k, none⟩ = some (.int .u8 (n / 2 ^ (8 * k) % 256)) := by
    intro k hk
    rw [hown3.cellAt k (by omega), dig_val, cells_digs n 4 k hk]
  have HCE := Lib.hid hcell
  have hc3 := own_cap hown3
  have hc4 : 4 ≤ c3 := (Src.of_own hown3).cap
  clear hb3 hown3 hcell
  have b2 : Hid (Below w.heap.size w1 w2) := ((Below.refl _ _).alloc (by omega) _).trans (HS2.out.to_below (by omega) (by intro k hk; cases hk) (by simp; omega))
  go_wp2_with fail
  go_loopw [9] (fun i wr => ∃ k m : Nat, k ≤ 4 ∧ i = .int .i64 k ∧ wr = w3.drewN m) (fun i _ => 4 - (intOf i).toNat)
  case atStart => exact ⟨0, 0, by omega, rfl, rfl⟩
  case round =>
    obtain ⟨k, m, hk, rfl, rfl⟩ := hrel
    by_cases hlt : k < 4
    · have hcell := HCE.out k hlt
      go_wp2_with fail
      go_quiet (fail)
      go_wp2_with fail
      exact ⟨⟨k + 1, m + nq, by omega, by go_num, rfl⟩, by simp [intOf]; omega⟩
    · obtain rfl : k = 4 := by omega
      have HR := Lib.hid (rnew_any _ _ _ _ _ (w3.drewN m) (HSR.out.keep (w' := w3.drewN m) fun k _ _ => rfl) (by omega))
      go_wp2_with fail
      refine HR.out.mono ?_
      rintro en w4 ⟨g, A4, c4, rfl, hr4, hb4, hg4⟩
      have hg4' : w3.heap.size ≤ g := hg4
      have C4 := rnum_any _ g (0, digs n 4) A4 c4 4 w4 hr4
      have hk' := HK.out
      change rNum 4 (0, digs n 4) = _ at hk'
      rw [hk'] at C4
      have HC4 := Lib.hid C4
      have HB4 := Lib.hid hb4
      have hl4 : w3.heap.size ≤ w4.heap.size := hb4.size
      clear C4 hr4 hb4 hk'
      go_wp2_with fail
      refine HC4.out.mono ?_
      rintro en w5 ⟨rfl, his⟩
      have HB5 := Lib.hid (his.to_below (B := w.heap.size) (by omega) (by omega))
      obtain ⟨A5, c5, hr5, _⟩ := his
      have HC5 := Lib.hid (rend_any _ g (0, []) A5 c5 w5 hr5)
      clear hr5
      go_wp2_with fail
      refine HC5.out.mono ?_
      rintro en w6 ⟨rfl, rfl⟩
      go_wp2_with fail
      go_ret
      refine ⟨rfl, ?_⟩
      have b4 : Below w.heap.size (w3.drewN m) w4 := HB4.out.mono (by show w.heap.size ≤ w3.heap.size; omega)
      exact (((((HB0.out.trans (HB1.out.mono (by omega))).trans b2.out).trans (HB3.out.mono (by omega))).trans ⟨b4.os, b4.tape, b4.output, b4.size, b4.block⟩).trans HB5.out)

set_option maxHeartbeats 2000000 in
set_option maxRecDepth 100000 in
theorem numbers_fit8 (n : Int) (w : World) (hi : I64 n)  :
    Calls Try.prog 7 #[.int .i64 n, .int .i64 8] w fun en w' => en = .returned (.bool true) ∧ Below w.heap.size w w' := by
  have hfb : fitB (8 : Nat) n = true := by simp [fitB]
  have hbk := rNum_back n 8 [] (by decide) hfb hi
  rw [List.append_nil] at hbk
  have e2 : wNumsA 8 [n] (0, []) = (0, digs n 8) := by
    have hfb' := hfb
    simp [wNumsA, sized, wNums, wNum1]
    simpa using hfb'
  have HI := Lib.hid hi
  have HE := Lib.hid e2
  have HK := Lib.hid hbk
  have hdl := digs_len n 8
  have HD := Lib.hid hdl
  clear hi e2 hfb hbk hdl
  go_enter Try.func7, Try.ntmps7
  go_wp2_with fail
  refine (awake_any _).mono ?_
  rintro en w0 ⟨rfl, hb0⟩
  have HB0 := Lib.hid hb0
  have hl0 : w.heap.size ≤ w0.heap.size := hb0.size
  clear hb0
  go_wp2_with fail
  refine (wnew_any _).mono ?_
  rintro en w1 ⟨rfl, hw1, hb1, hz1⟩
  have hz1' : w0.heap.size < w1.heap.size := by omega
  have C2 := wnum_any w1.heap.size w0.heap.size (0, []) none 0 8 _ 1 1 [n] _ (hw1.alloc (.cells #[.int .i64 n] 3)) (by intro x hx; simp at hx; subst hx; exact HI.out)
    ((src_int w1 n).weak fun k hk => (by subst hk; exact ⟨by omega, by simp [row]⟩)) (by simp)
  rw [HE.out] at C2
  have HC2 := Lib.hid C2
  have HB1 := Lib.hid hb1
  clear hw1 hb1 hz1 C2
  go_wp2_with fail
  refine HC2.out.mono ?_
  rintro en w2 ⟨rfl, A2, c2, hw2, hs2⟩
  have hl2 : w1.heap.size < w2.heap.size := by have := hs2.size; simp at this; omega
  have hlen : (digs n 8).length ≤ 140737488355328 := by rw [HD.out]; omega
  have HC3 := Lib.hid (bytes_ok _ _ _ _ _ w2 hw2 hlen)
  have HS2 := Lib.hid hs2
  clear hw2 hs2 hlen
  go_wp2_with fail
  refine HC3.out.mono ?_
  rintro en w3 ⟨A3, c3, he3, hown3, hb3⟩
  rw [HD.out] at he3 hown3
  subst he3
  have HO := Lib.hid hown3
  have HSR := Lib.hid (Src.of_own hown3)
  have HB3 := Lib.hid hb3
  have hl3 : w2.heap.size ≤ w3.heap.size := hb3.size
  obtain ⟨g3, rfl⟩ : ∃ g3, A3 = some ⟨g3, 0, none⟩ := by
    obtain ⟨g3, cap, hv, _⟩ := hown3.form (by omega)
    injection hv with hv
    exact ⟨g3, hv⟩
  have hcell : ∀ k : Nat, k < 8 → w3.cell? ⟨g3, k, none⟩ = some (.int .u8 (n / 2 ^ (8 * k) % 256)) := by
    intro k hk
    rw [hown3.cellAt k (by omega), dig_val, cells_digs n 8 k hk]
  have HCE := Lib.hid hcell
  have hc3 := own_cap hown3
  have hc4 : 8 ≤ c3 := (Src.of_own hown3).cap
  clear hb3 hown3 hcell
  have b2 : Hid (Below w.heap.size w1 w2) := ((Below.refl _ _).alloc (by omega) _).trans (HS2.out.to_below (by omega) (by intro k hk; cases hk) (by simp; omega))
  go_wp2_with fail
  go_loopw [9] (fun i wr => ∃ k m : Nat, k ≤ 8 ∧ i = .int .i64 k ∧ wr = w3.drewN m) (fun i _ => 8 - (intOf i).toNat)
  case atStart => exact ⟨0, 0, by omega, rfl, rfl⟩
  case round =>
    obtain ⟨k, m, hk, rfl, rfl⟩ := hrel
    by_cases hlt : k < 8
    · have hcell := HCE.out k hlt
      go_wp2_with fail
      go_quiet (fail)
      go_wp2_with fail
      exact ⟨⟨k + 1, m + nq, by omega, by go_num, rfl⟩, by simp [intOf]; omega⟩
    · obtain rfl : k = 8 := by omega
      have HR := Lib.hid (rnew_any _ _ _ _ _ (w3.drewN m) (HSR.out.keep (w' := w3.drewN m) fun k _ _ => rfl) (by omega))
      go_wp2_with fail
      refine HR.out.mono ?_
      rintro en w4 ⟨g, A4, c4, rfl, hr4, hb4, hg4⟩
      have hg4' : w3.heap.size ≤ g := hg4
      have C4 := rnum_any _ g (0, digs n 8) A4 c4 8 w4 hr4
      have hk' := HK.out
      change rNum 8 (0, digs n 8) = _ at hk'
      rw [hk'] at C4
      have HC4 := Lib.hid C4
      have HB4 := Lib.hid hb4
      have hl4 : w3.heap.size ≤ w4.heap.size := hb4.size
      clear C4 hr4 hb4 hk'
      go_wp2_with fail
      refine HC4.out.mono ?_
      rintro en w5 ⟨rfl, his⟩
      have HB5 := Lib.hid (his.to_below (B := w.heap.size) (by omega) (by omega))
      obtain ⟨A5, c5, hr5, _⟩ := his
      have HC5 := Lib.hid (rend_any _ g (0, []) A5 c5 w5 hr5)
      clear hr5
      go_wp2_with fail
      refine HC5.out.mono ?_
      rintro en w6 ⟨rfl, rfl⟩
      go_wp2_with fail
      go_ret
      refine ⟨rfl, ?_⟩
      have b4 : Below w.heap.size (w3.drewN m) w4 := HB4.out.mono (by show w.heap.size ≤ w3.heap.size; omega)
      exact (((((HB0.out.trans (HB1.out.mono (by omega))).trans b2.out).trans (HB3.out.mono (by omega))).trans ⟨b4.os, b4.tape, b4.output, b4.size, b4.block⟩).trans HB5.out)
end Go.Proofs.Ytkgkgagnpmhoiaa
