/-
  A word's bytes, read as a number; the law of words, walked.
-/
import Derived.Test.YtpgmapcpffefnaaAg
namespace Go.Proofs.Ytpgmapcpffefnaa
open Go.RowKit

theorem valN_digs (n : Int) : ∀ k, k ≤ 8 → (valN (digs n k) : Int) = n % 2 ^ (8 * k)
  | 0, _ => by simp [digs, valN]
  | k + 1, h => by
    rw [digs_succ, valN_snoc, digs_len]
    have ih := valN_digs n k (by omega)
    have hd := dig_val n k
    rw [Int.natCast_add, Int.natCast_mul, ih, ← hd]
    have hc : k = 0 ∨ k = 1 ∨ k = 2 ∨ k = 3 ∨ k = 4 ∨ k = 5 ∨ k = 6 ∨ k = 7 := by omega
    rcases hc with rfl | rfl | rfl | rfl | rfl | rfl | rfl | rfl <;> simp <;> omega
theorem val_digs (n : Int) (hn : I64 n) : val (digs n 8) = n := by
  unfold val
  rw [valN_digs n 8 (by omega)]
  have := hn.1
  have := hn.2
  unfold wrap64
  simp
  omega
theorem I64.lit {n : Int} (h : -9223372036854775808 ≤ n ∧ n ≤ 9223372036854775807) : I64 n := h
/-- One region, nothing in it: who may write eight bytes at a. -/
theorem word_in {a : Int} (h : 8192 ≤ a ∧ a ≤ 8248) (f : Nat → UInt8) (k need : Int) (hk : bits .and .i64 k need = need) : goesS [⟨8192, 64, k, f⟩] a 8 need = 0 ∧ holdS [⟨8192, 64, k, f⟩] a 8 = some ⟨8192, 64, k, f⟩ := by
  have hh : holdS [⟨8192, 64, k, f⟩] a 8 = some ⟨8192, 64, k, f⟩ := by
    unfold holdS
    rw [List.find?_cons_of_pos]
    unfold inS
    simp
    omega
  refine ⟨?_, hh⟩
  unfold goesS
  rw [if_neg (by omega), hh]
  exact if_pos hk
theorem word_out {a : Int} (h : a < 8192 ∨ 8248 < a) (f : Nat → UInt8) (k need : Int) : goesS [⟨8192, 64, k, f⟩] a 8 need = 50 := by
  have hh : holdS [⟨8192, 64, k, f⟩] a 8 = none := by
    unfold holdS
    rw [List.find?_cons_of_neg, List.find?_nil]
    unfold inS
    simp
    omega
  unfold goesS
  rw [if_neg (by omega), hh]
theorem word_put {a n : Int} (h : 8192 ≤ a ∧ a ≤ 8248) : storeS [newS 8192 64 3] a (digs n 8) 2 = (0, [⟨8192, 64, 3, over (fun _ => 0) (a - 8192).toNat (digs n 8)⟩]) := by
  unfold storeS
  have h0 : goesS [newS 8192 64 3] a ((8 : Nat) : Int) 2 = 0 := (word_in h _ 3 2 rfl).1
  rw [digs_len, h0, if_pos rfl]
  congr 1
  unfold putS
  rw [List.map_cons, List.map_nil, if_pos]
  unfold inS
  rw [digs_len]
  simp
  omega
theorem word_got {a n : Int} (h : 8192 ≤ a ∧ a ≤ 8248) : gotS [⟨8192, 64, 3, over (fun _ => 0) (a - 8192).toNat (digs n 8)⟩] a 8 = digs n 8 := by
  unfold gotS
  rw [(word_in h _ 3 1 rfl).2]
  apply List.ext_getElem
  · simp [digs_len]
  · intro j h1 h2
    rw [digs_len] at h2
    simp only [List.getElem_map, List.getElem_range]
    unfold over
    rw [if_pos (by rw [digs_len]; omega)]
    rw [List.getD_eq_getElem?_getD, show (a - 8192).toNat + j - (a - 8192).toNat = j by omega, List.getElem?_eq_getElem (by rw [digs_len]; exact h2)]
    rfl
set_option maxRecDepth 100000 in
set_option maxHeartbeats 2000000 in
theorem words_any (a n : Int) (ha : I64 a) (hn : I64 n) (w : World) : Calls Try.prog 8 #[.int .i64 a, .int .i64 n] w fun e w' => e = .returned (.bool true) ∧ Below w.heap.size w w' := by
  have HA := Lib.hid ha
  have HNN := Lib.hid hn
  clear ha hn
  go_enter Try.func8, Try.ntmps8
  go_wp2_with fail
  refine (awake_any w).mono ?_
  rintro e w1 ⟨rfl, hb⟩
  have HN := Lib.hid (New_w w w1 hb)
  clear hb
  go_wp2_with fail
  refine HN.out.mono ?_
  rintro e w2 ⟨rfl, h2⟩
  have C1 := Lib.hid (h2.act fun F => MapAt_s 8192 64 3)
  rw [show mapAtS [] 8192 64 3 = (0, [newS 8192 64 3]) from rfl] at C1
  clear HN h2
  go_wp2_with fail
  refine C1.out.mono ?_
  rintro e w3 ⟨rfl, h3⟩
  have C2 := Lib.hid (h3.act fun F => SetWord_s n HA.out)
  clear C1 h3
  by_cases hin : 8192 ≤ a ∧ a ≤ 8248
  · obtain ⟨i1, i2⟩ := hin
    rw [word_put ⟨i1, i2⟩] at C2
    go_wp2_with fail
    refine C2.out.mono ?_
    rintro e w4 ⟨rfl, h4⟩
    have C3 := Lib.hid (h4.read fun F => Read_s (a := a) 8 HA.out)
    clear C2 h4
    go_wp2_with fail
    refine C3.out.mono ?_
    rintro e w5 ⟨⟨_, A, l, c, rfl, hl, ho⟩, h5⟩
    rw [if_pos (word_in ⟨i1, i2⟩ _ 3 1 rfl).1, word_got ⟨i1, i2⟩] at hl ho
    rw [digs_len] at hl
    subst hl
    rw [(word_in ⟨i1, i2⟩ _ 3 1 rfl).1]
    have HS := Lib.hid (Src.of_own ho).lt
    have HW := Lib.hid h5
    clear C3 h5 ho
    go_wp2_with fail
    go_loopw [10] (fun t10 wr => ∃ k : Nat, k ≤ 8 ∧ t10 = .int .i64 k ∧ Below w5.heap.size w5 wr) (fun t10 _ => 8 - (intOf t10).toNat)
    case atStart => exact ⟨0, by omega, rfl, Below.refl _ _⟩
    case round =>
      obtain ⟨k, hk, rfl, hb⟩ := hrel
      have HB := Lib.hid hb
      clear hb
      by_cases hlt : k < 8
      · obtain ⟨ad, rfl⟩ : ∃ ad, A = some ad := by
          cases A with
          | none => have := (HS.out.nil rfl).1; omega
          | some ad => exact ⟨ad, rfl⟩
        have hkl : k < (digs n 8).length := by rw [digs_len]; exact hlt
        have hcell : wr.cell? (ad.add k) = some (.int .u8 (n / 2 ^ (8 * k) % 256)) := by
          rw [dig_val]
          refine (HS.out.below HB.out (fun _ h => h)).at_ ad rfl k _ ?_
          simp [cells, digs, hlt]
        have hcap := HS.out.cap
        clear hkl
        go_wp2_with fail
        go_quiet (fail)
        go_wp2_with fail
        go_roundw
        case rel => exact ⟨k + 1, by omega, by go_num, below_drewN HB.out _⟩
        case measure => simp [intOf]; omega
      · obtain rfl : k = 8 := by omega
        have h6 := HW.out.quiet HB.out
        have C4 := Lib.hid (h6.ask fun F => Word_s HA.out)
        rw [show wordS [⟨8192, 64, 3, over (fun _ => 0) (a - 8192).toNat (digs n 8)⟩] a 1 = n by
          unfold wordS
          rw [if_pos (word_in ⟨i1, i2⟩ _ 3 1 rfl).1, word_got ⟨i1, i2⟩, val_digs n HNN.out], (word_in ⟨i1, i2⟩ _ 3 1 rfl).1] at C4
        clear h6
        go_wp2_with fail
        refine C4.out.mono ?_
        rintro e w6 ⟨rfl, h6⟩
        have HE := Lib.hid h6.1
        clear h6 C4
        go_wp2_with fail
        first | go_ret | skip
        exact ⟨by simp, HE.out⟩
  · have hin2 : a < 8192 ∨ 8248 < a := by omega
    have hst : storeS [newS 8192 64 3] a (digs n 8) 2 = (50, [newS 8192 64 3]) := by
      unfold storeS
      have h0 : goesS [newS 8192 64 3] a ((8 : Nat) : Int) 2 = 50 := word_out hin2 _ 3 2
      rw [digs_len, h0, if_neg (by omega)]
    rw [hst] at C2
    clear hst hin
    rcases hin2 with h | h
    all_goals
      go_wp2_with fail
      refine C2.out.mono ?_
      rintro e w4 ⟨rfl, h4⟩
      have HE := Lib.hid h4.1
      clear C2 h4
      go_wp2_with fail
      first | go_ret | skip
      first | exact ⟨rfl, HE.out⟩ | exact ⟨by simp, HE.out⟩
end Go.Proofs.Ytpgmapcpffefnaa
