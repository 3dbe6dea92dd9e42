/-
  Numbers of buckets and words; a name's bucket.
-/
import Derived.Test.YtpcgedngikpnoaaYF
import Derived.Test.YtpcgedngikpnoaaFF
import Derived.Test.YtpcgedngikpnoaaOp
import Derived.Deep.Cut
import Derived.Deep.RegionHeld3
import Derived.StillTailTactics
namespace Go.Proofs.Ytpcgedngikpnoaa
set_option maxRecDepth 100000
set_option linter.unusedSimpArgs false
set_option linter.unusedVariables false
open Go.RowKit

theorem ret_i {x y : Int} (h : x = y) : Ending.returned (.int .i64 x) = .returned (.int .i64 y) := by rw [h]
def cntT (n : Int) : Int := if n ≤ 4 then 1 else (n + 3) / 4
set_option maxRecDepth 100000 in
theorem qcount_any (n : Int) (hn : I64 n) (w : World) : Calls Try.prog 53 #[.int .i64 n] w fun e w' => e = .returned (.int .i64 (cntT n)) ∧ w = w' := by
  unfold I64 at hn
  have hc : cntT n = if n ≤ 4 then 1 else (n + 3) / 4 := rfl
  by_cases h1 : n < 1
  · have HM := Lib.hid (show 1 = cntT n by rw [hc]; split <;> omega)
    have hd : decide (n < 1) = true := decide_eq_true h1
    clear hc hn
    go_enter Try.func53, Try.ntmps53
    go_wp2_with fail
    go_ret
    exact ⟨ret_i HM.out, rfl⟩
  · have hd : decide (n < 1) = false := decide_eq_false h1
    have hq : n.tdiv 4 = n / 4 := Int.tdiv_eq_ediv_of_nonneg (by omega)
    have hr : n.tmod 4 = n % 4 := Int.tmod_eq_emod_of_nonneg (by omega)
    have hw1 : wrap64 (n / 4) = n / 4 := IntWalk.wrap64_in _ (by omega)
    have hw2 : wrap64 (n / 4 + 1) = n / 4 + 1 := IntWalk.wrap64_in _ (by omega)
    by_cases hr0 : n % 4 = 0
    · have hm : cntT n = n / 4 := by rw [hc]; split <;> omega
      have HM := Lib.hid hm
      clear hc hn hm
      go_enter Try.func53, Try.ntmps53
      go_wp2_with fail
      first | go_ret | skip
      exact ⟨ret_i HM.out.symm, rfl⟩
    · have HM := Lib.hid (show cntT n = n / 4 + 1 by rw [hc]; split <;> omega)
      have hd2 : (n % 4 != 0) = true := by simpa using hr0
      have hd3 : (n % 4 == 0) = false := by simpa using hr0
      clear hc hn
      go_enter Try.func53, Try.ntmps53
      go_wp2_with fail
      first | go_ret | skip
      exact ⟨ret_i HM.out.symm, rfl⟩
theorem cnt_pos (n : Int) : 1 ≤ cntT n := by unfold cntT; split <;> omega
/-- The bucket of a hash among so many. -/
def bkt (h : UInt32) (k : Nat) : Nat := h.toNat % k
theorem bkt_lt (h : UInt32) {k : Nat} (hk : 0 < k) : bkt h k < k := Nat.mod_lt _ hk
theorem bucket_any (h : UInt32) (k : Nat) (hk : 0 < k) (hk2 : k ≤ 9223372036854775807) (w : World) : Calls Try.prog 48 #[.int .u32 (h.toNat : Int), .int .i64 (k : Int)] w fun e w' => e = .returned (.int .i64 (bkt h k : Int)) ∧ w = w' := by
  have hlt := h.toNat_lt
  have hk0 : ((k : Int) == 0) = false := by simp; omega
  have HM := Lib.hid (show ((h.toNat : Int).tmod (k : Int)) = (bkt h k : Int) by rw [Int.tmod_eq_emod_of_nonneg (by omega)]; rfl)
  have hb := bkt_lt h hk
  have hw1 : wrap64 (h.toNat : Int) = (h.toNat : Int) := IntWalk.wrap64_in _ (by omega)
  have HW2 := Lib.hid (show wrap64 (bkt h k : Int) = (bkt h k : Int) from IntWalk.wrap64_in _ (by omega))
  have hm := HM.out
  have hw2 := HW2.out
  clear hlt hb
  generalize h.toNat = hn at *
  go_enter Try.func48, Try.ntmps48
  go_wp2_with fail
  first | go_ret | skip
  exact ⟨rfl, rfl⟩
/-- A name's hash. -/
def hashS (l : Str) : UInt32 := Siv.hashFrom 5381 l
abbrev hv (h : UInt32) : Value := .int .u32 (h.toNat : Int)
theorem thash_any (l : Str) (w : World) (hl : l.length ≤ 9223372036854775807) : Calls Try.prog 45 #[str l] w fun e w' => e = .returned (hv (hashS l)) ∧ w = w' :=
  Siv.hash_any ⟨l.toArray⟩ w (by simpa [ByteArray.size] using hl)
theorem qhash_any (l : Str) (w : World) (hl : l.length ≤ 9223372036854775807) : Calls Try.prog 26 #[str l] w fun e w' => e = .returned (hv (hashS l)) ∧ w = w' :=
  Siv.rhash_any ⟨l.toArray⟩ w (by simpa [ByteArray.size] using hl)
theorem home_any (l : Str) (k : Nat) (hk : 0 < k) (hk2 : k ≤ 9223372036854775807) (w : World) (hl : l.length ≤ 9223372036854775807) : Calls Try.prog 50 #[str l, .int .i64 (k : Int)] w fun e w' => e = .returned (.int .i64 (bkt (hashS l) k : Int)) ∧ w = w' := by
  have HH := Lib.hid (fun X => qhash_any l X hl)
  generalize hashS l = h at *
  have hlt := h.toNat_lt
  have hb := bkt_lt h hk
  have hw1 : IntKind.u64.wrap (h.toNat : Int) = (h.toNat : Int) := by rw [IntKind.wrap_u64]; omega
  have hw2 : IntKind.u64.wrap (k : Int) = (k : Int) := by rw [IntKind.wrap_u64]; omega
  have hk0 : ((k : Int) == 0) = false := by simp; omega
  have HM := Lib.hid (show ((h.toNat : Int).tmod (k : Int)) = (bkt h k : Int) by rw [Int.tmod_eq_emod_of_nonneg (by omega)]; rfl)
  have hm := HM.out
  have hw3 : wrap64 (bkt h k : Int) = (bkt h k : Int) := IntWalk.wrap64_in _ (by omega)
  have hw4 : IntKind.u64.wrap (bkt h k : Int) = (bkt h k : Int) := by rw [IntKind.wrap_u64]; omega
  clear hlt hb
  go_enter Try.func50, Try.ntmps50
  go_upto_region 99 with (go_at_call 26; refine (HH.out _).mono ?_; rintro e w' ⟨rfl, rfl⟩)
  first | go_ret | skip
  exact ⟨ret_i hw3, rfl⟩
def wcN (n : Nat) : Nat := if n ≤ 8 then 1 else if n ≤ 16 then 2 else if n ≤ 32 then 4 else if n ≤ 64 then 8 else if n ≤ 128 then 16 else if n ≤ 256 then 32 else 64
def WcAt (n k : Nat) : Prop := k = 1 ∨ (k = 2 ∧ 8 < n) ∨ (k = 4 ∧ 16 < n) ∨ (k = 8 ∧ 32 < n) ∨ (k = 16 ∧ 64 < n) ∨ (k = 32 ∧ 128 < n) ∨ (k = 64 ∧ 256 < n)
theorem WcAt.next {n k : Nat} (h : WcAt n k) (h1 : k < 64) (h2 : k * 8 < n) : WcAt n (k * 2) := by unfold WcAt at *; omega
theorem WcAt.last {n k : Nat} (h : WcAt n k) (h1 : ¬ (k < 64 ∧ k * 8 < n)) : wcN n = k := by
  unfold WcAt at h
  unfold wcN
  repeat' split
  all_goals omega
theorem WcAt.le {n k : Nat} (h : WcAt n k) : k ≤ 64 ∧ 1 ≤ k := by unfold WcAt at h; omega
theorem qwords_any (n : Nat) (w : World) : Calls Try.prog 54 #[.int .i64 (n : Int)] w fun e w' => e = .returned (.int .i64 (wcN n : Int)) ∧ w = w' := by
  go_enter Try.func54, Try.ntmps54
  go_upto_region 2 with (fail)
  go_loopw [3] (fun t wr => ∃ k : Nat, WcAt n k ∧ t = .int .i64 (k : Int) ∧ w = wr) (fun t _ => 64 - (intOf t).toNat)
  case atStart => exact ⟨1, .inl rfl, rfl, rfl⟩
  case round =>
    obtain ⟨k, hk, rfl, rfl⟩ := hrel
    have HK := Lib.hid hk
    obtain ⟨k1, k2⟩ := hk.le
    clear hk
    have hw : wrap64 (8 * (k : Int)) = 8 * (k : Int) := IntWalk.wrap64_in _ (by omega)
    have hw2 : wrap64 (2 * (k : Int)) = 2 * (k : Int) := IntWalk.wrap64_in _ (by omega)
    by_cases h2 : k * 8 < n
    · have d2 : 8 * (k : Int) < (n : Int) := by omega
      by_cases h1 : k < 64
      · have d1 : (k : Int) < 64 := by omega
        have HN := Lib.hid (HK.out.next h1 h2)
        clear h1 h2
        go_wp2_with fail
        go_roundw
        case rel => exact ⟨k * 2, HN.out, by simp; omega, trivial⟩
        case measure => simp [intOf]; omega
      · have d1 : ¬ (k : Int) < 64 := by omega
        have HN := Lib.hid (HK.out.last fun h => h1 h.1)
        clear h1 h2
        go_wp2_with fail
        first | go_ret | skip
        exact ⟨ret_i (by rw [HN.out]), rfl⟩
    · have d2 : ¬ 8 * (k : Int) < (n : Int) := by omega
      have HN := Lib.hid (HK.out.last fun h => h2 h.2)
      clear h2
      go_wp2_with fail
      first | go_ret | skip
      exact ⟨ret_i (by rw [HN.out]), rfl⟩
end Go.Proofs.Ytpcgedngikpnoaa
