/- A part of the proof. -/
import Derived.Test.YtfljignkjmabpaaGreatZOp
import Derived.Laws.Strings3
import Derived.IntWalk
set_option linter.unusedSimpArgs false
set_option linter.unusedVariables false
namespace Go.Proofs.YtfljignkjmabpaaGreat
set_option maxRecDepth 100000
open Go.RowKit
abbrev Str := List UInt8
abbrev str (l : Str) : Value := .string ⟨l.toArray⟩
def nameC (b : UInt8) : Bool := (decide (97 ≤ b.toNat) && decide (b.toNat ≤ 122)) || (decide (65 ≤ b.toNat) && decide (b.toNat ≤ 90)) || (decide (48 ≤ b.toNat) && decide (b.toNat ≤ 57)) || b.toNat == 95 || b.toNat == 46
def nameB (l : Str) : Bool := !l.isEmpty && decide (l.length ≤ 64) && l.all nameC
theorem ret_bool {x y : Bool} (h : (x = true) ↔ (y = true)) : Ending.returned (Value.bool x) = Ending.returned (Value.bool y) := by
 rw [Bool.eq_iff_iff.2 h]
theorem isNameByte_any (b : UInt8) (w : World) : Calls Tryz.prog 162 #[.int .u8 b.toNat] w fun e w' => e = .returned (.bool (nameC b)) ∧ w = w' := by
 have hb := b.toNat_lt
 go_enter Tryz.func162, Tryz.ntmps162
 go_wp2
 all_goals
  go_ret
  refine ⟨ret_bool ?_, rfl⟩
  simp only [nameC, Bool.or_eq_true, Bool.and_eq_true, decide_eq_true_eq, beq_iff_eq, true_iff]
  omega
theorem nameC_true {b : UInt8} (h : nameC b = true) : (97 ≤ b.toNat ∧ b.toNat ≤ 122) ∨ (65 ≤ b.toNat ∧ b.toNat ≤ 90) ∨ (48 ≤ b.toNat ∧ b.toNat ≤ 57) ∨ b.toNat = 95 ∨ b.toNat = 46 := by
 simp only [nameC, Bool.or_eq_true, Bool.and_eq_true, decide_eq_true_eq, beq_iff_eq] at h
 omega
theorem nameC_false {b : UInt8} (h : nameC b = false) : (b.toNat < 97 ∨ 122 < b.toNat) ∧ (b.toNat < 65 ∨ 90 < b.toNat) ∧ (b.toNat < 48 ∨ 57 < b.toNat) ∧ b.toNat ≠ 95 ∧ b.toNat ≠ 46 := by
 simp only [nameC, Bool.or_eq_false_iff, Bool.and_eq_false_iff, decide_eq_false_iff_not, beq_eq_false_iff_ne] at h
 omega
theorem all_take {l : Str} {k : Nat} (hk : k < l.length) (h : (l.take k).all nameC = true) : (l.take (k + 1)).all nameC = nameC l[k] := by
 rw [List.take_succ_eq_append_getElem hk, List.all_append, h]
 simp
theorem all_no {l : Str} {k : Nat} (hk : k < l.length) (h : nameC l[k] = false) : l.all nameC = false := by
 rw [List.all_eq_false]
 exact ⟨l[k], List.getElem_mem hk, by simp [h]⟩
theorem nameB_no {l : Str} (h : l.all nameC = false) : nameB l = false := by simp [nameB, h]
theorem nameB_yes {l : Str} (h0 : l ≠ []) (h1 : l.length ≤ 64) (h : l.all nameC = true) : nameB l = true := by simp [nameB, h, h0, h1]
set_option maxHeartbeats 1000000 in
theorem name_any (l : Str) (w : World) :
  Calls Tryz.prog 99 #[str l] w fun e w' => e = .returned (.bool (nameB l)) ∧ w = w' := by
 by_cases h0 : l = []
 ·
  subst h0
  go_enter Tryz.func99, Tryz.ntmps99
  go_wp2_with fail
  go_ret
  exact ⟨rfl, rfl⟩
 have he : l.isEmpty = false := by simpa using h0
 by_cases h1 : l.length ≤ 64
 ·
  have H0 := hD h0
  have h2 : (l.length : Int) ≤ 64 := by omega
  go_enter Tryz.func99, Tryz.ntmps99
  go_wp2_with fail
  go_loop [13] (fun i => ∃ k : Nat, k ≤ l.length ∧ i = .int .i64 k ∧ (l.take k).all nameC = true) (fun i => l.length - (intOf i).toNat)
  case atStart => exact ⟨0, Nat.zero_le _, rfl, rfl⟩
  case round =>
   obtain ⟨k, hk, rfl, hal⟩ := hrel
   have HAL := hD hal
   clear hal
   by_cases hkl : k < l.length
   ·
    have HT := hD (all_take hkl HAL.out)
    have HC := hD (fun v => isNameByte_any l[k] v)
    have HN := hD (fun h => nameB_no (all_no hkl h))
    cases hv : nameC l[k]
    ·
     have HF := hD (HN.out hv)
     rw [hv] at HC
     clear hv
     go_wp2_with fail
     refine (HC.out _).mono ?_
     rintro e w' ⟨rfl, rfl⟩
     go_wp2_with fail
     go_ret
     exact ⟨ret_bool (by rw [HF.out]), rfl⟩
    ·
     rw [hv] at HT HC
     clear hv
     go_wp2_with fail
     refine (HC.out _).mono ?_
     rintro e w' ⟨rfl, rfl⟩
     go_wp2_with fail
     go_round
     case rel => exact ⟨k + 1, by omega, by go_num, HT.out⟩
     case measure => simp [intOf]; omega
   ·
    have hk' : k = l.length := by omega
    subst hk'
    have HB := hD (nameB_yes H0.out h1 (by have h := HAL.out; rwa [List.take_length] at h))
    go_wp2_with fail
    go_ret
    exact ⟨ret_bool (by rw [HB.out]), rfl⟩
 ·
  have h2 : 64 < (l.length : Int) := by omega
  have H1 := hD h1
  clear h1 h0
  go_enter Tryz.func99, Tryz.ntmps99
  go_wp2_with fail
  go_ret
  exact ⟨ret_bool (by simp [nameB, H1.out]), rfl⟩
set_option maxHeartbeats 4000000 in
theorem rname_any (l : Str) (w : World) (hs : l.length ≤ 9223372036854775807) :
  Calls Tryz.prog 141 #[str l] w fun e w' => e = .returned (.bool (nameB l)) ∧ w = w' := by
 by_cases h0 : l.length = 0
 ·
  have h0' : l = [] := List.eq_nil_of_length_eq_zero h0
  subst h0'
  go_enter Tryz.func141, Tryz.ntmps141
  go_wp2_with fail
  go_ret
  exact ⟨rfl, rfl⟩
 have h3 : 1 ≤ (l.length : Int) := by omega
 by_cases h1 : l.length ≤ 64
 ·
  have H0 := hD h0
  have h2 : (l.length : Int) ≤ 64 := by omega
  go_enter Tryz.func141, Tryz.ntmps141
  go_wp2_with fail
  go_loop [3] (fun i => ∃ k : Nat, k ≤ l.length ∧ i = .int .i64 k ∧ (l.take k).all nameC = true) (fun i => l.length - (intOf i).toNat)
  case atStart => exact ⟨0, Nat.zero_le _, rfl, rfl⟩
  case round =>
   obtain ⟨k, hk, rfl, hal⟩ := hrel
   have HAL := hD hal
   clear hal
   by_cases hkl : k < l.length
   ·
    have HT := hD (all_take hkl HAL.out)
    have HN := hD (fun h => nameB_no (all_no hkl h))
    have hx := (l[k]).toNat_lt
    cases hv : nameC l[k]
    ·
     have HF := hD (HN.out hv)
     have HV := hD (nameC_false (b := ({ data := l.toArray } : ByteArray)[k]'(by simpa [ByteArray.size] using hkl)) hv)
     clear hv HT HN
     go_wp2_with fail
     all_goals first
      | (exfalso; have := HV.out; simp only [bne_iff_ne, ne_eq, bne_eq_false_iff_eq] at *; omega)
      | (go_ret; exact ⟨ret_bool (by rw [HF.out]), rfl⟩)
    ·
     have HV := hD (nameC_true (b := ({ data := l.toArray } : ByteArray)[k]'(by simpa [ByteArray.size] using hkl)) hv)
     rw [hv] at HT
     clear hv HN
     go_wp2_with fail
     all_goals first
      | (exfalso; have := HV.out; simp only [bne_iff_ne, ne_eq, bne_eq_false_iff_eq] at *; omega)
      | (go_round; (case rel => exact ⟨k + 1, by omega, by go_num, HT.out⟩); (case measure => simp [intOf]; omega))
   ·
    have hk' : k = l.length := by omega
    subst hk'
    have HB := hD (nameB_yes (by intro e; rw [e] at H0; exact H0.out rfl) h1 (by have h := HAL.out; rwa [List.take_length] at h))
    go_wp2_with fail
    go_ret
    exact ⟨ret_bool (by rw [HB.out]), rfl⟩
 ·
  have h2 : 64 < (l.length : Int) := by omega
  have H1 := hD h1
  clear h1 h0
  go_enter Tryz.func141, Tryz.ntmps141
  go_wp2_with fail
  go_ret
  exact ⟨ret_bool (by simp [nameB, H1.out]), rfl⟩
end Go.Proofs.YtfljignkjmabpaaGreat
