/-
  Texts as lists of bytes, and the leaf functions of package files that read paths.
-/
import Derived.Test.YtkpmfahmhmdccaaDoorCom
import Derived.Laws.Strings3
import Derived.Lib.LastIndexByte
import Derived.IntWalk
namespace Go.Proofs.YtkpmfahmhmdccaaDoor.Fil
open Go.RowKit

abbrev Str := List UInt8
/-- A text. -/
abbrev str (l : Str) : Value := .string ⟨l.toArray⟩
theorem str_of (s : ByteArray) : Value.string s = str s.data.toList := by rw [str, Lib.mk_data]

def pbyte (c : UInt8) : Bool := (97 ≤ c.toNat && c.toNat ≤ 122) || (65 ≤ c.toNat && c.toNat ≤ 90) || (48 ≤ c.toNat && c.toNat ≤ 57) || c.toNat == 46 || c.toNat == 45 || c.toNat == 95
def part (l : Str) : Bool := decide (l.length ≤ 64) && l.all pbyte

theorem partByte_any (c : UInt8) (w : World) :
    Calls Tryd.prog 56 #[.int .u8 (c.toNat : Int)] w fun e w' => e = .returned (.bool (pbyte c)) ∧ w = w' := by
  have h0 := c.toNat_lt
  go_enter Tryd.func56, Tryd.ntmps56
  go_wp2
  all_goals (go_ret; refine ⟨?_, rfl⟩)
  all_goals (show Ending.returned (Value.bool _) = Ending.returned (Value.bool _); refine congrArg (fun b => Ending.returned (Value.bool b)) ?_; rw [Bool.eq_iff_iff]; simp [pbyte]; omega)

theorem isPart_any (l : Str) (w : World) (hs : l.length ≤ 9223372036854775807) :
    Calls Tryd.prog 43 #[str l] w fun e w' => e = .returned (.bool (part l)) ∧ w = w' := by
  go_enter Tryd.func43, Tryd.ntmps43
  go_wp2
  · go_ret
    refine ⟨?_, rfl⟩
    have : ¬ l.length ≤ 64 := by omega
    simp [part, this]
  · go_loop [9] (fun i => ∃ k : Nat, k ≤ l.length ∧ i = .int .i64 k ∧ (l.take k).all pbyte = true) (fun i => l.length - (intOf i).toNat)
    case atStart => exact ⟨0, Nat.zero_le _, rfl, by simp⟩
    case round =>
      obtain ⟨k, hk, rfl, hall⟩ := hrel
      go_wp2_with (go_at_call 56; refine (partByte_any _ _).mono ?_; rintro e w' ⟨rfl, rfl⟩)

      · have hk' : k < l.length := by assumption
        have hb : (!pbyte l[k]) = true := by assumption
        go_ret
        refine ⟨?_, rfl⟩
        have hb' : pbyte l[k] = false := by simpa using hb
        have : l.all pbyte = false := by
          rw [List.all_eq_false]
          exact ⟨l[k], List.getElem_mem _, by simp [hb']⟩
        simp [part, this]
      · have hk' : k < l.length := by assumption
        have hb : (!pbyte l[k]) = false := by assumption
        have hb' : pbyte l[k] = true := by simpa using hb
        go_round
        case rel => exact ⟨k + 1, by omega, by go_num, by rw [List.take_succ_eq_append_getElem hk', List.all_append, hall]; simp [hb']⟩
        case measure => simp [intOf]; omega
      · obtain rfl : k = l.length := by omega
        go_ret
        refine ⟨?_, rfl⟩
        have h64 : l.length ≤ 64 := by omega
        rw [List.take_length] at hall
        simp [part, hall, h64]

/-! Going up and down. -/
abbrev rootS : Str := [47]
/-- The place of the last slash, or -1. -/
def lastSlash (l : Str) : Int := Lib.lastIndexByte ⟨l.toArray⟩ 47
def above (l : Str) : Str := l.take (max (lastSlash l) 1).toNat
def below (at_ p : Str) : Str := if at_ = rootS then 47 :: p else at_ ++ 47 :: p
def lastOf (l : Str) : Str := l.drop (lastSlash l + 1).toNat
theorem lastSlash_bounds (l : Str) : -1 ≤ lastSlash l ∧ lastSlash l < l.length := by
  unfold lastSlash
  rcases Lib.lastIndexByte_spec ⟨l.toArray⟩ 47 with ⟨h, _⟩ | ⟨i, hi, h, _⟩
  · rw [h]; omega
  · rw [h]
    have : (ByteArray.mk l.toArray).size = l.length := by simp [ByteArray.size]
    omega

theorem below_any (at_ p : Str) (w : World) (hs : at_.length + p.length + 1 ≤ 9223372036854775807) :
    Calls Tryd.prog 23 #[str at_, str p] w fun e w' => e = .returned (str (below at_ p)) ∧ w = w' := by
  go_enter Tryd.func23, Tryd.ntmps23
  go_wp2
  · have h : (at_ == [47]) = true := by assumption
    go_ret
    refine ⟨?_, rfl⟩
    rw [below, if_pos (by simpa using h)]
    exact congrArg (fun s => Ending.returned (Value.string s)) (ByteArray.mk_append_mk [47] p)
  · have h : (at_ == [47]) = false := by assumption
    go_ret
    refine ⟨?_, rfl⟩
    rw [below, if_neg (by simpa using h)]
    refine congrArg (fun s => Ending.returned (Value.string s)) ?_
    rw [show ({ data := #[47] } : ByteArray) = ⟨[47].toArray⟩ from rfl, ByteArray.mk_append_mk, ByteArray.mk_append_mk]
    simp
end Go.Proofs.YtkpmfahmhmdccaaDoor.Fil
