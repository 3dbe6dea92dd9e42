/-
  A byte turned: another instruction, or none.
-/
import Derived.Test.YtoebboimdkogpaaDoorR
import Derived.Laws.StructEq
namespace Go.Proofs.YtoebboimdkogpaaDoor
open Go.RowKit

theorem u8i_eq (n : Int) (x : UInt8) (h : n % 256 = (x.toNat : Int)) : u8i n = x := by
  apply UInt8.toNat_inj.1
  have := u8i_val n
  omega
theorem four (a b c d : Nat) (ha : a < 256) (hb : b < 256) (hc : c < 256) (hd : d < 256) (m : Nat) (hm : m = a + b * 256 + c * 65536 + d * 16777216) :
    m % 256 = a ∧ m / 256 % 256 = b ∧ m / 65536 % 256 = c ∧ m / 16777216 % 256 = d := by
  refine ⟨by omega, by omega, by omega, by omega⟩
theorem n4_mod (a b c d : UInt8) : n4 a b c d % 4294967296 = (m4 a b c d : Int) := by
  have h0 := a.toNat_lt
  have h1 := b.toNat_lt
  have h2 := c.toNat_lt
  have h3 := d.toNat_lt
  have hm : m4 a b c d < 4294967296 := by unfold m4; omega
  unfold n4
  generalize m4 a b c d = m at *
  split <;> omega
theorem u8i_cast (n : Nat) (x : UInt8) (h : n % 256 = x.toNat) : u8i (n : Int) = x := u8i_eq _ _ (by omega)
theorem bytesOf_insOf (x0 x1 x2 x3 x4 x5 x6 x7 : UInt8) : bytesOf (insOf x0 x1 x2 x3 x4 x5 x6 x7) = [x0, x1, x2, x3, x4, x5, x6, x7] := by
  have e : ∀ (y : UInt8), u8i (y.toNat : Int) = y := fun y => u8i_cast _ _ (Nat.mod_eq_of_lt y.toNat_lt)
  obtain ⟨f0, f1, f2, f3⟩ := four _ _ _ _ x4.toNat_lt x5.toNat_lt x6.toNat_lt x7.toNat_lt (m4 x4 x5 x6 x7) rfl
  have hn := n4_mod x4 x5 x6 x7
  simp only [bytesOf, insOf]
  generalize m4 x4 x5 x6 x7 = m at *
  generalize n4 x4 x5 x6 x7 = n at *
  have h256 : n % 256 = (x4.toNat : Int) := by
    rw [← Int.emod_emod_of_dvd n (show (256 : Int) ∣ 4294967296 by decide), hn, ← f0]
    omega
  have g1 : (m : Int) / 256 = ((m / 256 : Nat) : Int) := by omega
  have g2 : (m : Int) / 65536 = ((m / 65536 : Nat) : Int) := by omega
  have g3 : (m : Int) / 16777216 = ((m / 16777216 : Nat) : Int) := by omega
  rw [hn, e x0, e x1, e x2, e x3, u8i_eq n x4 h256, g1, g2, g3, u8i_cast _ x5 f1, u8i_cast _ x6 f2, u8i_cast _ x7 f3]
theorem one_other (i : Ins) (k : Nat) (y : UInt8) (hy : ∀ x, (bytesOf i)[k]? = some x → y ≠ x) (hk : k < 8) : decI ((bytesOf i).set k y) ≠ [i] := by
  intro h
  obtain ⟨x0, x1, x2, x3, x4, x5, x6, x7, r, hr⟩ := eight_of ((bytesOf i).set k y) (by simp [bytesOf])
  have hl := congrArg List.length hr
  have hrn : r = [] := by
    cases r with
    | nil => rfl
    | cons a r => simp [bytesOf] at hl
  subst hrn
  rw [hr] at h
  have h1 : decI [x0, x1, x2, x3, x4, x5, x6, x7] = [insOf x0 x1 x2 x3 x4 x5 x6 x7] := by simp [decI]
  rw [h1] at h
  have h2 : insOf x0 x1 x2 x3 x4 x5 x6 x7 = i := by simpa using h
  have h3 := bytesOf_insOf x0 x1 x2 x3 x4 x5 x6 x7
  rw [h2, ← hr] at h3
  have hk' : k < (bytesOf i).length := by simp [bytesOf]; exact hk
  have h4 : ((bytesOf i).set k y)[k]? = some y := by rw [List.getElem?_set_self hk']
  rw [← h3] at h4
  exact hy y h4 rfl
set_option maxRecDepth 100000 in
theorem eq_ins (j i : Ins) (w : World) : (Op.equalIn 10000 35 (.agg #[.int .i64 j.op, .int .i64 j.a, .int .i64 j.b, .int .i64 j.c, .int .i64 j.n]) (.agg #[.int .i64 i.op, .int .i64 i.a, .int .i64 i.b, .int .i64 i.c, .int .i64 i.n])).run Tryd.prog w = .ok (decide (j = i)) w := by
  have ht : Tryd.prog.underlying 35 = some (.struct (Tryd.prog.fieldsOf 35)) := by kernel_rfl
  have hp : Tryd.prog.stoodInHeld 35 = false := by kernel_rfl
  rw [run_equalIn_agg w 9999 35 _ _ ht hp]
  obtain ⟨j0, j1, j2, j3, j4⟩ := j
  obtain ⟨i0, i1, i2, i3, i4⟩ := i
  simp [go_sem]
  by_cases h0 : j0 = i0 <;> by_cases h1 : j1 = i1 <;> by_cases h2 : j2 = i2 <;> by_cases h3 : j3 = i3 <;> by_cases h4 : j4 = i4 <;> simp [h0, h1, h2, h3, h4]
theorem neq_ins (j i : Ins) (h : j ≠ i) (w : World) : (binOp .neq 35 (.agg #[.int .i64 j.op, .int .i64 j.a, .int .i64 j.b, .int .i64 j.c, .int .i64 j.n]) (.agg #[.int .i64 i.op, .int .i64 i.a, .int .i64 i.b, .int .i64 i.c, .int .i64 i.n])).run Tryd.prog w = .ok (.bool true) w := by
  rw [run_neq_struct, eq_ins]
  simp [Result.andThen, h]
end Go.Proofs.YtoebboimdkogpaaDoor
