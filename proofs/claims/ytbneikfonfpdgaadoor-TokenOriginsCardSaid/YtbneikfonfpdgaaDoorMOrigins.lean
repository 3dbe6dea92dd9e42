/-
  The law TokenOrigins, walked.
-/
import Derived.Test.YtbneikfonfpdgaaDoorN
namespace Go.Proofs.YtbneikfonfpdgaaDoor
open Go.RowKit

def sgn : Str := [36, 79, 82, 73, 71, 73, 78, 47, 36, 76, 73, 66, 58]
def val (o : Str) : Str := o ++ [47, 108, 105, 98, 58]
def reps (x : Str) : Nat → Str
  | 0 => []
  | n + 1 => reps x n ++ x
theorem reps_len (x : Str) : ∀ n, (reps x n).length = n * x.length
  | 0 => by simp [reps]
  | n + 1 => by rw [reps, List.length_append, reps_len x n, Nat.succ_mul]
theorem exp_sgn (o : Str) : exp o sgn = some (val o) := by
  unfold sgn
  rw [exp_o _ _ (by decide)]
  simp only [List.drop]
  rw [exp_plain _ _ _ (by decide), exp_l _ _ (by decide) (by decide)]
  simp only [List.drop]
  rw [exp_plain _ _ _ (by decide), exp_nil]
  rfl
theorem exp_reps (o : Str) : ∀ n, exp o (reps sgn n) = some (reps (val o) n)
  | 0 => exp_nil o
  | n + 1 => by rw [reps, exp_two o _ _ _ _ (Nat.le_refl _) (exp_reps o n), exp_sgn]; rfl

set_option maxRecDepth 100000 in
set_option maxHeartbeats 2000000 in
theorem origins_any (o : Str) (n : UInt8) (w : World) (ho : o.length ≤ 140737488351232) (hm : Ml w) :
    Calls Tryd.prog 8 #[str o, .int .u8 (n.toNat : Int)] w fun e w' => e = .returned (.bool true) ∧ Below w.heap.size w w' := by
  have HA := Lib.hid (awake_any w hm)
  by_cases h5 : 500 < o.length
  · go_enter Tryd.func8, Tryd.ntmps8
    go_wp2_with fail
    refine HA.out.mono ?_
    rintro e w1 ⟨rfl, hb⟩
    go_wp2
    go_ret
    exact ⟨rfl, hb⟩
  · have h9 : n.toNat % 9 < 9 := Nat.mod_lt _ (by omega)
    generalize hk : n.toNat % 9 = k at *
    have hkk : ((n.toNat : Int) % 9) = (k : Int) := by omega
    have hts := reps_len sgn k
    have hvs := reps_len (val o) k
    have hsl : sgn.length = 13 := rfl
    have hvl : (val o).length = o.length + 5 := by simp [val]
    rw [hsl] at hts
    rw [hvl] at hvs
    have ht200 : ¬ 200 < (reps sgn k).length := by omega
    have HX := Lib.hid (fun w1 (h : Ml w1) => expand_any (reps sgn k) o w1 (by omega) ho h)
    have HE2 := Lib.hid (fun h => exps_over ht200 (exp_reps o k) h)
    have HE3 := Lib.hid (fun h => exps_ok ht200 (exp_reps o k) h)
    have HM := Lib.hid hm
    have HK := Lib.hid hk
    have HL := Lib.hid (And.intro hts hvs)
    clear hm hk hts hvs hsl hvl
    go_enter Tryd.func8, Tryd.ntmps8
    go_wp2_with fail
    refine HA.out.mono ?_
    rintro e w1 ⟨rfl, hb1⟩
    have HB1 := Lib.hid hb1
    clear hb1
    go_wp2_with fail
    clear hkk
    go_loopw [7, 8, 9] (fun t7 t8 t9 wr => ∃ i : Nat, i ≤ k ∧ t9 = .int .i64 (i : Int) ∧ t7 = str (reps sgn i) ∧ t8 = str (reps (val o) i) ∧ wr = w1) (fun _ _ t9 _ => k - (intOf t9).toNat)
    case atStart => exact ⟨0, Nat.zero_le _, rfl, rfl, rfl, rfl⟩
    case round =>
      obtain ⟨i, hi, rfl, rfl, rfl, rfl⟩ := hrel
      by_cases hik : i < k
      · have l1 := reps_len sgn i
        have l2 := reps_len (val o) i
        have hsl : sgn.length = 13 := rfl
        have hvl : (val o).length = o.length + 5 := by simp [val]
        rw [hsl] at l1
        rw [hvl] at l2
        have hb2 : i * (o.length + 5) ≤ 9 * 505 := Nat.mul_le_mul (by omega) (by omega)
        have a1 := add_str (reps sgn i) sgn (by omega)
        have a2 := add_str o [47, 108, 105, 98, 58] (by simp; omega)
        have a3 := add_str (reps (val o) i) (val o) (by omega)
        rw [show reps sgn i ++ sgn = reps sgn (i + 1) from rfl] at a1
        rw [show o ++ [47, 108, 105, 98, 58] = val o from rfl] at a2
        rw [show reps (val o) i ++ val o = reps (val o) (i + 1) from rfl] at a3
        have A1 : ∀ w, (Op.stringOp .add ⟨(reps sgn i).toArray⟩ ⟨#[36, 79, 82, 73, 71, 73, 78, 47, 36, 76, 73, 66, 58]⟩).run Tryd.prog w = .ok (str (reps sgn (i + 1))) w := a1
        have HR := Lib.hid (And.intro (Eq.refl (reps sgn (i + 1))) (Eq.refl (reps (val o) (i + 1))))
        clear a1 l1 l2 hsl hvl hb2
        go_wp2
        exact ⟨⟨i + 1, by omega, by go_num, rfl, rfl, trivial⟩, by simp [intOf]; omega⟩
      · obtain rfl : i = k := by omega
        have hlen := HL.out.2
        by_cases hv : 200 < (reps (val o) i).length
        · rw [HE2.out hv] at HX
          clear hlen
          go_wp2_with fail
          refine (HX.out _ (HM.out.below HB1.out)).mono ?_
          rintro e w2 ⟨rfl, hb2⟩
          have HB2 := Lib.hid (HB1.out.trans (hb2.mono HB1.out.size))
          clear hb2
          go_wp2
          go_ret
          exact ⟨rfl, HB2.out⟩
        · rw [HE3.out hv] at HX
          clear hlen
          go_wp2_with fail
          refine (HX.out _ (HM.out.below HB1.out)).mono ?_
          rintro e w2 ⟨rfl, hb2⟩
          have HB2 := Lib.hid (HB1.out.trans (hb2.mono HB1.out.size))
          clear hb2
          go_wp2
          go_ret
          exact ⟨rfl, HB2.out⟩
end Go.Proofs.YtbneikfonfpdgaaDoor
