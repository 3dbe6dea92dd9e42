/-
  The instruction of eight bytes: the program's and the document's.
-/
import Derived.Test.YtoebboimdkogpaaDoorH
import Derived.Deep.RegionHeld3
namespace Go.Proofs.YtoebboimdkogpaaDoor
open Go.RowKit

def m4 (a b c d : UInt8) : Nat := a.toNat + b.toNat * 256 + c.toNat * 65536 + d.toNat * 16777216
def n4 (a b c d : UInt8) : Int := if 2147483648 ≤ m4 a b c d then (m4 a b c d : Int) - 4294967296 else m4 a b c d
def insOf (x0 x1 x2 x3 x4 x5 x6 x7 : UInt8) : Ins := ⟨x0.toNat, x1.toNat, x2.toNat, x3.toNat, n4 x4 x5 x6 x7⟩

theorem or32 (a c s : Nat) (ha : a < 2 ^ s) (h : a + c * 2 ^ s < 4294967296) : bits .or .u32 (a : Int) ((c * 2 ^ s : Nat) : Int) = ((a + c * 2 ^ s : Nat) : Int) := by
  have key : ∀ x y : Int, bits .or .u32 x y = IntKind.u32.wrap (((BitVec.ofInt 32 x) ||| (BitVec.ofInt 32 y)).toNat : Int) := fun _ _ => rfl
  have hor : a ||| c * 2 ^ s = a + c * 2 ^ s := by
    rw [Nat.mul_comm c, Nat.or_comm, ← Nat.two_pow_add_eq_or_of_lt ha, Nat.add_comm]
  rw [key, BitVec.ofInt_natCast, BitVec.ofInt_natCast, BitVec.toNat_or, BitVec.toNat_ofNat, BitVec.toNat_ofNat, Nat.mod_eq_of_lt (by omega), Nat.mod_eq_of_lt (by omega), hor, IntKind.wrap_u32]
  exact Int.emod_eq_of_lt (by omega) (by omega)

theorem or4 (x4 x5 x6 x7 : UInt8) : bits .or .u32 (bits .or .u32 (bits .or .u32 (x4.toNat : Int) ((x5.toNat : Int) * 256)) ((x6.toNat : Int) * 65536)) ((x7.toNat : Int) * 16777216) = (m4 x4 x5 x6 x7 : Int) := by
  have b4 := x4.toNat_lt
  have b5 := x5.toNat_lt
  have b6 := x6.toNat_lt
  have b7 := x7.toNat_lt
  have h1 := or32 x4.toNat x5.toNat 8 (by omega) (by omega)
  have h2 := or32 (x4.toNat + x5.toNat * 2 ^ 8) x6.toNat 16 (by omega) (by omega)
  have h3 := or32 (x4.toNat + x5.toNat * 2 ^ 8 + x6.toNat * 2 ^ 16) x7.toNat 24 (by omega) (by omega)
  have e1 : ((x5.toNat : Int) * 256) = ((x5.toNat * 2 ^ 8 : Nat) : Int) := by simp
  have e2 : ((x6.toNat : Int) * 65536) = ((x6.toNat * 2 ^ 16 : Nat) : Int) := by simp
  have e3 : ((x7.toNat : Int) * 16777216) = ((x7.toNat * 2 ^ 24 : Nat) : Int) := by simp
  rw [e1, h1, e2, h2, e3, h3]
  simp [m4]
theorem wrap_n4 (a b c d : UInt8) : wrap32 (m4 a b c d : Int) = n4 a b c d := by
  have b4 := a.toNat_lt
  have b5 := b.toNat_lt
  have b6 := c.toNat_lt
  have b7 := d.toNat_lt
  have hm : m4 a b c d < 4294967296 := by unfold m4; omega
  unfold n4 wrap32
  split <;> omega

theorem n4_range (a b c d : UInt8) : -2147483648 ≤ n4 a b c d ∧ n4 a b c d ≤ 2147483647 := by
  have b4 := a.toNat_lt
  have b5 := b.toNat_lt
  have b6 := c.toNat_lt
  have b7 := d.toNat_lt
  have hm : m4 a b c d < 4294967296 := by unfold m4; omega
  unfold n4
  split <;> omega
theorem wrap_u8 (x : UInt8) : IntKind.i64.wrap (x.toNat : Int) = x.toNat := by
  have := x.toNat_lt
  rw [show IntKind.i64.wrap (x.toNat : Int) = wrap64 (x.toNat : Int) by unfold wrap64; simp [IntKind.wrap, IntKind.bits, IntKind.signed]; omega, IntWalk.wrap64_in _ (by omega)]
/-- Eight bytes in memory. -/
theorem eight {w : World} {P : Nat → Prop} {A : Option Addr} {n c : Nat} {x0 x1 x2 x3 x4 x5 x6 x7 : UInt8} {l : Str} (h : Src w P A n c (cells (x0 :: x1 :: x2 :: x3 :: x4 :: x5 :: x6 :: x7 :: l))) :
    ∃ b o, A = some ⟨b, o, none⟩ ∧ w.cell? ⟨b, o, none⟩ = some (.int .u8 x0.toNat) ∧ w.cell? ⟨b, o + 1, none⟩ = some (.int .u8 x1.toNat) ∧ w.cell? ⟨b, o + 2, none⟩ = some (.int .u8 x2.toNat) ∧ w.cell? ⟨b, o + 3, none⟩ = some (.int .u8 x3.toNat) ∧
      w.cell? ⟨b, o + 4, none⟩ = some (.int .u8 x4.toNat) ∧ w.cell? ⟨b, o + 5, none⟩ = some (.int .u8 x5.toNat) ∧ w.cell? ⟨b, o + 6, none⟩ = some (.int .u8 x6.toNat) ∧ w.cell? ⟨b, o + 7, none⟩ = some (.int .u8 x7.toNat) ∧ 8 ≤ n := by
  have hl := h.len
  simp only [cells_len, List.length_cons] at hl
  cases A with
  | none => have := (h.nil rfl).1; omega
  | some ad =>
    obtain ⟨b, o, spot⟩ := ad
    have h0 := World.cell?_spot (h.at_ _ rfl 0 _ rfl)
    have hs : spot = none := by simpa [Addr.add] using h0
    subst hs
    have c0 := h.at_ _ rfl 0 _ rfl
    have c1 := h.at_ _ rfl 1 _ rfl
    have c2 := h.at_ _ rfl 2 _ rfl
    have c3 := h.at_ _ rfl 3 _ rfl
    have c4 := h.at_ _ rfl 4 _ rfl
    have c5 := h.at_ _ rfl 5 _ rfl
    have c6 := h.at_ _ rfl 6 _ rfl
    have c7 := h.at_ _ rfl 7 _ rfl
    simp only [plainAdd, Nat.add_zero] at c0 c1 c2 c3 c4 c5 c6 c7
    exact ⟨b, o, rfl, c0, c1, c2, c3, c4, c5, c6, c7, by omega⟩
theorem below_set5 {w w' : World} {B g : Nat} (h : Below B w w') (hg : B ≤ g) (u0 u1 u2 u3 u4 : Value) : Below B w (((((w'.setCell ⟨g, 0, none⟩ u0).setCell ⟨g, 1, none⟩ u1).setCell ⟨g, 2, none⟩ u2).setCell ⟨g, 3, none⟩ u3).setCell ⟨g, 4, none⟩ u4) :=
  ((((h.setCell (p := ⟨g, 0, none⟩) hg u0).setCell (p := ⟨g, 1, none⟩) hg u1).setCell (p := ⟨g, 2, none⟩) hg u2).setCell (p := ⟨g, 3, none⟩) hg u3).setCell (p := ⟨g, 4, none⟩) hg u4

set_option maxRecDepth 100000 in
set_option maxHeartbeats 2000000 in
theorem fromBytes_any (P : Nat → Prop) (A : Option Addr) (n c : Nat) (x0 x1 x2 x3 x4 x5 x6 x7 : UInt8) (l : Str) (w : World) (h : Src w P A n c (cells (x0 :: x1 :: x2 :: x3 :: x4 :: x5 :: x6 :: x7 :: l))) :
    Calls Tryd.prog 38 #[.slice A n c] w fun e w' => e = .returned (insV (insOf x0 x1 x2 x3 x4 x5 x6 x7)) ∧ Below w.heap.size w w' := by
  obtain ⟨b, o, rfl, c0, c1, c2, c3, c4, c5, c6, c7, hl⟩ := eight h
  have b0 := x0.toNat_lt
  have b1 := x1.toNat_lt
  have b2 := x2.toNat_lt
  have b3 := x3.toNat_lt
  have b4 := x4.toNat_lt
  have b5 := x5.toNat_lt
  have b6 := x6.toNat_lt
  have b7 := x7.toNat_lt
  have n0 : (0 : Int) < (n : Int) := by omega
  have n1 : (1 : Int) < (n : Int) := by omega
  have n2 : (2 : Int) < (n : Int) := by omega
  have n3 : (3 : Int) < (n : Int) := by omega
  have n4' : (4 : Int) < (n : Int) := by omega
  have n5 : (5 : Int) < (n : Int) := by omega
  have n6 : (6 : Int) < (n : Int) := by omega
  have n7 : (7 : Int) < (n : Int) := by omega
  have d0 := cell_alloc c0 (.cells #[.int .i64 0, .int .i64 0, .int .i64 0, .int .i64 0, .int .i64 0] 35)
  have d1 := cell_alloc c1 (.cells #[.int .i64 0, .int .i64 0, .int .i64 0, .int .i64 0, .int .i64 0] 35)
  have d2 := cell_alloc c2 (.cells #[.int .i64 0, .int .i64 0, .int .i64 0, .int .i64 0, .int .i64 0] 35)
  have d3 := cell_alloc c3 (.cells #[.int .i64 0, .int .i64 0, .int .i64 0, .int .i64 0, .int .i64 0] 35)
  have d4 := cell_alloc c4 (.cells #[.int .i64 0, .int .i64 0, .int .i64 0, .int .i64 0, .int .i64 0] 35)
  have d5 := cell_alloc c5 (.cells #[.int .i64 0, .int .i64 0, .int .i64 0, .int .i64 0, .int .i64 0] 35)
  have d6 := cell_alloc c6 (.cells #[.int .i64 0, .int .i64 0, .int .i64 0, .int .i64 0, .int .i64 0] 35)
  have d7 := cell_alloc c7 (.cells #[.int .i64 0, .int .i64 0, .int .i64 0, .int .i64 0, .int .i64 0] 35)
  clear h
  go_enter Tryd.func38, Tryd.ntmps38
  go_wp2_with fail
  go_quiet (fail)
  go_wp2_with fail
  go_region
  go_wp2_with fail
  rw [or4, wrap_n4, IntWalk.wrap64_in _ (by have := n4_range x4 x5 x6 x7; omega)]
  exact bodyPost_ret (v := insV (insOf x0 x1 x2 x3 x4 x5 x6 x7)) (by simp [results, Tryd.results38, go_sem, insOf]) rfl ⟨rfl, below_set5 (below_drewN ((Below.refl _ _).alloc (Nat.le_refl _) _) _) (Nat.le_refl _) _ _ _ _ _⟩
end Go.Proofs.YtoebboimdkogpaaDoor
