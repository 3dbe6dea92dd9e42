/-
  How a number of sixteen bits comes in.
-/
import Derived.Test.YtlkhmpnahbbpeaaYOs
namespace Go.Proofs.Ytlkhmpnahbbpeaa
open Go.ChangeShapes Go.WideShapes Go.ChangeAt Go.RowKit Go.Deep

theorem u16_of_wf {n : Int} (h : (Lit.int .u16 n).wf = true) : n = ((UInt16.ofNat n.toNat).toNat : Int) := by
  simp [Lit.wf, IntKind.min, IntKind.max, IntKind.signed, IntKind.bits] at h
  rw [UInt16.toNat_ofNat', Nat.mod_eq_of_lt (by omega)]
  omega
end Go.Proofs.Ytlkhmpnahbbpeaa
