/-
  How the laws' arguments are opened: slices of ints, of strings, of bytes; and what the bound of the second form gives.
-/
import Derived.Test.YtkgkgagnpmhoiaaD
import Derived.ProofKit
import Derived.OpenShut
import Derived.JoinedCond
import Derived.SliceStrings
import Derived.ChangeSlices
import Derived.Carry
namespace Go.Proofs.Ytkgkgagnpmhoiaa
open Go.ChangeShapes Go.WideShapes Go.ChangeAt Go.RowKit

theorem Try.own : ownKnob Try.prog.godebug = none := by kernel_rfl
theorem Try.laidOut : laidOutB Try.prog = true := by kernel_rfl
theorem Try.cellsInt : Try.prog.cellsOf 3 = 1 := by kernel_rfl
theorem Try.cellsByte : Try.prog.cellsOf 5 = 1 := by kernel_rfl
theorem Try.cellsString : Try.prog.cellsOf 9 = 1 := by kernel_rfl

theorem i64_of_wf {n : Int} (h : (Lit.int .i64 n).wf = true) : I64 n := by
  unfold I64
  simp [Lit.wf, IntKind.min, IntKind.max, IntKind.signed, IntKind.bits] at h
  omega

/-! What the bulk of a reading is at least. -/
section
variable {H : Type}
theorem bulk_one (d : DataW H) : 1 ≤ Rows.uptoBulk d := by
  cases d with
  | lit l => cases l <;> simp [Rows.uptoBulk]
  | nil => simp [Rows.uptoBulk]
  | ptr d => simp [Rows.uptoBulk]
  | slice elems spare => simp [Rows.uptoBulk]
  | agg parts => simp [Rows.uptoBulk]
  | iface t d => simp [Rows.uptoBulk]
  | map entries => simp [Rows.uptoBulk]
  | held h => simp [Rows.uptoBulk]
theorem bulk_len (l : List (DataW H)) : l.length ≤ Rows.uptoBulkAll l := by
  induction l with
  | nil => simp [Rows.uptoBulkAll]
  | cons x r ih => have := bulk_one x; simp only [Rows.uptoBulkAll, List.length_cons]; omega
theorem bulk_bound {l : List (DataW H)} (hk : Rows.uptoSmall H l = true) : Rows.uptoBulkAll l ≤ 1048576 := of_decide_eq_true hk
theorem bulk_strs (ss : List ByteArray) : room (ss.map fun s => s.data.toList) ≤ 8 * Rows.uptoBulkAll (H := H) (Go.ChangeShapes.strs ss) := by
  induction ss with
  | nil => simp [room]
  | cons s ss ih =>
    have : room ((s :: ss).map fun s => s.data.toList) = (s.data.toList.length + 8) + room (ss.map fun s => s.data.toList) := by simp [room]
    rw [this]
    have e : (Go.ChangeShapes.strs (s :: ss) : List (DataW H)) = .lit (.string s.data.toList) :: Go.ChangeShapes.strs ss := rfl
    rw [e]
    simp only [Rows.uptoBulkAll, Rows.uptoBulk]
    omega
end

section
variable {H : Type} {enc : TypeId × Value → H} {W : World}
theorem open_ints_src {a : Option Addr} {n c : Nat} {d : DataW H} {p : List MemPlace} (h : DataW.Trod enc Try.prog W 0 (fun _ => true) true 31 (.slice a n c) d p) :
    ∃ ns : List Int, Src W (fun k => k < W.heap.size) a n c (ints ns) ∧ (∀ x ∈ ns, I64 x) ∧ ns.length + 1 ≤ Rows.uptoBulk d := by
  obtain ⟨fuel, hf⟩ := h
  rcases open_ints Try.underlying31 Try.underlying3 Try.cellsInt hf with ⟨hcs, hx⟩ | ⟨a0, len, cap, zs, hcs, _, hl, hm, hz, hx, hcell, hw⟩
  · simp [Value.cells] at hcs
    obtain ⟨rfl, rfl, rfl⟩ := hcs
    exact ⟨[], ⟨rfl, fun _ => ⟨rfl, rfl⟩, Nat.le_refl _, (by intro ad h; cases h), (by intro ad h; cases h)⟩, (by intro x hx; cases hx), bulk_one d⟩
  · simp [Value.cells] at hcs
    obtain ⟨rfl, rfl, rfl⟩ := hcs
    simp only [if_true] at hz
    have hlz : (zs.take n).length = n := by rw [List.length_take]; omega
    have hx' : d = .slice (lits .i64 (zs.take n)) (lits .i64 (zs.drop n)) := by injection hx
    refine ⟨zs.take n, ⟨by simp [ints]; omega, (by intro h; cases h), hl, ?_, ?_⟩, fun x hx => i64_of_wf (hw x (List.mem_of_mem_take hx)), ?_⟩
    · intro ad h h0
      cases h
      have := World.block_lt_of_cell? W _ (hcell 0 (by omega))
      rw [addBlock] at this
      exact this
    · intro ad h j u hu
      cases h
      have hj : j < n := by have := (List.getElem?_eq_some_iff.1 hu).1; simp [ints] at this; omega
      rw [hcell j (by omega), ← hu]
      simp [ints, hj, List.getD, show j < zs.length by omega]
    · rw [hx', hlz]
      have := bulk_len (lits (H := H) .i64 (zs.take n))
      have e : (lits (H := H) .i64 (zs.take n)).length = n := by simp [lits]; omega
      simp only [Rows.uptoBulk]
      omega

theorem open_strs_src {a : Option Addr} {n c : Nat} {d : DataW H} {p : List MemPlace} (h : DataW.Trod enc Try.prog W 0 (fun _ => true) true 32 (.slice a n c) d p) :
    ∃ ss : List (List UInt8), Src W (fun k => k < W.heap.size) a n c (strs ss) ∧ room ss + 8 ≤ 8 * Rows.uptoBulk d := by
  obtain ⟨fuel, hf⟩ := h
  rcases open_strings Try.underlying32 Try.underlying9 Try.cellsString hf with ⟨hcs, hx⟩ | ⟨a0, len, cap, zs, hcs, _, hl, hm, hz, hx, hcell, hw⟩
  · simp [Value.cells] at hcs
    obtain ⟨rfl, rfl, rfl⟩ := hcs
    exact ⟨[], ⟨rfl, fun _ => ⟨rfl, rfl⟩, Nat.le_refl _, (by intro ad h; cases h), (by intro ad h; cases h)⟩, by have := bulk_one d; simp [room]; omega⟩
  · simp [Value.cells] at hcs
    obtain ⟨rfl, rfl, rfl⟩ := hcs
    simp only [if_true] at hz
    have hlz : (zs.take n).length = n := by rw [List.length_take]; omega
    have hx' : d = .slice (Go.ChangeShapes.strs (zs.take n)) (Go.ChangeShapes.strs (zs.drop n)) := by injection hx
    refine ⟨(zs.take n).map fun s => s.data.toList, ⟨by simp [strs]; omega, (by intro h; cases h), hl, ?_, ?_⟩, ?_⟩
    · intro ad h h0
      cases h
      have := World.block_lt_of_cell? W _ (hcell 0 (by omega))
      rw [addBlock] at this
      exact this
    · intro ad h j u hu
      cases h
      have hj : j < n := by have := (List.getElem?_eq_some_iff.1 hu).1; simp [strs] at this; omega
      rw [hcell j (by omega), ← hu]
      simp [strs, hj, List.getD, show j < zs.length by omega]
    · rw [hx']
      have := bulk_strs (H := H) (zs.take n)
      simp only [Rows.uptoBulk]
      omega
end
end Go.Proofs.Ytkgkgagnpmhoiaa
