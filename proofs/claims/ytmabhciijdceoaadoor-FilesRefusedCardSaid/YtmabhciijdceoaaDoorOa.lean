/-
  How an act by value and texts come in.
-/
import Derived.Test.YtmabhciijdceoaaDoorO
namespace Go.Proofs.YtmabhciijdceoaaDoor
open Go.ChangeShapes Go.WideShapes Go.ChangeAt Go.RowKit Go.Deep

section
variable {H : Type} {enc : TypeId × Value → H} {W : World}
set_option maxRecDepth 100000 in
theorem open_act1 {r : Reach} {b0 : Nat} {v : Value} {d : DataW H} {p : List MemPlace} (hv : Value.okWide Tryd.prog W r b0 40 v) (h : DataW.Trod enc Tryd.prog W 0 (fun _ => true) true 40 v d p) (hs : Sized 40 d) :
    ∃ x A c, v = .agg (acells x A c) ∧ AcV W (fun k => k < W.heap.size) x A c := by
  unfold Value.okWide at hv
  rw [Tryd.underlying40] at hv
  obtain ⟨cs, rfl, _, _⟩ := hv
  obtain ⟨fuel, hf⟩ := h
  obtain ⟨x, A, c, e, hx⟩ := open_act hf hs
  have e' : cs = acells x A c := Array.ext' e
  subst e'
  exact ⟨x, A, c, rfl, hx⟩
set_option maxRecDepth 100000 in
theorem open_ss {a : Option Addr} {n c : Nat} {d : DataW H} {p : List MemPlace} (h : DataW.Trod enc Tryd.prog W 0 (fun _ => true) true 41 (.slice a n c) d p) (hs : Sized 41 d) :
    ∃ ss : List Str, Src W (fun k => k < W.heap.size) a n c (Go.Proofs.YtmabhciijdceoaaDoor.strs ss) ∧ (n ≤ 140737488351232 ∧ ∀ p ∈ ss, p.length ≤ 9223372036854775807) := by
  obtain ⟨fuel, hf⟩ := h
  rcases open_strings Tryd.underlying41 Tryd.underlying9 (by kernel_rfl) hf with ⟨hcs, hx⟩ | ⟨a0, len, cap, zs, hcs, _, hl, hm, hz, hx, hcell, hw⟩
  · simp [Value.cells] at hcs
    obtain ⟨rfl, rfl, rfl⟩ := hcs
    exact ⟨[], ⟨rfl, fun _ => ⟨rfl, rfl⟩, Nat.le_refl _, (by intro ad h; cases h), (by intro ad h; cases h)⟩, by omega, by intro p hp; cases hp⟩
  · simp [Value.cells] at hcs
    obtain ⟨rfl, rfl, rfl⟩ := hcs
    simp only [if_true] at hz
    have hlz : (zs.take n).length = n := by rw [List.length_take]; omega
    have hx' : d = .slice (Go.ChangeShapes.strs (zs.take n)) (Go.ChangeShapes.strs (zs.drop n)) := by injection hx
    refine ⟨(zs.take n).map fun s => s.data.toList, ⟨by simp [Go.Proofs.YtmabhciijdceoaaDoor.strs]; omega, (by intro h; cases h), hl, ?_, ?_⟩, ?_, ?_⟩
    · intro ad h h0
      cases h
      have := World.block_lt_of_cell? W _ (hcell 0 (by omega))
      rw [addBlock] at this
      exact this
    · intro ad h j u hu
      cases h
      have hj : j < n := by have := (List.getElem?_eq_some_iff.1 hu).1; simp [Go.Proofs.YtmabhciijdceoaaDoor.strs] at this; omega
      rw [hcell j (by omega), ← hu]
      simp [Go.Proofs.YtmabhciijdceoaaDoor.strs, hj, List.getD, show j < zs.length by omega, str]
    · have := sized_len (e := 9) (b := 16) (n := n) hs Tryd.underlying41 (by kernel_rfl) (.inr ⟨_, _, hx', by simp [Go.ChangeShapes.strs]; omega⟩)
      omega
    · intro p hp
      obtain ⟨s, hs', rfl⟩ := List.mem_map.1 hp
      have h1 := hw s (List.mem_of_mem_take hs')
      have e : s.data.toList.length = s.size := by simp
      rw [e]
      simp only [maxLen] at h1
      omega
end
end Go.Proofs.YtmabhciijdceoaaDoor
