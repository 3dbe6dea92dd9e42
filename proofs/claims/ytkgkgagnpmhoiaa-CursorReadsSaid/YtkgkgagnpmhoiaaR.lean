/-
  What the first form's own reach gives of a list of bytes, and of a list of pieces, among a law's arguments.
-/
import Derived.Test.YtkgkgagnpmhoiaaO
import Derived.SizedLaws
namespace Go.Proofs.Ytkgkgagnpmhoiaa
open Go.ChangeShapes Go.WideShapes Go.ChangeAt Go.RowKit Go.Deep

section
variable {H : Type} {enc : TypeId × Value → H} {W : World}
theorem len_of_trod {t e : TypeId} {a : Option Addr} {n c : Nat} {d : DataW H} {p : List MemPlace} (ht : Try.prog.underlying t = some (.slice e)) (h : DataW.Trod enc Try.prog W 0 (fun _ => true) true t (.slice a n c) d p) :
    n ≤ 9223372036854775807 ∧ (n = 0 ∨ ∃ elems spare, d = .slice elems spare ∧ elems.length = n) := by
  obtain ⟨fuel, hf⟩ := h
  rcases open_slice ht hf with ⟨hcs, _⟩ | ⟨a0, len, cap, m, n', D, Pl, hcs, _, hl, hm, _, hx, _⟩
  · simp [Value.cells] at hcs
    obtain ⟨rfl, rfl, rfl⟩ := hcs
    exact ⟨by omega, .inl rfl⟩
  · simp [Value.cells] at hcs
    obtain ⟨rfl, rfl, rfl⟩ := hcs
    refine ⟨by simp only [maxLen] at hm; omega, .inr ⟨_, _, (Prod.mk.inj hx).1, by simp⟩⟩
theorem reach_bytes {n : Nat} {d : DataW H} {ts : List TypeId} {ds : List (DataW H)} (h : (DataW.weightsEach Try.prog ts ds).all (· ≤ reachBytes) = true) {j : Nat} (ht : ts[j]? = some 27) (hd : ds[j]? = some d) (hl : n = 0 ∨ ∃ elems spare, d = .slice elems spare ∧ elems.length = n) :
    n ≤ 140737488351232 := by
  rcases hl with rfl | ⟨elems, spare, rfl, rfl⟩
  · omega
  · have h1 := sized_slice h ht hd Try.underlying27
    have hb : Try.prog.bytesOf 5 = 1 := by kernel_rfl
    rw [hb] at h1
    simp only [reachBytes] at h1
    omega
end
end Go.Proofs.Ytkgkgagnpmhoiaa
