/-
  How a graph and numbers come in.
-/
import Derived.Test.YtkaejcpnlphdpaaM
namespace Go.Proofs.Ytkaejcpnlphdpaa
open Go.ChangeShapes Go.WideShapes Go.ChangeAt Go.RowKit Go.Deep

section
variable {H : Type} {enc : TypeId × Value → H} {W : World}
theorem open_ns {a : Option Addr} {n c : Nat} {d : DataW H} {p : List MemPlace} (h : DataW.Trod enc Try.prog W 0 (fun _ => true) true 23 (.slice a n c) d p) (hs : Sized 23 d) :
    ∃ l : List Int, n = l.length ∧ Src W (fun k => k < W.heap.size) a l.length c (ints l) ∧ l.length ≤ 4611686018427387904 := by
  obtain ⟨zs, h1, h2, h3, _⟩ := open_nums Try.underlying23 Try.underlying3 (by kernel_rfl) h
  have := sized_len (b := 8) hs Try.underlying23 (by kernel_rfl) h3
  have hl : zs.length = n := by simpa using h1.len
  subst hl
  exact ⟨zs, rfl, h1, by omega⟩
theorem open_edges {a : Option Addr} {n c : Nat} {d : DataW H} {p : List MemPlace} (h : DataW.Trod enc Try.prog W 0 (fun _ => true) true 22 (.slice a n c) d p) (hs : Sized 22 d) :
    ∃ (g : Gr) (ws : Nat → Option Addr × Nat), n = g.length ∧ Ed W (fun k => k < W.heap.size) a c ws g := by
  have hC : Try.prog.cellsOf 23 = 1 := by kernel_rfl
  obtain ⟨fuel, hf⟩ := h
  rcases open_slice Try.underlying22 hf with ⟨hcs, hx⟩ | ⟨a0, len, cap, m, n', D, Pl, hcs, _, hl, hm, hmm, hx, hi⟩
  · simp [Value.cells] at hcs
    obtain ⟨rfl, rfl, rfl⟩ := hcs
    exact ⟨[], fun _ => (none, 0), rfl, src_nil _ _, fun k hk => absurd hk (Nat.not_lt_zero _), by simp, fun k hk => absurd hk (Nat.not_lt_zero _)⟩
  · simp [Value.cells] at hcs
    obtain ⟨rfl, rfl, rfl⟩ := hcs
    simp only [if_true] at hmm
    subst hmm
    have hd := (Prod.mk.inj hx).1
    have hsz : ∀ i, i < n → Sized 23 (D i) := by
      intro i hin
      have h' := hs
      rw [hd] at h'
      refine h'.elem Try.underlying22 ?_
      simp
      exact ⟨i, hin, rfl⟩
    have each : ∀ i, i < n → ∃ x : List Int × (Option Addr × Nat), W.cell? (a0.add i) = some (.slice x.2.1 x.1.length x.2.2) ∧ Src W (fun k => k < W.heap.size) x.2.1 x.1.length x.2.2 (ints x.1) ∧ x.1.length ≤ 4611686018427387904 := by
      intro i hin
      obtain ⟨cs', hc, ht'⟩ := hi i (by omega)
      rw [hC] at hc
      obtain ⟨_, hcl, hat⟩ := World.cells?_some hc
      match cs', hcl with
      | [v], _ =>
        obtain ⟨a', n', c', rfl, ht⟩ := slice_of_trod Try.underlying23 ht'
        obtain ⟨l, rfl, h1, h2⟩ := open_ns ht (hsz i hin)
        refine ⟨(l, (a', c')), ?_, h1, h2⟩
        have := hat 0 (by decide)
        rw [addAdd] at this
        simpa using this
    have hch : ∃ f : Nat → List Int × (Option Addr × Nat), ∀ i, i < n → W.cell? (a0.add i) = some (.slice (f i).2.1 (f i).1.length (f i).2.2) ∧ Src W (fun k => k < W.heap.size) (f i).2.1 (f i).1.length (f i).2.2 (ints (f i).1) ∧ (f i).1.length ≤ 4611686018427387904 := by
      refine ⟨fun i => if h : i < n then Classical.choose (each i h) else ([], none, 0), fun i h => ?_⟩
      simp only [dif_pos h]
      exact Classical.choose_spec (each i h)
    obtain ⟨f, hf'⟩ := hch
    have hbig := sized_len (b := 24) hs Try.underlying22 (by kernel_rfl) (.inr ⟨_, _, hd, by simp⟩ : n = 0 ∨ _)
    have hget : ∀ k (h : k < ((List.range n).map fun i => (f i).1).length), ((List.range n).map fun i => (f i).1)[k] = (f k).1 := fun k h => by simp
    refine ⟨(List.range n).map fun i => (f i).1, fun i => (f i).2, by simp, ⟨⟨by simp, (by intro h; cases h), by simpa using hl, ?_, ?_⟩, fun k hk => ?_, by simp; omega, fun k hk => ?_⟩⟩
    · intro ad h h0
      cases h
      have := World.block_lt_of_cell? W _ (hf' 0 (by simpa using h0)).1
      rwa [addBlock] at this
    · intro ad h j u hu
      cases h
      have hj : j < n := by have := (List.getElem?_eq_some_iff.1 hu).1; simpa using this
      rw [(hf' j hj).1, ← hu, lists_get _ _ j (by simpa using hj), hget j (by simpa using hj)]
    · rw [hget k hk]
      exact (hf' k (by simpa using hk)).2.1
    · rw [hget k hk]
      exact (hf' k (by simpa using hk)).2.2
end
end Go.Proofs.Ytkaejcpnlphdpaa
