/-
  How a script, an act, bytes and texts come in.
-/
import Derived.Test.YtmabhciijdceoaaDoorMKeeps
import Derived.Test.YtmabhciijdceoaaDoorOp
namespace Go.Proofs.YtmabhciijdceoaaDoor
open Go.ChangeShapes Go.WideShapes Go.ChangeAt Go.RowKit Go.Deep

section
variable {H : Type} {enc : TypeId × Value → H} {W : World}
theorem open_bs {a : Option Addr} {n c : Nat} {d : DataW H} {p : List MemPlace} (h : DataW.Trod enc Tryd.prog W 0 (fun _ => true) true 28 (.slice a n c) d p) (hs : Sized 28 d) :
    ∃ b : Str, b.length = n ∧ Src W (fun k => k < W.heap.size) a n c (cells b) ∧ n ≤ 140737488351232 := by
  obtain ⟨zs, h1, h2, h3, _⟩ := open_nums Tryd.underlying28 Tryd.underlying5 (by kernel_rfl) h
  have e : zs.map (Value.int .u8) = cells (zs.map fun z => UInt8.ofNat z.toNat) := by
    simp only [cells, List.map_map]
    apply List.map_congr_left
    intro z hz
    have := u8_of_wf (h2 z hz)
    simp only [Function.comp]
    rw [← this]
  have := sized_len (b := 1) hs Tryd.underlying28 (by kernel_rfl) h3
  exact ⟨zs.map fun z => UInt8.ofNat z.toNat, by simpa using h1.len, e ▸ h1, by omega⟩
set_option maxRecDepth 100000 in
theorem open_act {fuel : Nat} {cs : List Value} {d : DataW H} {pl : List MemPlace} (h : DataW.trod enc Tryd.prog W 0 (fun _ => true) true fuel 40 cs = some (d, pl)) (hs : Sized 40 d) :
    ∃ x A c, cs = (acells x A c).toList ∧ AcV W (fun k => k < W.heap.size) x A c := by
  have hC : Tryd.prog.cellsOf 40 = 4 := by kernel_rfl
  obtain ⟨xs, n, _, hx, hlen, hxl, hg⟩ := DataW.trod_struct Tryd.underlying40 h
  have cI : Tryd.prog.cellsOf 3 = 1 := by kernel_rfl
  have cS : Tryd.prog.cellsOf 9 = 1 := by kernel_rfl
  have cB : Tryd.prog.cellsOf 28 = 1 := by kernel_rfl
  rw [hC] at hlen
  have hxl' : xs.length = 4 := hxl
  match cs, hlen, xs, hxl' with
  | [c0, c1, c2, c3], _, [y0, y1, y2, y3], _ =>
    have g0 : DataW.trod enc Tryd.prog W 0 (fun _ => true) true n 3 (List.take (Tryd.prog.cellsOf 3) [c0, c1, c2, c3]) = some y0 := hg 0 _ rfl
    rw [cI] at g0
    change DataW.trod enc Tryd.prog W 0 (fun _ => true) true n 3 [c0] = some y0 at g0
    have g1 : DataW.trod enc Tryd.prog W 0 (fun _ => true) true n 9 (List.take (Tryd.prog.cellsOf 9) [c1, c2, c3]) = some y1 := hg 1 _ rfl
    rw [cS] at g1
    change DataW.trod enc Tryd.prog W 0 (fun _ => true) true n 9 [c1] = some y1 at g1
    have g2 : DataW.trod enc Tryd.prog W 0 (fun _ => true) true n 9 (List.take (Tryd.prog.cellsOf 9) [c2, c3]) = some y2 := hg 2 _ rfl
    rw [cS] at g2
    change DataW.trod enc Tryd.prog W 0 (fun _ => true) true n 9 [c2] = some y2 at g2
    have g3 : DataW.trod enc Tryd.prog W 0 (fun _ => true) true n 28 (List.take (Tryd.prog.cellsOf 28) [c3]) = some y3 := hg 3 _ rfl
    rw [cB] at g3
    change DataW.trod enc Tryd.prog W 0 (fun _ => true) true n 28 [c3] = some y3 at g3
    obtain ⟨k, e0, _, _⟩ := DataW.trod_int Tryd.underlying3 g0
    obtain ⟨s1, e1, _, w1⟩ := DataW.trod_string Tryd.underlying9 g1
    obtain ⟨s2, e2, _, w2⟩ := DataW.trod_string Tryd.underlying9 g2
    obtain rfl : c0 = .int .i64 k := by simpa using e0
    obtain rfl : c1 = .string s1 := by simpa using e1
    obtain rfl : c2 = .string s2 := by simpa using e2
    obtain ⟨d3, p3⟩ := y3
    obtain ⟨A, m, c, rfl, t3⟩ := slice_of_trod Tryd.underlying28 g3
    have hd : d = .agg [y0.1, y1.1, y2.1, d3] := by injection hx
    subst hd
    obtain ⟨l, rfl, l2, l3⟩ := open_bs t3 (hs.part Tryd.underlying40 (j := 3) rfl rfl)
    refine ⟨⟨k, s1.data.toList, s2.data.toList, l⟩, A, c, ?_, l2, by simpa [maxLen] using w1, by simpa [maxLen] using w2, l3⟩
    rw [str_of s1, str_of s2]
    rfl
theorem open_acts {a : Option Addr} {n c : Nat} {d : DataW H} {p : List MemPlace} (h : DataW.Trod enc Tryd.prog W 0 (fun _ => true) true 27 (.slice a n c) d p) (hs : Sized 27 d) :
    ∃ xs : List Ac, Acs W (fun k => k < W.heap.size) a n c xs ∧ n ≤ 140737488351232 := by
  have hC : Tryd.prog.cellsOf 40 = 4 := by kernel_rfl
  obtain ⟨fuel, hf⟩ := h
  rcases open_slice Tryd.underlying27 hf with ⟨hcs, hx⟩ | ⟨a0, len, cap, m, n', D, Pl, hcs, _, hl, hm, hmm, hx, hi⟩
  · simp [Value.cells] at hcs
    obtain ⟨rfl, rfl, rfl⟩ := hcs
    exact ⟨[], ⟨rfl, fun _ => ⟨rfl, rfl⟩, Nat.le_refl _, (by intro ad h; cases h), (by intro ad h; cases h)⟩, by omega⟩
  · simp [Value.cells] at hcs
    obtain ⟨rfl, rfl, rfl⟩ := hcs
    simp only [if_true] at hmm
    subst hmm
    have hd := (Prod.mk.inj hx).1
    have hsz : ∀ i, i < n → Sized 40 (D i) := by
      intro i hin
      have h' := hs
      rw [hd] at h'
      refine h'.elem Tryd.underlying27 ?_
      simp
      exact ⟨i, hin, rfl⟩
    have each : ∀ i, i < n → ∃ x : Ac, ∃ Ai ci, AcV W (fun k => k < W.heap.size) x Ai ci ∧ ∀ j u, (acells x Ai ci)[j]? = some u → W.cell? (a0.add (i * 4 + j)) = some u := by
      intro i hin
      obtain ⟨cs', hc, ht'⟩ := hi i (by omega)
      rw [hC] at hc
      obtain ⟨_, hcl, hat⟩ := World.cells?_some hc
      obtain ⟨x, Ai, ci, rfl, hv⟩ := open_act ht' (hsz i hin)
      refine ⟨x, Ai, ci, hv, fun j u hu => ?_⟩
      have hj : j < 4 := by have := (Array.getElem?_eq_some_iff.1 hu).1; simpa [acells] using this
      rw [← addAdd, hat j hj, ← hu]
      simp
    have hch : ∃ g : Nat → Ac, ∀ i, i < n → ∃ Ai ci, AcV W (fun k => k < W.heap.size) (g i) Ai ci ∧ ∀ j u, (acells (g i) Ai ci)[j]? = some u → W.cell? (a0.add (i * 4 + j)) = some u := by
      refine ⟨fun i => if h : i < n then Classical.choose (each i h) else ⟨0, [], [], []⟩, fun i h => ?_⟩
      simp only [dif_pos h]
      exact Classical.choose_spec (each i h)
    obtain ⟨g, hg⟩ := hch
    refine ⟨(List.range n).map g, ⟨by simp, (by intro h; cases h), hl, ?_, ?_⟩, ?_⟩
    · intro ad h h0
      cases h
      obtain ⟨Ai, ci, _, hcl⟩ := hg 0 h0
      have := World.block_lt_of_cell? W _ (hcl 0 _ rfl)
      rw [addBlock] at this
      exact this
    · intro ad h i hi'
      cases h
      have hin : i < n := by simpa using hi'
      have he : ((List.range n).map g)[i] = g i := by simp
      rw [he]
      exact hg i hin
    · have := sized_len (e := 40) (b := 64) (n := n) hs Tryd.underlying27 (by kernel_rfl) (.inr ⟨_, _, hd, by simp⟩)
      omega
end
end Go.Proofs.YtmabhciijdceoaaDoor
