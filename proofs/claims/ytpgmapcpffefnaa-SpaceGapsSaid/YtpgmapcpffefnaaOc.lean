/-
  How a script, an act and bytes come in.
-/
import Derived.Test.YtpgmapcpffefnaaAj
import Derived.Test.YtpgmapcpffefnaaOp
namespace Go.Proofs.Ytpgmapcpffefnaa
open Go.ChangeShapes Go.WideShapes Go.ChangeAt Go.RowKit Go.Deep

theorem u16_of_wf {n : Int} (h : (Lit.int .u16 n).wf = true) : n = ((UInt16.ofNat n.toNat).toNat : Int) := by
  simp [Lit.wf, IntKind.min, IntKind.max, IntKind.signed, IntKind.bits] at h
  rw [UInt16.toNat_ofNat', Nat.mod_eq_of_lt (by omega)]
  omega
section
variable {H : Type} {enc : TypeId × Value → H} {W : World}
theorem open_bs {a : Option Addr} {n c : Nat} {d : DataW H} {p : List MemPlace} (h : DataW.Trod enc Try.prog W 0 (fun _ => true) true 31 (.slice a n c) d p) (hs : Sized 31 d) :
    ∃ b : Str, b.length = n ∧ Src W (fun k => k < W.heap.size) a n c (cells b) ∧ n ≤ 140737488351232 := by
  obtain ⟨zs, h1, h2, h3, _⟩ := open_nums Try.underlying31 Try.underlying5 (by kernel_rfl) h
  have e : zs.map (Value.int .u8) = cells (zs.map fun z => UInt8.ofNat z.toNat) := by
    simp only [cells, List.map_map]
    apply List.map_congr_left
    intro z hz
    have := u8_of_wf (h2 z hz)
    simp only [Function.comp]
    rw [← this]
  have := sized_len (b := 1) hs Try.underlying31 (by kernel_rfl) h3
  exact ⟨zs.map fun z => UInt8.ofNat z.toNat, by simpa using h1.len, e ▸ h1, by omega⟩
set_option maxRecDepth 100000 in
theorem open_act {fuel : Nat} {cs : List Value} {d : DataW H} {pl : List MemPlace} (h : DataW.trod enc Try.prog W 0 (fun _ => true) true fuel 33 cs = some (d, pl)) (hs : Sized 33 d) :
    ∃ x A c, cs = (acells x A c).toList ∧ AcV W (fun k => k < W.heap.size) x A c := by
  have hC : Try.prog.cellsOf 33 = 5 := by kernel_rfl
  obtain ⟨xs, n, _, hx, hlen, hxl, hg⟩ := DataW.trod_struct Try.underlying33 h
  have cI : Try.prog.cellsOf 3 = 1 := by kernel_rfl
  have cP : Try.prog.cellsOf 30 = 1 := by kernel_rfl
  have cB : Try.prog.cellsOf 31 = 1 := by kernel_rfl
  rw [hC] at hlen
  have hxl' : xs.length = 5 := hxl
  match cs, hlen, xs, hxl' with
  | [c0, c1, c2, c3, c4], _, [y0, y1, y2, y3, y4], _ =>
    have g0 : DataW.trod enc Try.prog W 0 (fun _ => true) true n 3 (List.take (Try.prog.cellsOf 3) [c0, c1, c2, c3, c4]) = some y0 := hg 0 _ rfl
    rw [cI] at g0
    change DataW.trod enc Try.prog W 0 (fun _ => true) true n 3 [c0] = some y0 at g0
    have g1 : DataW.trod enc Try.prog W 0 (fun _ => true) true n 3 (List.take (Try.prog.cellsOf 3) [c1, c2, c3, c4]) = some y1 := hg 1 _ rfl
    rw [cI] at g1
    change DataW.trod enc Try.prog W 0 (fun _ => true) true n 3 [c1] = some y1 at g1
    have g2 : DataW.trod enc Try.prog W 0 (fun _ => true) true n 3 (List.take (Try.prog.cellsOf 3) [c2, c3, c4]) = some y2 := hg 2 _ rfl
    rw [cI] at g2
    change DataW.trod enc Try.prog W 0 (fun _ => true) true n 3 [c2] = some y2 at g2
    have g3 : DataW.trod enc Try.prog W 0 (fun _ => true) true n 30 (List.take (Try.prog.cellsOf 30) [c3, c4]) = some y3 := hg 3 _ rfl
    rw [cP] at g3
    change DataW.trod enc Try.prog W 0 (fun _ => true) true n 30 [c3] = some y3 at g3
    have g4 : DataW.trod enc Try.prog W 0 (fun _ => true) true n 31 (List.take (Try.prog.cellsOf 31) [c4]) = some y4 := hg 4 _ rfl
    rw [cB] at g4
    change DataW.trod enc Try.prog W 0 (fun _ => true) true n 31 [c4] = some y4 at g4
    obtain ⟨k0, e0, _, _⟩ := DataW.trod_int Try.underlying3 g0
    obtain ⟨k1, e1, _, w1⟩ := DataW.trod_int Try.underlying3 g1
    obtain ⟨k2, e2, _, w2⟩ := DataW.trod_int Try.underlying3 g2
    obtain ⟨k3, e3, _, _⟩ := DataW.trod_int Try.underlying30 g3
    obtain rfl : c0 = .int .i64 k0 := by simpa using e0
    obtain rfl : c1 = .int .i64 k1 := by simpa using e1
    obtain rfl : c2 = .int .i64 k2 := by simpa using e2
    obtain rfl : c3 = .int .i64 k3 := by simpa using e3
    obtain ⟨d4, p4⟩ := y4
    obtain ⟨A, m, c, rfl, t4⟩ := slice_of_trod Try.underlying31 g4
    have hd : d = .agg [y0.1, y1.1, y2.1, y3.1, d4] := by injection hx
    subst hd
    obtain ⟨l, rfl, l2, l3⟩ := open_bs t4 (hs.part Try.underlying33 (j := 4) rfl rfl)
    exact ⟨⟨k0, k1, k2, k3, l⟩, A, c, rfl, l2, l3, i64_of_wf w1, i64_of_wf w2⟩
set_option maxRecDepth 100000 in
theorem open_act1 {r : Reach} {b0 : Nat} {v : Value} {d : DataW H} {p : List MemPlace} (hv : Value.okWide Try.prog W r b0 33 v) (h : DataW.Trod enc Try.prog W 0 (fun _ => true) true 33 v d p) (hs : Sized 33 d) :
    ∃ x A c, v = .agg (acells x A c) ∧ AcV W (fun k => k < W.heap.size) x A c := by
  unfold Value.okWide at hv
  rw [Try.underlying33] at hv
  obtain ⟨cs, rfl, _, _⟩ := hv
  obtain ⟨fuel, hf⟩ := h
  obtain ⟨x, A, c, e, hx⟩ := open_act hf hs
  have e' : cs = acells x A c := Array.ext' e
  subst e'
  exact ⟨x, A, c, rfl, hx⟩
theorem open_acts {a : Option Addr} {n c : Nat} {d : DataW H} {p : List MemPlace} (h : DataW.Trod enc Try.prog W 0 (fun _ => true) true 22 (.slice a n c) d p) (hs : Sized 22 d) :
    ∃ xs : List Ac, Acs W (fun k => k < W.heap.size) a n c xs ∧ n ≤ 140737488351232 := by
  have hC : Try.prog.cellsOf 33 = 5 := by kernel_rfl
  obtain ⟨fuel, hf⟩ := h
  rcases open_slice Try.underlying22 hf with ⟨hcs, hx⟩ | ⟨a0, len, cap, m, n', D, Pl, hcs, _, hl, hm, hmm, hx, hi⟩
  · simp [Value.cells] at hcs
    obtain ⟨rfl, rfl, rfl⟩ := hcs
    exact ⟨[], ⟨rfl, fun _ => ⟨rfl, rfl⟩, Nat.le_refl _, (by intro ad h; cases h), (by intro ad h; cases h)⟩, by omega⟩
  · simp [Value.cells] at hcs
    obtain ⟨rfl, rfl, rfl⟩ := hcs
    simp only [if_true] at hmm
    subst hmm
    have hd := (Prod.mk.inj hx).1
    have hsz : ∀ i, i < n → Sized 33 (D i) := by
      intro i hin
      have h' := hs
      rw [hd] at h'
      refine h'.elem Try.underlying22 ?_
      simp
      exact ⟨i, hin, rfl⟩
    have each : ∀ i, i < n → ∃ x : Ac, ∃ Ai ci, AcV W (fun k => k < W.heap.size) x Ai ci ∧ ∀ j u, (acells x Ai ci)[j]? = some u → W.cell? (a0.add (i * 5 + j)) = some u := by
      intro i hin
      obtain ⟨cs', hc, ht'⟩ := hi i (by omega)
      rw [hC] at hc
      obtain ⟨_, hcl, hat⟩ := World.cells?_some hc
      obtain ⟨x, Ai, ci, rfl, hv⟩ := open_act ht' (hsz i hin)
      refine ⟨x, Ai, ci, hv, fun j u hu => ?_⟩
      have hj : j < 5 := by have := (Array.getElem?_eq_some_iff.1 hu).1; simpa [acells] using this
      rw [← addAdd, hat j hj, ← hu]
      simp
    have hch : ∃ g : Nat → Ac, ∀ i, i < n → ∃ Ai ci, AcV W (fun k => k < W.heap.size) (g i) Ai ci ∧ ∀ j u, (acells (g i) Ai ci)[j]? = some u → W.cell? (a0.add (i * 5 + j)) = some u := by
      refine ⟨fun i => if h : i < n then Classical.choose (each i h) else ⟨0, 0, 0, 0, []⟩, fun i h => ?_⟩
      simp only [dif_pos h]
      exact Classical.choose_spec (each i h)
    obtain ⟨g, hg⟩ := hch
    refine ⟨(List.range n).map g, ⟨by simp, (by intro h; cases h), hl, ?_, ?_⟩, ?_⟩
    · intro ad h h0
      cases h
      obtain ⟨Ai, ci, _, hcl⟩ := hg 0 h0
      have := World.block_lt_of_cell? W _ (hcl 0 _ rfl)
      rw [addBlock] at this
      exact this
    · intro ad h i hi'
      cases h
      have hin : i < n := by simpa using hi'
      have he : ((List.range n).map g)[i] = g i := by simp
      rw [he]
      exact hg i hin
    · have := sized_len (e := 33) (b := 56) (n := n) hs Try.underlying22 (by kernel_rfl) (.inr ⟨_, _, hd, by simp⟩)
      omega
end
end Go.Proofs.Ytpgmapcpffefnaa
