/-
  How symbols come in: by value, and in slices.
-/
import Derived.Test.YtpcgedngikpnoaaYF
import Derived.Test.YtpcgedngikpnoaaOp
namespace Go.Proofs.Ytpcgedngikpnoaa
set_option maxRecDepth 100000
set_option linter.unusedSimpArgs false
set_option linter.unusedVariables false
open Go.ChangeShapes Go.WideShapes Go.ChangeAt Go.RowKit Go.Deep

section
variable {H : Type} {enc : TypeId × Value → H} {W : World}
/-- A text of a length that may come in. -/
def Small (s : Sym) : Prop := s.name.length ≤ 140737488351232 ∧ s.ver.length ≤ 140737488351232
set_option maxRecDepth 100000 in
theorem open_symC {fuel : Nat} {cs : List Value} {d : DataW H} {pl : List MemPlace} (h : DataW.trod enc Try.prog W 0 (fun _ => true) true fuel 25 cs = some (d, pl)) (hs : Sized 25 d) :
    ∃ s : Sym, cs = (symA s).toList ∧ Small s := by
  have hC : Try.prog.cellsOf 25 = 9 := by kernel_rfl
  obtain ⟨xs, n, _, hx, hlen, hxl, hg⟩ := DataW.trod_struct Try.underlying25 h
  have kS : Try.prog.cellsOf 9 = 1 := by kernel_rfl
  have kB : Try.prog.cellsOf 4 = 1 := by kernel_rfl
  have kI : Try.prog.cellsOf 3 = 1 := by kernel_rfl
  have kK : Try.prog.cellsOf 22 = 1 := by kernel_rfl
  have kV : Try.prog.cellsOf 23 = 1 := by kernel_rfl
  rw [hC] at hlen
  have hxl' : xs.length = 9 := hxl
  match cs, hlen, xs, hxl' with
  | [c0, c1, c2, c3, c4, c5, c6, c7, c8], _, [y0, y1, y2, y3, y4, y5, y6, y7, y8], _ =>
    have g0 : DataW.trod enc Try.prog W 0 (fun _ => true) true n 9 (List.take (Try.prog.cellsOf 9) [c0, c1, c2, c3, c4, c5, c6, c7, c8]) = some y0 := hg 0 _ rfl
    rw [kS] at g0
    change DataW.trod enc Try.prog W 0 (fun _ => true) true n 9 [c0] = some y0 at g0
    have g1 : DataW.trod enc Try.prog W 0 (fun _ => true) true n 9 (List.take (Try.prog.cellsOf 9) [c1, c2, c3, c4, c5, c6, c7, c8]) = some y1 := hg 1 _ rfl
    rw [kS] at g1
    change DataW.trod enc Try.prog W 0 (fun _ => true) true n 9 [c1] = some y1 at g1
    have g2 : DataW.trod enc Try.prog W 0 (fun _ => true) true n 4 (List.take (Try.prog.cellsOf 4) [c2, c3, c4, c5, c6, c7, c8]) = some y2 := hg 2 _ rfl
    rw [kB] at g2
    change DataW.trod enc Try.prog W 0 (fun _ => true) true n 4 [c2] = some y2 at g2
    have g3 : DataW.trod enc Try.prog W 0 (fun _ => true) true n 22 (List.take (Try.prog.cellsOf 22) [c3, c4, c5, c6, c7, c8]) = some y3 := hg 3 _ rfl
    rw [kK] at g3
    change DataW.trod enc Try.prog W 0 (fun _ => true) true n 22 [c3] = some y3 at g3
    have g4 : DataW.trod enc Try.prog W 0 (fun _ => true) true n 4 (List.take (Try.prog.cellsOf 4) [c4, c5, c6, c7, c8]) = some y4 := hg 4 _ rfl
    rw [kB] at g4
    change DataW.trod enc Try.prog W 0 (fun _ => true) true n 4 [c4] = some y4 at g4
    have g5 : DataW.trod enc Try.prog W 0 (fun _ => true) true n 23 (List.take (Try.prog.cellsOf 23) [c5, c6, c7, c8]) = some y5 := hg 5 _ rfl
    rw [kV] at g5
    change DataW.trod enc Try.prog W 0 (fun _ => true) true n 23 [c5] = some y5 at g5
    have g6 : DataW.trod enc Try.prog W 0 (fun _ => true) true n 4 (List.take (Try.prog.cellsOf 4) [c6, c7, c8]) = some y6 := hg 6 _ rfl
    rw [kB] at g6
    change DataW.trod enc Try.prog W 0 (fun _ => true) true n 4 [c6] = some y6 at g6
    have g7 : DataW.trod enc Try.prog W 0 (fun _ => true) true n 3 (List.take (Try.prog.cellsOf 3) [c7, c8]) = some y7 := hg 7 _ rfl
    rw [kI] at g7
    change DataW.trod enc Try.prog W 0 (fun _ => true) true n 3 [c7] = some y7 at g7
    have g8 : DataW.trod enc Try.prog W 0 (fun _ => true) true n 3 (List.take (Try.prog.cellsOf 3) [c8]) = some y8 := hg 8 _ rfl
    rw [kI] at g8
    change DataW.trod enc Try.prog W 0 (fun _ => true) true n 3 [c8] = some y8 at g8
    obtain ⟨k0, e0, f0, _⟩ := DataW.trod_string Try.underlying9 g0
    obtain rfl : c0 = .string k0 := by simpa using e0
    obtain ⟨k1, e1, f1, _⟩ := DataW.trod_string Try.underlying9 g1
    obtain rfl : c1 = .string k1 := by simpa using e1
    obtain ⟨k2, e2, f2⟩ := DataW.trod_bool Try.underlying4 g2
    obtain rfl : c2 = .bool k2 := by simpa using e2
    obtain ⟨k3, e3, f3, _⟩ := DataW.trod_int Try.underlying22 g3
    obtain rfl : c3 = .int .i64 k3 := by simpa using e3
    obtain ⟨k4, e4, f4⟩ := DataW.trod_bool Try.underlying4 g4
    obtain rfl : c4 = .bool k4 := by simpa using e4
    obtain ⟨k5, e5, f5, _⟩ := DataW.trod_int Try.underlying23 g5
    obtain rfl : c5 = .int .i64 k5 := by simpa using e5
    obtain ⟨k6, e6, f6⟩ := DataW.trod_bool Try.underlying4 g6
    obtain rfl : c6 = .bool k6 := by simpa using e6
    obtain ⟨k7, e7, f7, _⟩ := DataW.trod_int Try.underlying3 g7
    obtain rfl : c7 = .int .i64 k7 := by simpa using e7
    obtain ⟨k8, e8, f8, _⟩ := DataW.trod_int Try.underlying3 g8
    obtain rfl : c8 = .int .i64 k8 := by simpa using e8
    have hd : d = .agg [y0.1, y1.1, y2.1, y3.1, y4.1, y5.1, y6.1, y7.1, y8.1] := by injection hx
    subst hd
    subst f0
    subst f1
    have z0 := (hs.part Try.underlying25 (j := 0) rfl rfl).str
    have z1 := (hs.part Try.underlying25 (j := 1) rfl rfl).str
    refine ⟨⟨k0.data.toList, k1.data.toList, k2, k3, k4, k5, k6, k7, k8⟩, ?_, z0, z1⟩
    simp only [str_of]
theorem open_sym {r : Reach} {b0 : Nat} {v : Value} {d : DataW H} {p : List MemPlace} (hv : Value.okWide Try.prog W r b0 25 v) (h : DataW.Trod enc Try.prog W 0 (fun _ => true) true 25 v d p) (hs : Sized 25 d) :
    ∃ s : Sym, v = symV s ∧ Small s := by
  unfold Value.okWide at hv
  rw [Try.underlying25] at hv
  obtain ⟨cs, rfl, _, _⟩ := hv
  obtain ⟨fuel, hf⟩ := h
  obtain ⟨s, h1, h2⟩ := open_symC hf hs
  refine ⟨s, ?_, h2⟩
  rw [symV]
  congr 1
  exact Array.toList_inj.1 h1
theorem open_syms {a : Option Addr} {n c : Nat} {d : DataW H} {p : List MemPlace} (h : DataW.Trod enc Try.prog W 0 (fun _ => true) true 51 (.slice a n c) d p) (hs : Sized 51 d) :
    ∃ ss : List Sym, Syl W (fun k => k < W.heap.size) a n c ss ∧ n * 88 ≤ 140737488351232 ∧ ∀ s ∈ ss, Small s := by
  have hC : Try.prog.cellsOf 25 = 9 := by kernel_rfl
  obtain ⟨fuel, hf⟩ := h
  rcases open_slice Try.underlying51 hf with ⟨hcs, hx⟩ | ⟨a0, len, cap, m, n', D, Pl, hcs, _, hl, hm, hmm, hx, hi⟩
  · simp [Value.cells] at hcs
    obtain ⟨rfl, rfl, rfl⟩ := hcs
    exact ⟨[], ⟨rfl, fun _ => ⟨rfl, rfl⟩, Nat.le_refl _, (by intro ad h; cases h), (by intro ad h; cases h)⟩, by omega, by intro s hs; cases hs⟩
  · simp [Value.cells] at hcs
    obtain ⟨rfl, rfl, rfl⟩ := hcs
    simp only [if_true] at hmm
    subst hmm
    have hd := (Prod.mk.inj hx).1
    have hsz : ∀ i, i < n → Sized 25 (D i) := by
      intro i hin
      have h' := hs
      rw [hd] at h'
      refine h'.elem Try.underlying51 ?_
      simp
      exact ⟨i, hin, rfl⟩
    have each : ∀ i, i < n → ∃ x : Sym, (∀ j u, (symA x)[j]? = some u → W.cell? (a0.add (i * 9 + j)) = some u) ∧ Small x := by
      intro i hin
      obtain ⟨cs', hc, ht'⟩ := hi i (by omega)
      rw [hC] at hc
      obtain ⟨_, hcl, hat⟩ := World.cells?_some hc
      obtain ⟨x, hxe, hsm⟩ := open_symC ht' (hsz i hin)
      refine ⟨x, fun j u hu => ?_, hsm⟩
      have hj : j < 9 := by have := (Array.getElem?_eq_some_iff.1 hu).1; simpa using this
      rw [← addAdd, hat j hj, ← hu, ← Array.getElem?_toList, ← hxe]
    have hch : ∃ g : Nat → Sym, ∀ i, i < n → (∀ j u, (symA (g i))[j]? = some u → W.cell? (a0.add (i * 9 + j)) = some u) ∧ Small (g i) := by
      refine ⟨fun i => if h : i < n then Classical.choose (each i h) else ⟨[], [], false, 0, false, 0, false, 0, 0⟩, fun i h => ?_⟩
      simp only [dif_pos h]
      exact Classical.choose_spec (each i h)
    obtain ⟨g, hg⟩ := hch
    refine ⟨(List.range n).map g, ⟨by simp, (by intro h; cases h), hl, ?_, ?_⟩, ?_, ?_⟩
    · intro ad h h0
      cases h
      have := World.block_lt_of_cell? W _ ((hg 0 h0).1 0 _ rfl)
      rw [addBlock] at this
      exact this
    · intro ad h i hi' j u hu
      cases h
      have hin : i < n := by simpa using hi'
      have he : ((List.range n).map g)[i] = g i := by simp
      rw [he] at hu
      exact (hg i hin).1 j u hu
    · exact sized_len (e := 25) (b := 88) (n := n) hs Try.underlying51 (by kernel_rfl) (.inr ⟨_, _, hd, by simp⟩)
    · intro s hs
      obtain ⟨i, hi', rfl⟩ := List.mem_map.1 hs
      exact (hg i (by simpa using hi')).2
end
end Go.Proofs.Ytpcgedngikpnoaa
