/-
  How a script, an act and bytes come in.
  How instructions and a case come in.
-/
import Derived.Test.YtfkhfjefddgkoaaDoorZD
import Derived.Test.YtfkhfjefddgkoaaDoorZSBw
import Derived.Test.YtfkhfjefddgkoaaDoorZQ
namespace Go.Proofs.YtfkhfjefddgkoaaDoor
open Go.ChangeShapes Go.WideShapes Go.ChangeAt Go.RowKit Go.Deep

theorem u16_of_wf {n : Int} (h : (Lit.int .u16 n).wf = true) : n = ((UInt16.ofNat n.toNat).toNat : Int) := by
  simp [Lit.wf, IntKind.min, IntKind.max, IntKind.signed, IntKind.bits] at h
  rw [UInt16.toNat_ofNat', Nat.mod_eq_of_lt (by omega)]
  omega
section
variable {H : Type} {enc : TypeId × Value → H} {W : World}
theorem open_bs {a : Option Addr} {n c : Nat} {d : DataW H} {p : List MemPlace} (h : DataW.Trod enc Tryd.prog W 0 (fun _ => true) true 55 (.slice a n c) d p) (hs : Sized 55 d) :
    ∃ b : Str, b.length = n ∧ Src W (fun k => k < W.heap.size) a n c (cells b) ∧ n ≤ 140737488351232 := by
  obtain ⟨zs, h1, h2, h3, _⟩ := open_nums Tryd.underlying55 Tryd.underlying5 (by kernel_rfl) h
  have e : zs.map (Value.int .u8) = cells (zs.map fun z => UInt8.ofNat z.toNat) := by
    simp only [cells, List.map_map]
    apply List.map_congr_left
    intro z hz
    have := u8_of_wf (h2 z hz)
    simp only [Function.comp]
    rw [← this]
  have := sized_len (b := 1) hs Tryd.underlying55 (by kernel_rfl) h3
  exact ⟨zs.map fun z => UInt8.ofNat z.toNat, by simpa using h1.len, e ▸ h1, by omega⟩
set_option maxRecDepth 100000 in
theorem open_act {fuel : Nat} {cs : List Value} {d : DataW H} {pl : List MemPlace} (h : DataW.trod enc Tryd.prog W 0 (fun _ => true) true fuel 68 cs = some (d, pl)) (hs : Sized 68 d) :
    ∃ x A c, cs = (acells x A c).toList ∧ AcV W (fun k => k < W.heap.size) x A c := by
  have hC : Tryd.prog.cellsOf 68 = 5 := by kernel_rfl
  obtain ⟨xs, n, _, hx, hlen, hxl, hg⟩ := DataW.trod_struct Tryd.underlying68 h
  have cI : Tryd.prog.cellsOf 3 = 1 := by kernel_rfl
  have cP : Tryd.prog.cellsOf 53 = 1 := by kernel_rfl
  have cB : Tryd.prog.cellsOf 55 = 1 := by kernel_rfl
  rw [hC] at hlen
  have hxl' : xs.length = 5 := hxl
  match cs, hlen, xs, hxl' with
  | [c0, c1, c2, c3, c4], _, [y0, y1, y2, y3, y4], _ =>
    have g0 : DataW.trod enc Tryd.prog W 0 (fun _ => true) true n 3 (List.take (Tryd.prog.cellsOf 3) [c0, c1, c2, c3, c4]) = some y0 := hg 0 _ rfl
    rw [cI] at g0
    change DataW.trod enc Tryd.prog W 0 (fun _ => true) true n 3 [c0] = some y0 at g0
    have g1 : DataW.trod enc Tryd.prog W 0 (fun _ => true) true n 3 (List.take (Tryd.prog.cellsOf 3) [c1, c2, c3, c4]) = some y1 := hg 1 _ rfl
    rw [cI] at g1
    change DataW.trod enc Tryd.prog W 0 (fun _ => true) true n 3 [c1] = some y1 at g1
    have g2 : DataW.trod enc Tryd.prog W 0 (fun _ => true) true n 3 (List.take (Tryd.prog.cellsOf 3) [c2, c3, c4]) = some y2 := hg 2 _ rfl
    rw [cI] at g2
    change DataW.trod enc Tryd.prog W 0 (fun _ => true) true n 3 [c2] = some y2 at g2
    have g3 : DataW.trod enc Tryd.prog W 0 (fun _ => true) true n 53 (List.take (Tryd.prog.cellsOf 53) [c3, c4]) = some y3 := hg 3 _ rfl
    rw [cP] at g3
    change DataW.trod enc Tryd.prog W 0 (fun _ => true) true n 53 [c3] = some y3 at g3
    have g4 : DataW.trod enc Tryd.prog W 0 (fun _ => true) true n 55 (List.take (Tryd.prog.cellsOf 55) [c4]) = some y4 := hg 4 _ rfl
    rw [cB] at g4
    change DataW.trod enc Tryd.prog W 0 (fun _ => true) true n 55 [c4] = some y4 at g4
    obtain ⟨k0, e0, _, _⟩ := DataW.trod_int Tryd.underlying3 g0
    obtain ⟨k1, e1, _, w1⟩ := DataW.trod_int Tryd.underlying3 g1
    obtain ⟨k2, e2, _, w2⟩ := DataW.trod_int Tryd.underlying3 g2
    obtain ⟨k3, e3, _, _⟩ := DataW.trod_int Tryd.underlying53 g3
    obtain rfl : c0 = .int .i64 k0 := by simpa using e0
    obtain rfl : c1 = .int .i64 k1 := by simpa using e1
    obtain rfl : c2 = .int .i64 k2 := by simpa using e2
    obtain rfl : c3 = .int .i64 k3 := by simpa using e3
    obtain ⟨d4, p4⟩ := y4
    obtain ⟨A, m, c, rfl, t4⟩ := slice_of_trod Tryd.underlying55 g4
    have hd : d = .agg [y0.1, y1.1, y2.1, y3.1, d4] := by injection hx
    subst hd
    obtain ⟨l, rfl, l2, l3⟩ := open_bs t4 (hs.part Tryd.underlying68 (j := 4) rfl rfl)
    exact ⟨⟨k0, k1, k2, k3, l⟩, A, c, rfl, l2, l3, i64_of_wf w1, i64_of_wf w2⟩
set_option maxRecDepth 100000 in
theorem open_act1 {r : Reach} {b0 : Nat} {v : Value} {d : DataW H} {p : List MemPlace} (hv : Value.okWide Tryd.prog W r b0 68 v) (h : DataW.Trod enc Tryd.prog W 0 (fun _ => true) true 68 v d p) (hs : Sized 68 d) :
    ∃ x A c, v = .agg (acells x A c) ∧ AcV W (fun k => k < W.heap.size) x A c := by
  unfold Value.okWide at hv
  rw [Tryd.underlying68] at hv
  obtain ⟨cs, rfl, _, _⟩ := hv
  obtain ⟨fuel, hf⟩ := h
  obtain ⟨x, A, c, e, hx⟩ := open_act hf hs
  have e' : cs = acells x A c := Array.ext' e
  subst e'
  exact ⟨x, A, c, rfl, hx⟩
theorem open_acts {a : Option Addr} {n c : Nat} {d : DataW H} {p : List MemPlace} (h : DataW.Trod enc Tryd.prog W 0 (fun _ => true) true 22 (.slice a n c) d p) (hs : Sized 22 d) :
    ∃ xs : List Ac, Acs W (fun k => k < W.heap.size) a n c xs ∧ n ≤ 140737488351232 := by
  have hC : Tryd.prog.cellsOf 68 = 5 := by kernel_rfl
  obtain ⟨fuel, hf⟩ := h
  rcases open_slice Tryd.underlying22 hf with ⟨hcs, hx⟩ | ⟨a0, len, cap, m, n', D, Pl, hcs, _, hl, hm, hmm, hx, hi⟩
  · simp [Value.cells] at hcs
    obtain ⟨rfl, rfl, rfl⟩ := hcs
    exact ⟨[], ⟨rfl, fun _ => ⟨rfl, rfl⟩, Nat.le_refl _, (by intro ad h; cases h), (by intro ad h; cases h)⟩, by omega⟩
  · simp [Value.cells] at hcs
    obtain ⟨rfl, rfl, rfl⟩ := hcs
    simp only [if_true] at hmm
    subst hmm
    have hd := (Prod.mk.inj hx).1
    have hsz : ∀ i, i < n → Sized 68 (D i) := by
      intro i hin
      have h' := hs
      rw [hd] at h'
      refine h'.elem Tryd.underlying22 ?_
      simp
      exact ⟨i, hin, rfl⟩
    have each : ∀ i, i < n → ∃ x : Ac, ∃ Ai ci, AcV W (fun k => k < W.heap.size) x Ai ci ∧ ∀ j u, (acells x Ai ci)[j]? = some u → W.cell? (a0.add (i * 5 + j)) = some u := by
      intro i hin
      obtain ⟨cs', hc, ht'⟩ := hi i (by omega)
      rw [hC] at hc
      obtain ⟨_, hcl, hat⟩ := World.cells?_some hc
      obtain ⟨x, Ai, ci, rfl, hv⟩ := open_act ht' (hsz i hin)
      refine ⟨x, Ai, ci, hv, fun j u hu => ?_⟩
      have hj : j < 5 := by have := (Array.getElem?_eq_some_iff.1 hu).1; simpa [acells] using this
      rw [← addAdd, hat j hj, ← hu]
      simp
    have hch : ∃ g : Nat → Ac, ∀ i, i < n → ∃ Ai ci, AcV W (fun k => k < W.heap.size) (g i) Ai ci ∧ ∀ j u, (acells (g i) Ai ci)[j]? = some u → W.cell? (a0.add (i * 5 + j)) = some u := by
      refine ⟨fun i => if h : i < n then Classical.choose (each i h) else ⟨0, 0, 0, 0, []⟩, fun i h => ?_⟩
      simp only [dif_pos h]
      exact Classical.choose_spec (each i h)
    obtain ⟨g, hg⟩ := hch
    refine ⟨(List.range n).map g, ⟨by simp, (by intro h; cases h), hl, ?_, ?_⟩, ?_⟩
    · intro ad h h0
      cases h
      obtain ⟨Ai, ci, _, hcl⟩ := hg 0 h0
      have := World.block_lt_of_cell? W _ (hcl 0 _ rfl)
      rw [addBlock] at this
      exact this
    · intro ad h i hi'
      cases h
      have hin : i < n := by simpa using hi'
      have he : ((List.range n).map g)[i] = g i := by simp
      rw [he]
      exact hg i hin
    · have := sized_len (e := 68) (b := 56) (n := n) hs Tryd.underlying22 (by kernel_rfl) (.inr ⟨_, _, hd, by simp⟩)
      omega
end
end Go.Proofs.YtfkhfjefddgkoaaDoor

namespace Go.Proofs.YtfkhfjefddgkoaaDoor
open Go.ChangeShapes Go.WideShapes Go.ChangeAt Go.RowKit Go.Deep

section
variable {H : Type} {enc : TypeId × Value → H} {W : World}
abbrev insL (i : Ins) : List Value := [.int .i64 i.op, .int .i64 i.a, .int .i64 i.b, .int .i64 i.c, .int .i64 i.n]
set_option maxRecDepth 100000 in
theorem open_inst0 {fuel : Nat} {cs : List Value} {d : DataW H} {pl : List MemPlace} (h : DataW.trod enc Tryd.prog W 0 (fun _ => true) true fuel 51 cs = some (d, pl)) :
    ∃ i : Ins, cs = insL i ∧ I64 i.n := by
  have hC : Tryd.prog.cellsOf 51 = 5 := by kernel_rfl
  obtain ⟨xs, n, _, hx, hlen, hxl, hg⟩ := DataW.trod_struct Tryd.underlying51 h
  have cI : Tryd.prog.cellsOf 3 = 1 := by kernel_rfl
  have cO : Tryd.prog.cellsOf 49 = 1 := by kernel_rfl
  rw [hC] at hlen
  have hxl' : xs.length = 5 := hxl
  match cs, hlen, xs, hxl' with
  | [c0, c1, c2, c3, c4], _, [y0, y1, y2, y3, y4], _ =>
    have g0 : DataW.trod enc Tryd.prog W 0 (fun _ => true) true n 49 (List.take (Tryd.prog.cellsOf 49) [c0, c1, c2, c3, c4]) = some y0 := hg 0 _ rfl
    have g1 : DataW.trod enc Tryd.prog W 0 (fun _ => true) true n 3 (List.take (Tryd.prog.cellsOf 3) [c1, c2, c3, c4]) = some y1 := hg 1 _ rfl
    have g2 : DataW.trod enc Tryd.prog W 0 (fun _ => true) true n 3 (List.take (Tryd.prog.cellsOf 3) [c2, c3, c4]) = some y2 := hg 2 _ rfl
    have g3 : DataW.trod enc Tryd.prog W 0 (fun _ => true) true n 3 (List.take (Tryd.prog.cellsOf 3) [c3, c4]) = some y3 := hg 3 _ rfl
    have g4 : DataW.trod enc Tryd.prog W 0 (fun _ => true) true n 3 (List.take (Tryd.prog.cellsOf 3) [c4]) = some y4 := hg 4 _ rfl
    rw [cO] at g0
    rw [cI] at g1 g2 g3 g4
    obtain ⟨k0, e0, _, _⟩ := DataW.trod_int Tryd.underlying49 g0
    obtain ⟨k1, e1, _, _⟩ := DataW.trod_int Tryd.underlying3 g1
    obtain ⟨k2, e2, _, _⟩ := DataW.trod_int Tryd.underlying3 g2
    obtain ⟨k3, e3, _, _⟩ := DataW.trod_int Tryd.underlying3 g3
    obtain ⟨k4, e4, _, w4⟩ := DataW.trod_int Tryd.underlying3 g4
    obtain rfl : c0 = .int .i64 k0 := by simpa using e0
    obtain rfl : c1 = .int .i64 k1 := by simpa using e1
    obtain rfl : c2 = .int .i64 k2 := by simpa using e2
    obtain rfl : c3 = .int .i64 k3 := by simpa using e3
    obtain rfl : c4 = .int .i64 k4 := by simpa using e4
    exact ⟨⟨k0, k1, k2, k3, k4⟩, rfl, i64_of_wf w4⟩
set_option maxRecDepth 100000 in
theorem open_inst {r : Reach} {b0 : Nat} {v : Value} {d : DataW H} {p : List MemPlace} (hv : Value.okWide Tryd.prog W r b0 51 v) (h : DataW.Trod enc Tryd.prog W 0 (fun _ => true) true 51 v d p) :
    ∃ i : Ins, v = Cod.insV i ∧ I64 i.n := by
  unfold Value.okWide at hv
  rw [Tryd.underlying51] at hv
  obtain ⟨cs, rfl, _, _⟩ := hv
  obtain ⟨fuel, hf⟩ := h
  obtain ⟨i, e, hi⟩ := open_inst0 hf
  have e' : cs = #[.int .i64 i.op, .int .i64 i.a, .int .i64 i.b, .int .i64 i.c, .int .i64 i.n] := Array.ext' e
  subst e'
  exact ⟨i, rfl, hi⟩
theorem open_insts {a : Option Addr} {n c : Nat} {d : DataW H} {p : List MemPlace} (h : DataW.Trod enc Tryd.prog W 0 (fun _ => true) true 23 (.slice a n c) d p) (hs : Sized 23 d) :
    ∃ is : List Ins, Cod.Isl W (fun k => k < W.heap.size) a n c is ∧ n ≤ 140737488351232 := by
  have hC : Tryd.prog.cellsOf 51 = 5 := by kernel_rfl
  obtain ⟨fuel, hf⟩ := h
  rcases open_slice Tryd.underlying23 hf with ⟨hcs, hx⟩ | ⟨a0, len, cap, m, n', D, Pl, hcs, _, hl, hm, hmm, hx, hi⟩
  · simp [Value.cells] at hcs
    obtain ⟨rfl, rfl, rfl⟩ := hcs
    exact ⟨[], ⟨rfl, fun _ => ⟨rfl, rfl⟩, Nat.le_refl _, (by intro ad h; cases h), (by intro ad h; cases h)⟩, by omega⟩
  · simp [Value.cells] at hcs
    obtain ⟨rfl, rfl, rfl⟩ := hcs
    simp only [if_true] at hmm
    subst hmm
    have hd := (Prod.mk.inj hx).1
    have each : ∀ i, i < n → ∃ x : Ins, ∀ j u, (insL x)[j]? = some u → W.cell? (a0.add (i * 5 + j)) = some u := by
      intro i hin
      obtain ⟨cs', hc, ht'⟩ := hi i (by omega)
      rw [hC] at hc
      obtain ⟨_, hcl, hat⟩ := World.cells?_some hc
      obtain ⟨x, hxe, _⟩ := open_inst0 ht'
      refine ⟨x, fun j u hu => ?_⟩
      have hj : j < 5 := by have := (List.getElem?_eq_some_iff.1 hu).1; simpa using this
      rw [← addAdd, hat j hj, ← hu, hxe]
    have hch : ∃ g : Nat → Ins, ∀ i, i < n → ∀ j u, (insL (g i))[j]? = some u → W.cell? (a0.add (i * 5 + j)) = some u := by
      refine ⟨fun i => if h : i < n then Classical.choose (each i h) else ⟨0, 0, 0, 0, 0⟩, fun i h => ?_⟩
      simp only [dif_pos h]
      exact Classical.choose_spec (each i h)
    obtain ⟨g, hg⟩ := hch
    refine ⟨(List.range n).map g, ⟨by simp, (by intro h; cases h), hl, ?_, ?_⟩, ?_⟩
    · intro ad h h0
      cases h
      have := World.block_lt_of_cell? W _ (hg 0 h0 0 _ rfl)
      rw [addBlock] at this
      exact this
    · intro ad h i hi'
      cases h
      have hin : i < n := by simpa using hi'
      have he : ((List.range n).map g)[i] = g i := by simp
      rw [he]
      exact ⟨hg i hin 0 _ rfl, hg i hin 1 _ rfl, hg i hin 2 _ rfl, hg i hin 3 _ rfl, hg i hin 4 _ rfl⟩
    · have := sized_len (e := 51) (b := 40) (n := n) hs Tryd.underlying23 (by kernel_rfl) (.inr ⟨_, _, hd, by simp⟩)
      omega
set_option maxRecDepth 100000 in
theorem open_regs {fuel : Nat} {cs : List Value} {x : DataW H × List MemPlace} (h : DataW.trod enc Tryd.prog W 0 (fun _ => true) true fuel 24 cs = some x) :
    ∃ l : List Int, cs = ints l ∧ l.length = 16 ∧ ∀ i, i ∈ l → I64 i := by
  have hC : Tryd.prog.cellsOf 24 = 16 := by kernel_rfl
  have cI : Tryd.prog.cellsOf 3 = 1 := by kernel_rfl
  obtain ⟨xs, n, _, hx, hlen, hxl, hg⟩ := DataW.trod_array Tryd.underlying24 h
  rw [hC] at hlen
  have each : ∀ i (hi : i < cs.length), ∃ k, cs[i] = .int .i64 k ∧ I64 k := by
    intro i hi
    have g := hg i (by omega)
    rw [cI] at g
    have e1 : (cs.drop (i * 1)).take 1 = [cs[i]] := by
      rw [Nat.mul_one, List.drop_eq_getElem_cons hi]
      rfl
    rw [e1, List.getElem?_eq_getElem (by omega)] at g
    obtain ⟨k, e, _, w⟩ := DataW.trod_int Tryd.underlying3 g
    exact ⟨k, by simpa using e, i64_of_wf w⟩
  have gen : ∀ cs : List Value, (∀ i (hi : i < cs.length), ∃ k, cs[i] = .int .i64 k ∧ I64 k) → ∃ l : List Int, cs = ints l ∧ ∀ i, i ∈ l → I64 i := by
    intro cs
    induction cs with
    | nil => exact fun _ => ⟨[], rfl, by intro i hi; cases hi⟩
    | cons c r ih =>
      intro h
      obtain ⟨l, rfl, hl⟩ := ih fun i hi => h (i + 1) (by simpa using hi)
      obtain ⟨k, hk, hk2⟩ := h 0 (by simp)
      refine ⟨k :: l, by rw [show c = .int .i64 k from hk]; rfl, ?_⟩
      intro i hi
      rcases List.mem_cons.1 hi with rfl | hi
      · exact hk2
      · exact hl i hi
  obtain ⟨l, rfl, hl⟩ := gen cs each
  exact ⟨l, rfl, by simpa [ints] using hlen, hl⟩
set_option maxRecDepth 100000 in
theorem open_ctx {fuel : Nat} {cs : List Value} {x : DataW H × List MemPlace} (h : DataW.trod enc Tryd.prog W 0 (fun _ => true) true fuel 26 cs = some x) :
    ∃ c : Cx, cs = cxC c ∧ Okc c := by
  have hC : Tryd.prog.cellsOf 26 = 18 := by kernel_rfl
  have cI : Tryd.prog.cellsOf 3 = 1 := by kernel_rfl
  have cR : Tryd.prog.cellsOf 24 = 16 := by kernel_rfl
  obtain ⟨xs, n, _, hx, hlen, hxl, hg⟩ := DataW.trod_struct Tryd.underlying26 h
  rw [hC] at hlen
  have hxl' : xs.length = 3 := hxl
  match cs, hlen, xs, hxl' with
  | c0 :: c1 :: r, hlen, [y0, y1, y2], _ =>
    have g0 : DataW.trod enc Tryd.prog W 0 (fun _ => true) true n 3 (List.take (Tryd.prog.cellsOf 3) (c0 :: c1 :: r)) = some y0 := hg 0 _ rfl
    have g1 : DataW.trod enc Tryd.prog W 0 (fun _ => true) true n 3 (List.take (Tryd.prog.cellsOf 3) (c1 :: r)) = some y1 := hg 1 _ rfl
    have g2 : DataW.trod enc Tryd.prog W 0 (fun _ => true) true n 24 (List.take (Tryd.prog.cellsOf 24) r) = some y2 := hg 2 _ rfl
    rw [cI] at g0 g1
    rw [cR, List.take_of_length_le (by simp at hlen; omega)] at g2
    obtain ⟨k0, e0, _, w0⟩ := DataW.trod_int Tryd.underlying3 g0
    obtain ⟨k1, e1, _, w1⟩ := DataW.trod_int Tryd.underlying3 g1
    obtain rfl : c0 = .int .i64 k0 := by simpa using e0
    obtain rfl : c1 = .int .i64 k1 := by simpa using e1
    obtain ⟨l, rfl, hl, hi⟩ := open_regs g2
    refine ⟨⟨k0, k1, l⟩, rfl, hl, i64_of_wf w0, i64_of_wf w1, fun a => ?_⟩
    show I64 (l.getD a.toNat 0)
    rw [List.getD_eq_getElem?_getD]
    by_cases ha : a.toNat < l.length
    · rw [List.getElem?_eq_getElem ha]; exact hi _ (List.getElem_mem _)
    · rw [List.getElem?_eq_none (by omega)]; exact i64_zero
set_option maxRecDepth 100000 in
theorem open_case {r : Reach} {b0 : Nat} {v : Value} {d : DataW H} {p : List MemPlace} (hv : Value.okWide Tryd.prog W r b0 28 v) (h : DataW.Trod enc Tryd.prog W 0 (fun _ => true) true 28 v d p) (hs : Sized 28 d) :
    ∃ (x : Cs) (A : Option Addr) (c : Nat) (B : Option Addr) (e : Nat), v = caseV x A c B e ∧ CsV W (fun k => k < W.heap.size) x A c B e := by
  have hC : Tryd.prog.cellsOf 28 = 21 := by kernel_rfl
  unfold Value.okWide at hv
  rw [Tryd.underlying28] at hv
  obtain ⟨cs, rfl, _, _⟩ := hv
  obtain ⟨fuel, hf⟩ := h
  obtain ⟨cs⟩ := cs
  change DataW.trod enc Tryd.prog W 0 (fun _ => true) true fuel 28 cs = some (d, p) at hf
  obtain ⟨xs, n, _, hx, hlen, hxl, hg⟩ := DataW.trod_struct Tryd.underlying28 hf
  rw [hC] at hlen
  have hxl' : xs.length = 4 := hxl
  have cI : Tryd.prog.cellsOf 3 = 1 := by kernel_rfl
  have cA : Tryd.prog.cellsOf 22 = 1 := by kernel_rfl
  have cN : Tryd.prog.cellsOf 23 = 1 := by kernel_rfl
  have cC : Tryd.prog.cellsOf 26 = 18 := by kernel_rfl
  match cs, hlen, xs, hxl' with
  | c0 :: c1 :: c2 :: r, hlen, [y0, y1, y2, y3], _ =>
    have g0 : DataW.trod enc Tryd.prog W 0 (fun _ => true) true n 22 (List.take (Tryd.prog.cellsOf 22) (c0 :: c1 :: c2 :: r)) = some y0 := hg 0 _ rfl
    have g1 : DataW.trod enc Tryd.prog W 0 (fun _ => true) true n 23 (List.take (Tryd.prog.cellsOf 23) (c1 :: c2 :: r)) = some y1 := hg 1 _ rfl
    have g2 : DataW.trod enc Tryd.prog W 0 (fun _ => true) true n 3 (List.take (Tryd.prog.cellsOf 3) (c2 :: r)) = some y2 := hg 2 _ rfl
    have g3 : DataW.trod enc Tryd.prog W 0 (fun _ => true) true n 26 (List.take (Tryd.prog.cellsOf 26) r) = some y3 := hg 3 _ rfl
    rw [cA] at g0
    rw [cN] at g1
    rw [cI] at g2
    rw [cC, List.take_of_length_le (by simp at hlen; omega)] at g3
    obtain ⟨d0, p0⟩ := y0
    obtain ⟨d1, p1⟩ := y1
    obtain ⟨A, m, c, rfl, t0⟩ := slice_of_trod Tryd.underlying22 g0
    obtain ⟨B, m', e, rfl, t1⟩ := slice_of_trod Tryd.underlying23 g1
    have hd : d = .agg [d0, d1, y2.1, y3.1] := by injection hx
    subst hd
    obtain ⟨k2, e2, _, w2⟩ := DataW.trod_int Tryd.underlying3 g2
    obtain rfl : c2 = .int .i64 k2 := by simpa using e2
    obtain ⟨cx, rfl, hok⟩ := open_ctx g3
    obtain ⟨acts, a1, a2⟩ := open_acts t0 (hs.part Tryd.underlying28 (j := 0) rfl rfl)
    obtain ⟨is, b1, b2⟩ := open_insts t1 (hs.part Tryd.underlying28 (j := 1) rfl rfl)
    obtain rfl : m = acts.length := a1.len.symm
    obtain rfl : m' = is.length := b1.len.symm
    exact ⟨⟨acts, is, k2, cx⟩, A, c, B, e, rfl, a1, b1, i64_of_wf w2, hok, a2, b2⟩
end
end Go.Proofs.YtfkhfjefddgkoaaDoor
