/-
  How whole images come in (written by mkp.py).
-/
import Derived.Test.YtpcgedngikpnoaaISE
namespace Go.Proofs.Ytpcgedngikpnoaa
set_option maxRecDepth 100000
set_option linter.unusedSimpArgs false
set_option linter.unusedVariables false
open Go.ChangeShapes Go.WideShapes Go.ChangeAt Go.RowKit Go.Deep
section
variable {H : Type} {enc : TypeId × Value → H} {W : World}
theorem open_segs {a : Option Addr} {n c : Nat} {d : DataW H} {p : List MemPlace} (h : DataW.Trod enc Try.prog W 0 (fun _ => true) true 48 (.slice a n c) d p) (hs : Sized 48 d) :
    ∃ l : List Sg, l.length = n ∧ Sgs W (fun k => k < W.heap.size) a n c l ∧ Long n ∧ ∀ s ∈ l, I64 s.at_ ∧ I64 s.size ∧ I64 s.perm ∧ Long s.bs.length := by
  obtain ⟨f, h1, h2, h3⟩ := open_list (x0 := ((noSg, (none, 0)) : Sg × (Option Addr × Nat))) Try.underlying48 (by kernel_rfl) (sz := 4) (b := 48) (by kernel_rfl) (fun x => sgA x.1 x.2) (fun _ => rfl) (fun x => (I64 x.1.at_ ∧ I64 x.1.size ∧ I64 x.1.perm ∧ Long x.1.bs.length) ∧ Src W (fun k => k < W.heap.size) x.2.1 x.1.bs.length x.2.2 (cells x.1.bs)) (by decide) open_segC h hs
  have e : ∀ k, k < n → ((List.range n).map fun k => (f k).1).getD k noSg = (f k).1 := fun k hk => range_getD (fun k => (f k).1) n k noSg hk
  refine ⟨(List.range n).map fun k => (f k).1, by simp, ⟨by simp, fun k => (f k).2, h1.congr fun k hk => by rw [e k hk], fun k hk => by rw [e k hk]; exact (h2 k hk).2⟩, by unfold Long; omega, ?_⟩
  · intro s hs'
    obtain ⟨k, hk, rfl⟩ := List.mem_map.1 hs'
    exact (h2 k (List.mem_range.1 hk)).1
theorem open_needs {a : Option Addr} {n c : Nat} {d : DataW H} {p : List MemPlace} (h : DataW.Trod enc Try.prog W 0 (fun _ => true) true 49 (.slice a n c) d p) (hs : Sized 49 d) :
    ∃ l : List Nd, l.length = n ∧ Nds W (fun k => k < W.heap.size) a n c l ∧ Long n ∧ ∀ s ∈ l, Long s.name.length ∧ Long s.vers.length ∧ ∀ v ∈ s.vers, Long v.length := by
  obtain ⟨f, h1, h2, h3⟩ := open_list (x0 := ((noNd, (none, 0)) : Nd × (Option Addr × Nat))) Try.underlying49 (by kernel_rfl) (sz := 2) (b := 40) (by kernel_rfl) (fun x => ndA x.1 x.2) (fun _ => rfl) (fun x => (Long x.1.name.length ∧ Long x.1.vers.length ∧ ∀ v ∈ x.1.vers, Long v.length) ∧ Src W (fun k => k < W.heap.size) x.2.1 x.1.vers.length x.2.2 (Go.Proofs.Ytpcgedngikpnoaa.strs x.1.vers)) (by decide) open_needC h hs
  have e : ∀ k, k < n → ((List.range n).map fun k => (f k).1).getD k noNd = (f k).1 := fun k hk => range_getD (fun k => (f k).1) n k noNd hk
  refine ⟨(List.range n).map fun k => (f k).1, by simp, ⟨by simp, fun k => (f k).2, h1.congr fun k hk => by rw [e k hk], fun k hk => by rw [e k hk]; exact (h2 k hk).2⟩, by unfold Long; omega, ?_⟩
  · intro s hs'
    obtain ⟨k, hk, rfl⟩ := List.mem_map.1 hs'
    exact (h2 k (List.mem_range.1 hk)).1
theorem open_relocs {a : Option Addr} {n c : Nat} {d : DataW H} {p : List MemPlace} (h : DataW.Trod enc Try.prog W 0 (fun _ => true) true 58 (.slice a n c) d p) (hs : Sized 58 d) :
    ∃ l : List Rl, l.length = n ∧ Rls W (fun k => k < W.heap.size) a n c l ∧ Long n ∧ ∀ s ∈ l, I64 s.at_ ∧ I64 s.kind ∧ I64 s.sym ∧ I64 s.add := by
  obtain ⟨f, h1, h2, h3⟩ := open_list (x0 := (noRl : Rl)) Try.underlying58 (by kernel_rfl) (sz := 4) (b := 32) (by kernel_rfl) (fun x => rlA x) (fun _ => rfl) (fun x => I64 x.at_ ∧ I64 x.kind ∧ I64 x.sym ∧ I64 x.add) (by decide) open_relC h hs
  refine ⟨(List.range n).map f, by simp, ⟨by simp, h1.congr fun k hk => by rw [range_getD f n k noRl hk]⟩, by unfold Long; omega, ?_⟩
  · intro s hs'
    obtain ⟨k, hk, rfl⟩ := List.mem_map.1 hs'
    exact h2 k (List.mem_range.1 hk)
theorem open_slots {a : Option Addr} {n c : Nat} {d : DataW H} {p : List MemPlace} (h : DataW.Trod enc Try.prog W 0 (fun _ => true) true 59 (.slice a n c) d p) (hs : Sized 59 d) :
    ∃ l : List Sl, l.length = n ∧ Sls W (fun k => k < W.heap.size) a n c l ∧ Long n ∧ ∀ s ∈ l, I64 s.at_ ∧ I64 s.sym ∧ I64 s.stub := by
  obtain ⟨f, h1, h2, h3⟩ := open_list (x0 := (noSl : Sl)) Try.underlying59 (by kernel_rfl) (sz := 3) (b := 24) (by kernel_rfl) (fun x => slA x) (fun _ => rfl) (fun x => I64 x.at_ ∧ I64 x.sym ∧ I64 x.stub) (by decide) open_slotC h hs
  refine ⟨(List.range n).map f, by simp, ⟨by simp, h1.congr fun k hk => by rw [range_getD f n k noSl hk]⟩, by unfold Long; omega, ?_⟩
  · intro s hs'
    obtain ⟨k, hk, rfl⟩ := List.mem_map.1 hs'
    exact h2 k (List.mem_range.1 hk)
theorem open_syms2 {a : Option Addr} {n c : Nat} {d : DataW H} {p : List MemPlace} (h : DataW.Trod enc Try.prog W 0 (fun _ => true) true 51 (.slice a n c) d p) (hs : Sized 51 d) :
    ∃ l : List Sym, l.length = n ∧ Syl W (fun k => k < W.heap.size) a n c l ∧ Long n ∧ ∀ s ∈ l, Long s.name.length ∧ Long s.ver.length ∧ I64 s.kind ∧ I64 s.vis ∧ I64 s.val ∧ I64 s.size := by
  obtain ⟨f, h1, h2, h3⟩ := open_list (x0 := (noSy : Sym)) Try.underlying51 (by kernel_rfl) (sz := 9) (b := 88) (by kernel_rfl) (fun x => symA x) (fun _ => rfl) (fun x => Long x.name.length ∧ Long x.ver.length ∧ I64 x.kind ∧ I64 x.vis ∧ I64 x.val ∧ I64 x.size) (by decide) open_symC2 h hs
  refine ⟨(List.range n).map f, by simp, ?_, by unfold Long; omega, ?_⟩
  · have := syl_of_els (ys := (List.range n).map f) (A := a) (c := c) (w := W) (P := (fun k => k < W.heap.size)) (by
      rw [show ((List.range n).map f).length = n by simp]
      exact h1.congr fun k hk => by rw [range_getD f n k noSy hk])
    rwa [show ((List.range n).map f).length = n by simp] at this
  · intro s hs'
    obtain ⟨k, hk, rfl⟩ := List.mem_map.1 hs'
    exact h2 k (List.mem_range.1 hk)
theorem open_rowC {fuel : Nat} {cs : List Value} {d : DataW H} {pl : List MemPlace} (h : DataW.trod enc Try.prog W 0 (fun _ => true) true fuel 30 cs = some (d, pl)) (hs : Sized 30 d) :
    ∃ x : List Int × (Option Addr × Nat), cs = (#[.slice x.2.1 x.1.length x.2.2] : Array Value).toList ∧ ((Long x.1.length ∧ ∀ i ∈ x.1, I64 i) ∧ Src W (fun k => k < W.heap.size) x.2.1 x.1.length x.2.2 (ints x.1)) := by
  have key : ∀ a n c, cs = [.slice a n c] → ∃ x : List Int × (Option Addr × Nat), cs = (#[.slice x.2.1 x.1.length x.2.2] : Array Value).toList ∧ ((Long x.1.length ∧ ∀ i ∈ x.1, I64 i) ∧ Src W (fun k => k < W.heap.size) x.2.1 x.1.length x.2.2 (ints x.1)) := by
    intro a n c e
    subst e
    obtain ⟨l, rfl, l2, l3, l4⟩ := open_ints2 ⟨fuel, h⟩ hs
    exact ⟨(l, (a, c)), rfl, ⟨l3, l4⟩, l2⟩
  rcases open_slice Try.underlying30 h with ⟨hcs, hx⟩ | ⟨a0, len, cap, m, n', D, Pl, hcs, _⟩
  · exact key _ _ _ hcs
  · exact key _ _ _ hcs
theorem open_rows2 {a : Option Addr} {n c : Nat} {d : DataW H} {p : List MemPlace} (h : DataW.Trod enc Try.prog W 0 (fun _ => true) true 52 (.slice a n c) d p) (hs : Sized 52 d) :
    ∃ l : List (List Int), l.length = n ∧ Rws W (fun k => k < W.heap.size) a n c (rowF l) ∧ Long n ∧ ∀ s ∈ l, Long s.length ∧ ∀ i ∈ s, I64 i := by
  obtain ⟨f, h1, h2, h3⟩ := open_list (x0 := (([], (none, 0)) : List Int × (Option Addr × Nat))) Try.underlying52 (by kernel_rfl) (sz := 1) (b := 24) (by kernel_rfl) (fun x => #[.slice x.2.1 x.1.length x.2.2]) (fun _ => rfl) (fun x => (Long x.1.length ∧ ∀ i ∈ x.1, I64 i) ∧ Src W (fun k => k < W.heap.size) x.2.1 x.1.length x.2.2 (ints x.1)) (by decide) open_rowC h hs
  have e : ∀ k, k < n → rowF ((List.range n).map fun k => (f k).1) k = (f k).1 := fun k hk => range_getD (fun k => (f k).1) n k [] hk
  refine ⟨(List.range n).map fun k => (f k).1, by simp, ⟨h1.nil, h1.cap, h1.blk, fun ad hA k hk => ⟨(f k).2.1, (f k).2.2, ?_, ?_⟩⟩, by unfold Long; omega, ?_⟩
  · rw [e k hk]
    have := h1.at_ ad hA k hk 0 _ rfl
    rwa [Nat.mul_one, Nat.add_zero] at this
  · rw [e k hk]
    exact (h2 k hk).2
  · intro s hs'
    obtain ⟨k, hk, rfl⟩ := List.mem_map.1 hs'
    exact (h2 k (List.mem_range.1 hk)).1
theorem open_words {a : Option Addr} {n c : Nat} {d : DataW H} {p : List MemPlace} (h : DataW.Trod enc Try.prog W 0 (fun _ => true) true 53 (.slice a n c) d p) (hs : Sized 53 d) :
    ∃ ws : List UInt64, ws.length = n ∧ Src W (fun k => k < W.heap.size) a n c (Siv.wds ws) ∧ Long n := by
  obtain ⟨ws, h1, h2, h3⟩ := open_ws h hs
  exact ⟨ws, h1, h2, by unfold Long; omega⟩
set_option maxRecDepth 100000 in
theorem open_filC {fuel : Nat} {cs : List Value} {d : DataW H} {pl : List MemPlace} (h : DataW.trod enc Try.prog W 0 (fun _ => true) true fuel 55 cs = some (d, pl)) (hs : Sized 55 d) :
    ∃ x : (Option Addr × Nat) × (List UInt64 × Int), cs = (#[.slice x.1.1 x.2.1.length x.1.2, .int .i64 x.2.2] : Array Value).toList ∧ Src W (fun k => k < W.heap.size) x.1.1 x.2.1.length x.1.2 (Siv.wds x.2.1) ∧ Long x.2.1.length ∧ I64 x.2.2 := by
  have hC : Try.prog.cellsOf 55 = 2 := by kernel_rfl
  have ktWords : Try.prog.cellsOf 53 = 1 := by kernel_rfl
  have ktInt : Try.prog.cellsOf 3 = 1 := by kernel_rfl
  obtain ⟨xs, n, _, hx, hlen, hxl, hg⟩ := DataW.trod_struct Try.underlying55 h
  rw [hC] at hlen
  have hxl' : xs.length = 2 := hxl
  match cs, hlen, xs, hxl' with
  | [c0, c1], _, [(y0, z0), (y1, z1)], _ =>
    have g0 : DataW.trod enc Try.prog W 0 (fun _ => true) true n 53 (List.take (Try.prog.cellsOf 53) [c0, c1]) = some (y0, z0) := hg 0 _ rfl
    rw [ktWords] at g0
    change DataW.trod enc Try.prog W 0 (fun _ => true) true n 53 [c0] = some (y0, z0) at g0
    have g1 : DataW.trod enc Try.prog W 0 (fun _ => true) true n 3 (List.take (Try.prog.cellsOf 3) [c1]) = some (y1, z1) := hg 1 _ rfl
    rw [ktInt] at g1
    change DataW.trod enc Try.prog W 0 (fun _ => true) true n 3 [c1] = some (y1, z1) at g1
    have hd : d = .agg [y0, y1] := by injection hx
    subst hd
    obtain ⟨a0, m0, p0, rfl, t0⟩ := slice_of_trod Try.underlying53 g0
    obtain ⟨v0, rfl, q0, w0⟩ := open_words t0 (hs.part Try.underlying55 (j := 0) rfl rfl)
    obtain ⟨v1, e1, _, w1⟩ := DataW.trod_int Try.underlying3 g1
    obtain rfl : c1 = .int .i64 v1 := by simpa using e1
    have w1 := i64_of_wf w1
    exact ⟨((a0, p0), (v0, v1)), rfl, q0, w0, w1⟩
set_option maxRecDepth 100000 in
theorem open_tabC {fuel : Nat} {cs : List Value} {d : DataW H} {pl : List MemPlace} (h : DataW.trod enc Try.prog W 0 (fun _ => true) true fuel 57 cs = some (d, pl)) (hs : Sized 57 d) :
    ∃ x : (Option Addr × Nat) × (Option Addr × Nat) × (List (List Int) × List UInt64 × Int), cs = (#[.slice x.1.1 x.2.2.1.length x.1.2, .slice x.2.1.1 x.2.2.2.1.length x.2.1.2, .int .i64 x.2.2.2.2] : Array Value).toList ∧ TabV W (fun k => k < W.heap.size) x.1.1 x.2.2.1.length x.1.2 x.2.1.1 x.2.1.2 (rowF x.2.2.1) x.2.2.2.1 ∧ (Long x.2.2.1.length ∧ (∀ r ∈ x.2.2.1, Long r.length ∧ ∀ i ∈ r, I64 i) ∧ Long x.2.2.2.1.length ∧ I64 x.2.2.2.2) := by
  have hC : Try.prog.cellsOf 57 = 3 := by kernel_rfl
  have ktIntss : Try.prog.cellsOf 52 = 1 := by kernel_rfl
  have ktFilter : Try.prog.cellsOf 55 = 2 := by kernel_rfl
  obtain ⟨xs, n, _, hx, hlen, hxl, hg⟩ := DataW.trod_struct Try.underlying57 h
  rw [hC] at hlen
  have hxl' : xs.length = 2 := hxl
  match cs, hlen, xs, hxl' with
  | [c0, c1, c2], _, [(y0, z0), (y1, z1)], _ =>
    have g0 : DataW.trod enc Try.prog W 0 (fun _ => true) true n 52 (List.take (Try.prog.cellsOf 52) [c0, c1, c2]) = some (y0, z0) := hg 0 _ rfl
    rw [ktIntss] at g0
    change DataW.trod enc Try.prog W 0 (fun _ => true) true n 52 [c0] = some (y0, z0) at g0
    have g1 : DataW.trod enc Try.prog W 0 (fun _ => true) true n 55 (List.take (Try.prog.cellsOf 55) [c1, c2]) = some (y1, z1) := hg 1 _ rfl
    rw [ktFilter] at g1
    change DataW.trod enc Try.prog W 0 (fun _ => true) true n 55 [c1, c2] = some (y1, z1) at g1
    have hd : d = .agg [y0, y1] := by injection hx
    subst hd
    obtain ⟨a0, m0, p0, rfl, t0⟩ := slice_of_trod Try.underlying52 g0
    obtain ⟨v0, rfl, q0, w0⟩ := open_rows2 t0 (hs.part Try.underlying57 (j := 0) rfl rfl)
    obtain ⟨⟨⟨A1, C1⟩, L1, s1⟩, e1, q1, w1⟩ := open_filC g1 (hs.part Try.underlying57 (j := 1) rfl rfl)
    simp only [Array.toList, List.cons.injEq, and_true] at e1
    obtain ⟨rfl, rfl⟩ := e1
    exact ⟨((a0, p0), (A1, C1), (v0, L1, s1)), rfl, ⟨q0, q1⟩, w0.1, w0.2, w1.1, w1.2⟩
set_option maxRecDepth 100000 in
theorem open_imC {fuel : Nat} {cs : List Value} {d : DataW H} {pl : List MemPlace} (h : DataW.trod enc Try.prog W 0 (fun _ => true) true fuel 62 cs = some (d, pl)) (hs : Sized 62 d) :
    ∃ x : Pl × Im, cs = (imA x.1 x.2).toList ∧ ImIn W (fun k => k < W.heap.size) x.1 x.2 ∧ Fit x.2 := by
  have hC : Try.prog.cellsOf 62 = 15 := by kernel_rfl
  have ktString : Try.prog.cellsOf 9 = 1 := by kernel_rfl
  have ktFlags : Try.prog.cellsOf 47 = 1 := by kernel_rfl
  have ktSegs : Try.prog.cellsOf 48 = 1 := by kernel_rfl
  have ktNeeds : Try.prog.cellsOf 49 = 1 := by kernel_rfl
  have ktStrs : Try.prog.cellsOf 50 = 1 := by kernel_rfl
  have ktSyms : Try.prog.cellsOf 51 = 1 := by kernel_rfl
  have ktTable : Try.prog.cellsOf 57 = 3 := by kernel_rfl
  have ktRelocs : Try.prog.cellsOf 58 = 1 := by kernel_rfl
  have ktSlots : Try.prog.cellsOf 59 = 1 := by kernel_rfl
  have ktInts : Try.prog.cellsOf 30 = 1 := by kernel_rfl
  have ktBytes : Try.prog.cellsOf 60 = 1 := by kernel_rfl
  have ktInt : Try.prog.cellsOf 3 = 1 := by kernel_rfl
  obtain ⟨xs, n, _, hx, hlen, hxl, hg⟩ := DataW.trod_struct Try.underlying62 h
  rw [hC] at hlen
  have hxl' : xs.length = 13 := hxl
  match cs, hlen, xs, hxl' with
  | [c0, c1, c2, c3, c4, c5, c6, c7, c8, c9, c10, c11, c12, c13, c14], _, [(y0, z0), (y1, z1), (y2, z2), (y3, z3), (y4, z4), (y5, z5), (y6, z6), (y7, z7), (y8, z8), (y9, z9), (y10, z10), (y11, z11), (y12, z12)], _ =>
    have g0 : DataW.trod enc Try.prog W 0 (fun _ => true) true n 9 (List.take (Try.prog.cellsOf 9) [c0, c1, c2, c3, c4, c5, c6, c7, c8, c9, c10, c11, c12, c13, c14]) = some (y0, z0) := hg 0 _ rfl
    rw [ktString] at g0
    change DataW.trod enc Try.prog W 0 (fun _ => true) true n 9 [c0] = some (y0, z0) at g0
    have g1 : DataW.trod enc Try.prog W 0 (fun _ => true) true n 47 (List.take (Try.prog.cellsOf 47) [c1, c2, c3, c4, c5, c6, c7, c8, c9, c10, c11, c12, c13, c14]) = some (y1, z1) := hg 1 _ rfl
    rw [ktFlags] at g1
    change DataW.trod enc Try.prog W 0 (fun _ => true) true n 47 [c1] = some (y1, z1) at g1
    have g2 : DataW.trod enc Try.prog W 0 (fun _ => true) true n 48 (List.take (Try.prog.cellsOf 48) [c2, c3, c4, c5, c6, c7, c8, c9, c10, c11, c12, c13, c14]) = some (y2, z2) := hg 2 _ rfl
    rw [ktSegs] at g2
    change DataW.trod enc Try.prog W 0 (fun _ => true) true n 48 [c2] = some (y2, z2) at g2
    have g3 : DataW.trod enc Try.prog W 0 (fun _ => true) true n 49 (List.take (Try.prog.cellsOf 49) [c3, c4, c5, c6, c7, c8, c9, c10, c11, c12, c13, c14]) = some (y3, z3) := hg 3 _ rfl
    rw [ktNeeds] at g3
    change DataW.trod enc Try.prog W 0 (fun _ => true) true n 49 [c3] = some (y3, z3) at g3
    have g4 : DataW.trod enc Try.prog W 0 (fun _ => true) true n 50 (List.take (Try.prog.cellsOf 50) [c4, c5, c6, c7, c8, c9, c10, c11, c12, c13, c14]) = some (y4, z4) := hg 4 _ rfl
    rw [ktStrs] at g4
    change DataW.trod enc Try.prog W 0 (fun _ => true) true n 50 [c4] = some (y4, z4) at g4
    have g5 : DataW.trod enc Try.prog W 0 (fun _ => true) true n 51 (List.take (Try.prog.cellsOf 51) [c5, c6, c7, c8, c9, c10, c11, c12, c13, c14]) = some (y5, z5) := hg 5 _ rfl
    rw [ktSyms] at g5
    change DataW.trod enc Try.prog W 0 (fun _ => true) true n 51 [c5] = some (y5, z5) at g5
    have g6 : DataW.trod enc Try.prog W 0 (fun _ => true) true n 57 (List.take (Try.prog.cellsOf 57) [c6, c7, c8, c9, c10, c11, c12, c13, c14]) = some (y6, z6) := hg 6 _ rfl
    rw [ktTable] at g6
    change DataW.trod enc Try.prog W 0 (fun _ => true) true n 57 [c6, c7, c8] = some (y6, z6) at g6
    have g7 : DataW.trod enc Try.prog W 0 (fun _ => true) true n 58 (List.take (Try.prog.cellsOf 58) [c9, c10, c11, c12, c13, c14]) = some (y7, z7) := hg 7 _ rfl
    rw [ktRelocs] at g7
    change DataW.trod enc Try.prog W 0 (fun _ => true) true n 58 [c9] = some (y7, z7) at g7
    have g8 : DataW.trod enc Try.prog W 0 (fun _ => true) true n 59 (List.take (Try.prog.cellsOf 59) [c10, c11, c12, c13, c14]) = some (y8, z8) := hg 8 _ rfl
    rw [ktSlots] at g8
    change DataW.trod enc Try.prog W 0 (fun _ => true) true n 59 [c10] = some (y8, z8) at g8
    have g9 : DataW.trod enc Try.prog W 0 (fun _ => true) true n 30 (List.take (Try.prog.cellsOf 30) [c11, c12, c13, c14]) = some (y9, z9) := hg 9 _ rfl
    rw [ktInts] at g9
    change DataW.trod enc Try.prog W 0 (fun _ => true) true n 30 [c11] = some (y9, z9) at g9
    have g10 : DataW.trod enc Try.prog W 0 (fun _ => true) true n 30 (List.take (Try.prog.cellsOf 30) [c12, c13, c14]) = some (y10, z10) := hg 10 _ rfl
    rw [ktInts] at g10
    change DataW.trod enc Try.prog W 0 (fun _ => true) true n 30 [c12] = some (y10, z10) at g10
    have g11 : DataW.trod enc Try.prog W 0 (fun _ => true) true n 60 (List.take (Try.prog.cellsOf 60) [c13, c14]) = some (y11, z11) := hg 11 _ rfl
    rw [ktBytes] at g11
    change DataW.trod enc Try.prog W 0 (fun _ => true) true n 60 [c13] = some (y11, z11) at g11
    have g12 : DataW.trod enc Try.prog W 0 (fun _ => true) true n 3 (List.take (Try.prog.cellsOf 3) [c14]) = some (y12, z12) := hg 12 _ rfl
    rw [ktInt] at g12
    change DataW.trod enc Try.prog W 0 (fun _ => true) true n 3 [c14] = some (y12, z12) at g12
    have hd : d = .agg [y0, y1, y2, y3, y4, y5, y6, y7, y8, y9, y10, y11, y12] := by injection hx
    subst hd
    obtain ⟨v0, e0, w0⟩ := open_strC g0 (hs.part Try.underlying62 (j := 0) rfl rfl)
    obtain rfl : c0 = str v0 := by simpa using e0
    obtain ⟨v1, e1, _, w1⟩ := DataW.trod_int Try.underlying47 g1
    obtain rfl : c1 = .int .i64 v1 := by simpa using e1
    have w1 := i64_of_wf w1
    obtain ⟨a2, m2, p2, rfl, t2⟩ := slice_of_trod Try.underlying48 g2
    obtain ⟨v2, rfl, q2, w2⟩ := open_segs t2 (hs.part Try.underlying62 (j := 2) rfl rfl)
    obtain ⟨a3, m3, p3, rfl, t3⟩ := slice_of_trod Try.underlying49 g3
    obtain ⟨v3, rfl, q3, w3⟩ := open_needs t3 (hs.part Try.underlying62 (j := 3) rfl rfl)
    obtain ⟨a4, m4, p4, rfl, t4⟩ := slice_of_trod Try.underlying50 g4
    obtain ⟨v4, rfl, q4, w4⟩ := open_strs2 t4 (hs.part Try.underlying62 (j := 4) rfl rfl)
    obtain ⟨a5, m5, p5, rfl, t5⟩ := slice_of_trod Try.underlying51 g5
    obtain ⟨v5, rfl, q5, w5⟩ := open_syms2 t5 (hs.part Try.underlying62 (j := 5) rfl rfl)
    obtain ⟨a7, m7, p7, rfl, t7⟩ := slice_of_trod Try.underlying58 g7
    obtain ⟨v7, rfl, q7, w7⟩ := open_relocs t7 (hs.part Try.underlying62 (j := 7) rfl rfl)
    obtain ⟨a8, m8, p8, rfl, t8⟩ := slice_of_trod Try.underlying59 g8
    obtain ⟨v8, rfl, q8, w8⟩ := open_slots t8 (hs.part Try.underlying62 (j := 8) rfl rfl)
    obtain ⟨a9, m9, p9, rfl, t9⟩ := slice_of_trod Try.underlying30 g9
    obtain ⟨v9, rfl, q9, w9⟩ := open_ints2 t9 (hs.part Try.underlying62 (j := 9) rfl rfl)
    obtain ⟨a10, m10, p10, rfl, t10⟩ := slice_of_trod Try.underlying30 g10
    obtain ⟨v10, rfl, q10, w10⟩ := open_ints2 t10 (hs.part Try.underlying62 (j := 10) rfl rfl)
    obtain ⟨a11, m11, p11, rfl, t11⟩ := slice_of_trod Try.underlying60 g11
    obtain ⟨v11, rfl, q11, w11⟩ := open_bytes t11 (hs.part Try.underlying62 (j := 11) rfl rfl)
    obtain ⟨v12, e12, _, w12⟩ := DataW.trod_int Try.underlying3 g12
    obtain rfl : c14 = .int .i64 v12 := by simpa using e12
    have w12 := i64_of_wf w12
    obtain ⟨⟨A6, B6, R6, L6, s6⟩, e6, q6, w6⟩ := open_tabC g6 (hs.part Try.underlying62 (j := 6) rfl rfl)
    simp only [Array.toList, List.cons.injEq, and_true] at e6
    obtain ⟨rfl, rfl, rfl⟩ := e6
    exact ⟨(⟨(a2, p2), (a3, p3), (a4, p4), (a5, p5), A6, B6, (a7, p7), (a8, p8), (a9, p9), (a10, p10), (a11, p11)⟩, ⟨v0, v1, v2, v3, v4, v5, R6, L6, s6, v7, v8, v9, v10, v11, v12⟩), rfl, ⟨q2, q3, q4, q5, q6, q7, q8, q9, q10, q11⟩, ⟨w0, w1, w2.1, w2.2, w3.1, w3.2, w4.1, w4.2, w5.1, w5.2, w6.1, w6.2.1, w6.2.2.1, w6.2.2.2, w7.1, w7.2, w8.1, w8.2, w9.1, w9.2, w10.1, w10.2, w11, w12⟩⟩
theorem open_im {r : Reach} {b0 : Nat} {v : Value} {d : DataW H} {p : List MemPlace} (hv : Value.okWide Try.prog W r b0 62 v) (h : DataW.Trod enc Try.prog W 0 (fun _ => true) true 62 v d p) (hs : Sized 62 d) :
    ∃ (q : Pl) (x : Im), v = imV q x ∧ ImIn W (fun k => k < W.heap.size) q x ∧ Fit x := by
  unfold Value.okWide at hv
  rw [Try.underlying62] at hv
  obtain ⟨cs, rfl, _, _⟩ := hv
  obtain ⟨fuel, hf⟩ := h
  obtain ⟨⟨q, x⟩, h1, h2, h3⟩ := open_imC hf hs
  refine ⟨q, x, ?_, h2, h3⟩
  exact congrArg Value.agg (Array.toList_inj.1 h1)
end
end Go.Proofs.Ytpcgedngikpnoaa
