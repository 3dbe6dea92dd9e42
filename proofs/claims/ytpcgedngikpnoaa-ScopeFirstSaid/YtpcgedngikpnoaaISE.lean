/-
  How images come in (written by mko.py).
-/
import Derived.Test.YtpcgedngikpnoaaTOt
import Derived.Test.YtpcgedngikpnoaaIb
namespace Go.Proofs.Ytpcgedngikpnoaa
set_option maxRecDepth 100000
set_option linter.unusedSimpArgs false
set_option linter.unusedVariables false
open Go.ChangeShapes Go.WideShapes Go.ChangeAt Go.RowKit Go.Deep

theorem Els.congr {w : World} {P : Nat → Prop} {A : Option Addr} {n c sz : Nat} {E E' : Nat → Array Value} (h : Els w P A n c sz E) (he : ∀ k, k < n → E k = E' k) : Els w P A n c sz E' :=
  ⟨h.nil, h.cap, h.blk, fun ad hA k hk j u hu => h.at_ ad hA k hk j u (by rw [he k hk]; exact hu)⟩
theorem range_getD {α : Type} (f : Nat → α) (n k : Nat) (d : α) (hk : k < n) : ((List.range n).map f).getD k d = f k := by
  rw [List.getD_eq_getElem?_getD]
  simp [hk]
section
variable {H : Type} {enc : TypeId × Value → H} {W : World}
/-- A list of elements that can be opened one by one. -/
theorem open_list {β : Type} (x0 : β) {t e : TypeId} {sz b : Nat} (ht : Try.prog.underlying t = some (.slice e)) (hC : Try.prog.cellsOf e = sz) (hb : Try.prog.bytesOf e = b) (E : β → Array Value) (hE : ∀ x, (E x).size = sz) (G : β → Prop) (hz : 0 < sz)
    (hel : ∀ {fuel : Nat} {cs : List Value} {d : DataW H} {pl : List MemPlace}, DataW.trod enc Try.prog W 0 (fun _ => true) true fuel e cs = some (d, pl) → Sized e d → ∃ x, cs = (E x).toList ∧ G x)
    {a : Option Addr} {n c : Nat} {d : DataW H} {p : List MemPlace} (h : DataW.Trod enc Try.prog W 0 (fun _ => true) true t (.slice a n c) d p) (hs : Sized t d) :
    ∃ f : Nat → β, Els W (fun k => k < W.heap.size) a n c sz (fun k => E (f k)) ∧ (∀ k, k < n → G (f k)) ∧ n * b ≤ 140737488351232 := by
  obtain ⟨fuel, hf⟩ := h
  rcases open_slice ht hf with ⟨hcs, hx⟩ | ⟨a0, len, cap, m, n', D, Pl, hcs, _, hl, hm, hmm, hx, hi⟩
  · simp [Value.cells] at hcs
    obtain ⟨rfl, rfl, rfl⟩ := hcs
    exact ⟨fun _ => x0, ⟨fun _ => ⟨rfl, rfl⟩, Nat.le_refl _, (by intro ad h; cases h), (by intro ad h; cases h)⟩, by intro k hk; omega, by omega⟩
  · simp [Value.cells] at hcs
    obtain ⟨rfl, rfl, rfl⟩ := hcs
    simp only [if_true] at hmm
    subst hmm
    have hd := (Prod.mk.inj hx).1
    have hsz : ∀ i, i < n → Sized e (D i) := by
      intro i hin
      have h' := hs
      rw [hd] at h'
      refine h'.elem ht ?_
      simp
      exact ⟨i, hin, rfl⟩
    have each : ∀ i, i < n → ∃ x : β, (∀ j u, (E x)[j]? = some u → W.cell? (a0.add (i * sz + j)) = some u) ∧ G x := by
      intro i hin
      obtain ⟨cs', hc, ht'⟩ := hi i (by omega)
      rw [hC] at hc
      obtain ⟨_, hcl, hat⟩ := World.cells?_some hc
      obtain ⟨x, hxe, hg⟩ := hel ht' (hsz i hin)
      refine ⟨x, fun j u hu => ?_, hg⟩
      have hj : j < sz := by have := (Array.getElem?_eq_some_iff.1 hu).1; rw [hE] at this; exact this
      rw [← addAdd, hat j hj, ← hu, ← Array.getElem?_toList, ← hxe]
    have hch : ∃ g : Nat → β, ∀ i, i < n → (∀ j u, (E (g i))[j]? = some u → W.cell? (a0.add (i * sz + j)) = some u) ∧ G (g i) := by
      refine ⟨fun i => if h : i < n then Classical.choose (each i h) else x0, fun i h => ?_⟩
      simp only [dif_pos h]
      exact Classical.choose_spec (each i h)
    obtain ⟨g, hg⟩ := hch
    refine ⟨g, ⟨(by intro h; cases h), hl, ?_, ?_⟩, fun k hk => (hg k hk).2, ?_⟩
    · intro ad h h0
      cases h
      have := World.block_lt_of_cell? W _ ((hg 0 h0).1 0 _ (Array.getElem?_eq_getElem (by rw [hE]; exact hz)))
      rw [addBlock] at this
      exact this
    · intro ad h k hk j u hu
      cases h
      exact (hg k hk).1 j u hu
    · exact sized_len hs ht hb (.inr ⟨_, _, hd, by simp⟩)
theorem open_bytes {a : Option Addr} {n c : Nat} {d : DataW H} {p : List MemPlace} (h : DataW.Trod enc Try.prog W 0 (fun _ => true) true 60 (.slice a n c) d p) (hs : Sized 60 d) :
    ∃ b : Str, b.length = n ∧ Src W (fun k => k < W.heap.size) a n c (cells b) ∧ Long n := by
  obtain ⟨zs, h1, h2, h3, _⟩ := open_nums Try.underlying60 Try.underlying5 (by kernel_rfl) h
  have e : zs.map (Value.int .u8) = cells (zs.map fun z => UInt8.ofNat z.toNat) := by
    simp only [cells, List.map_map]
    apply List.map_congr_left
    intro z hz
    have := u8_of_wf (h2 z hz)
    exact congrArg (Value.int .u8) this
  have := sized_len (b := 1) hs Try.underlying60 (by kernel_rfl) h3
  exact ⟨zs.map fun z => UInt8.ofNat z.toNat, by simpa using h1.len, e ▸ h1, by unfold Long; omega⟩
theorem open_ints2 {a : Option Addr} {n c : Nat} {d : DataW H} {p : List MemPlace} (h : DataW.Trod enc Try.prog W 0 (fun _ => true) true 30 (.slice a n c) d p) (hs : Sized 30 d) :
    ∃ l : List Int, l.length = n ∧ Src W (fun k => k < W.heap.size) a n c (ints l) ∧ Long n ∧ ∀ i ∈ l, I64 i := by
  obtain ⟨zs, h1, h2, h3, _⟩ := open_nums Try.underlying30 Try.underlying3 (by kernel_rfl) h
  have := sized_len (b := 8) hs Try.underlying30 (by kernel_rfl) h3
  exact ⟨zs, by simpa using h1.len, h1, by unfold Long; omega, fun i hi => i64_of_wf (h2 i hi)⟩
theorem open_strC {fuel : Nat} {cs : List Value} {d : DataW H} {pl : List MemPlace} (h : DataW.trod enc Try.prog W 0 (fun _ => true) true fuel 9 cs = some (d, pl)) (hs : Sized 9 d) : ∃ s : Str, cs = (#[str s] : Array Value).toList ∧ Long s.length := by
  obtain ⟨k, e, f, _⟩ := DataW.trod_string Try.underlying9 h
  injection f with f _
  subst f
  exact ⟨k.data.toList, by rw [e, str_of], hs.str⟩
theorem open_strs2 {a : Option Addr} {n c : Nat} {d : DataW H} {p : List MemPlace} (h : DataW.Trod enc Try.prog W 0 (fun _ => true) true 50 (.slice a n c) d p) (hs : Sized 50 d) :
    ∃ l : List Str, l.length = n ∧ Src W (fun k => k < W.heap.size) a n c (Go.Proofs.Ytpcgedngikpnoaa.strs l) ∧ Long n ∧ ∀ s ∈ l, Long s.length := by
  obtain ⟨f, h1, h2, h3⟩ := open_list (x0 := ([] : Str)) Try.underlying50 (by kernel_rfl) (b := 16) (by kernel_rfl) (fun s => #[str s]) (fun _ => rfl) (fun s => Long s.length) (by decide) open_strC h hs
  refine ⟨(List.range n).map f, by simp, ?_, by unfold Long; omega, ?_⟩
  · have := src_of_els (f := fun l : Str => .string ⟨l.toArray⟩) (d := []) (ys := (List.range n).map f) (A := a) (c := c) (w := W) (P := fun k => k < W.heap.size) (by
      rw [show ((List.range n).map f).length = n by simp]
      exact h1.congr fun k hk => by rw [range_getD f n k [] hk])
    simpa [Go.Proofs.Ytpcgedngikpnoaa.strs] using this
  · intro s hs'
    obtain ⟨k, hk, rfl⟩ := List.mem_map.1 hs'
    exact h2 k (List.mem_range.1 hk)
set_option maxRecDepth 100000 in
theorem open_segC {fuel : Nat} {cs : List Value} {d : DataW H} {pl : List MemPlace} (h : DataW.trod enc Try.prog W 0 (fun _ => true) true fuel 124 cs = some (d, pl)) (hs : Sized 124 d) :
    ∃ x : Sg × (Option Addr × Nat), cs = (sgA x.1 x.2).toList ∧ ((I64 x.1.at_ ∧ I64 x.1.size ∧ I64 x.1.perm ∧ Long x.1.bs.length) ∧ Src W (fun k => k < W.heap.size) x.2.1 x.1.bs.length x.2.2 (cells x.1.bs)) := by
  have hC : Try.prog.cellsOf 124 = 4 := by kernel_rfl
  have ktInt : Try.prog.cellsOf 3 = 1 := by kernel_rfl
  have ktBytes : Try.prog.cellsOf 60 = 1 := by kernel_rfl
  have ktPerm : Try.prog.cellsOf 122 = 1 := by kernel_rfl
  obtain ⟨xs, n, _, hx, hlen, hxl, hg⟩ := DataW.trod_struct Try.underlying124 h
  rw [hC] at hlen
  have hxl' : xs.length = 4 := hxl
  match cs, hlen, xs, hxl' with
  | [c0, c1, c2, c3], _, [(y0, z0), (y1, z1), (y2, z2), (y3, z3)], _ =>
    have g0 : DataW.trod enc Try.prog W 0 (fun _ => true) true n 3 (List.take (Try.prog.cellsOf 3) [c0, c1, c2, c3]) = some (y0, z0) := hg 0 _ rfl
    rw [ktInt] at g0
    change DataW.trod enc Try.prog W 0 (fun _ => true) true n 3 [c0] = some (y0, z0) at g0
    have g1 : DataW.trod enc Try.prog W 0 (fun _ => true) true n 3 (List.take (Try.prog.cellsOf 3) [c1, c2, c3]) = some (y1, z1) := hg 1 _ rfl
    rw [ktInt] at g1
    change DataW.trod enc Try.prog W 0 (fun _ => true) true n 3 [c1] = some (y1, z1) at g1
    have g2 : DataW.trod enc Try.prog W 0 (fun _ => true) true n 60 (List.take (Try.prog.cellsOf 60) [c2, c3]) = some (y2, z2) := hg 2 _ rfl
    rw [ktBytes] at g2
    change DataW.trod enc Try.prog W 0 (fun _ => true) true n 60 [c2] = some (y2, z2) at g2
    have g3 : DataW.trod enc Try.prog W 0 (fun _ => true) true n 122 (List.take (Try.prog.cellsOf 122) [c3]) = some (y3, z3) := hg 3 _ rfl
    rw [ktPerm] at g3
    change DataW.trod enc Try.prog W 0 (fun _ => true) true n 122 [c3] = some (y3, z3) at g3
    have hd : d = .agg [y0, y1, y2, y3] := by injection hx
    subst hd
    obtain ⟨v0, e0, _, w0⟩ := DataW.trod_int Try.underlying3 g0
    obtain rfl : c0 = .int .i64 v0 := by simpa using e0
    have w0 := i64_of_wf w0
    obtain ⟨v1, e1, _, w1⟩ := DataW.trod_int Try.underlying3 g1
    obtain rfl : c1 = .int .i64 v1 := by simpa using e1
    have w1 := i64_of_wf w1
    obtain ⟨a2, m2, p2, rfl, t2⟩ := slice_of_trod Try.underlying60 g2
    obtain ⟨v2, rfl, q2, w2⟩ := open_bytes t2 (hs.part Try.underlying124 (j := 2) rfl rfl)
    obtain ⟨v3, e3, _, w3⟩ := DataW.trod_int Try.underlying122 g3
    obtain rfl : c3 = .int .i64 v3 := by simpa using e3
    have w3 := i64_of_wf w3
    exact ⟨(⟨v0, v1, v2, v3⟩, (a2, p2)), rfl, ⟨w0, w1, w3, w2⟩, q2⟩
set_option maxRecDepth 100000 in
theorem open_needC {fuel : Nat} {cs : List Value} {d : DataW H} {pl : List MemPlace} (h : DataW.trod enc Try.prog W 0 (fun _ => true) true fuel 126 cs = some (d, pl)) (hs : Sized 126 d) :
    ∃ x : Nd × (Option Addr × Nat), cs = (ndA x.1 x.2).toList ∧ ((Long x.1.name.length ∧ Long x.1.vers.length ∧ ∀ v ∈ x.1.vers, Long v.length) ∧ Src W (fun k => k < W.heap.size) x.2.1 x.1.vers.length x.2.2 (Go.Proofs.Ytpcgedngikpnoaa.strs x.1.vers)) := by
  have hC : Try.prog.cellsOf 126 = 2 := by kernel_rfl
  have ktString : Try.prog.cellsOf 9 = 1 := by kernel_rfl
  have ktStrs : Try.prog.cellsOf 50 = 1 := by kernel_rfl
  obtain ⟨xs, n, _, hx, hlen, hxl, hg⟩ := DataW.trod_struct Try.underlying126 h
  rw [hC] at hlen
  have hxl' : xs.length = 2 := hxl
  match cs, hlen, xs, hxl' with
  | [c0, c1], _, [(y0, z0), (y1, z1)], _ =>
    have g0 : DataW.trod enc Try.prog W 0 (fun _ => true) true n 9 (List.take (Try.prog.cellsOf 9) [c0, c1]) = some (y0, z0) := hg 0 _ rfl
    rw [ktString] at g0
    change DataW.trod enc Try.prog W 0 (fun _ => true) true n 9 [c0] = some (y0, z0) at g0
    have g1 : DataW.trod enc Try.prog W 0 (fun _ => true) true n 50 (List.take (Try.prog.cellsOf 50) [c1]) = some (y1, z1) := hg 1 _ rfl
    rw [ktStrs] at g1
    change DataW.trod enc Try.prog W 0 (fun _ => true) true n 50 [c1] = some (y1, z1) at g1
    have hd : d = .agg [y0, y1] := by injection hx
    subst hd
    obtain ⟨v0, e0, w0⟩ := open_strC g0 (hs.part Try.underlying126 (j := 0) rfl rfl)
    obtain rfl : c0 = str v0 := by simpa using e0
    obtain ⟨a1, m1, p1, rfl, t1⟩ := slice_of_trod Try.underlying50 g1
    obtain ⟨v1, rfl, q1, w1⟩ := open_strs2 t1 (hs.part Try.underlying126 (j := 1) rfl rfl)
    exact ⟨(⟨v0, v1⟩, (a1, p1)), rfl, ⟨w0, w1.1, w1.2⟩, q1⟩
set_option maxRecDepth 100000 in
theorem open_relC {fuel : Nat} {cs : List Value} {d : DataW H} {pl : List MemPlace} (h : DataW.trod enc Try.prog W 0 (fun _ => true) true fuel 129 cs = some (d, pl)) (hs : Sized 129 d) :
    ∃ x : Rl, cs = (rlA x).toList ∧ (I64 x.at_ ∧ I64 x.kind ∧ I64 x.sym ∧ I64 x.add) := by
  have hC : Try.prog.cellsOf 129 = 4 := by kernel_rfl
  have ktInt : Try.prog.cellsOf 3 = 1 := by kernel_rfl
  have ktRelKind : Try.prog.cellsOf 127 = 1 := by kernel_rfl
  obtain ⟨xs, n, _, hx, hlen, hxl, hg⟩ := DataW.trod_struct Try.underlying129 h
  rw [hC] at hlen
  have hxl' : xs.length = 4 := hxl
  match cs, hlen, xs, hxl' with
  | [c0, c1, c2, c3], _, [(y0, z0), (y1, z1), (y2, z2), (y3, z3)], _ =>
    have g0 : DataW.trod enc Try.prog W 0 (fun _ => true) true n 3 (List.take (Try.prog.cellsOf 3) [c0, c1, c2, c3]) = some (y0, z0) := hg 0 _ rfl
    rw [ktInt] at g0
    change DataW.trod enc Try.prog W 0 (fun _ => true) true n 3 [c0] = some (y0, z0) at g0
    have g1 : DataW.trod enc Try.prog W 0 (fun _ => true) true n 127 (List.take (Try.prog.cellsOf 127) [c1, c2, c3]) = some (y1, z1) := hg 1 _ rfl
    rw [ktRelKind] at g1
    change DataW.trod enc Try.prog W 0 (fun _ => true) true n 127 [c1] = some (y1, z1) at g1
    have g2 : DataW.trod enc Try.prog W 0 (fun _ => true) true n 3 (List.take (Try.prog.cellsOf 3) [c2, c3]) = some (y2, z2) := hg 2 _ rfl
    rw [ktInt] at g2
    change DataW.trod enc Try.prog W 0 (fun _ => true) true n 3 [c2] = some (y2, z2) at g2
    have g3 : DataW.trod enc Try.prog W 0 (fun _ => true) true n 3 (List.take (Try.prog.cellsOf 3) [c3]) = some (y3, z3) := hg 3 _ rfl
    rw [ktInt] at g3
    change DataW.trod enc Try.prog W 0 (fun _ => true) true n 3 [c3] = some (y3, z3) at g3
    have hd : d = .agg [y0, y1, y2, y3] := by injection hx
    subst hd
    obtain ⟨v0, e0, _, w0⟩ := DataW.trod_int Try.underlying3 g0
    obtain rfl : c0 = .int .i64 v0 := by simpa using e0
    have w0 := i64_of_wf w0
    obtain ⟨v1, e1, _, w1⟩ := DataW.trod_int Try.underlying127 g1
    obtain rfl : c1 = .int .i64 v1 := by simpa using e1
    have w1 := i64_of_wf w1
    obtain ⟨v2, e2, _, w2⟩ := DataW.trod_int Try.underlying3 g2
    obtain rfl : c2 = .int .i64 v2 := by simpa using e2
    have w2 := i64_of_wf w2
    obtain ⟨v3, e3, _, w3⟩ := DataW.trod_int Try.underlying3 g3
    obtain rfl : c3 = .int .i64 v3 := by simpa using e3
    have w3 := i64_of_wf w3
    exact ⟨⟨v0, v1, v2, v3⟩, rfl, w0, w1, w2, w3⟩
set_option maxRecDepth 100000 in
theorem open_slotC {fuel : Nat} {cs : List Value} {d : DataW H} {pl : List MemPlace} (h : DataW.trod enc Try.prog W 0 (fun _ => true) true fuel 131 cs = some (d, pl)) (hs : Sized 131 d) :
    ∃ x : Sl, cs = (slA x).toList ∧ (I64 x.at_ ∧ I64 x.sym ∧ I64 x.stub) := by
  have hC : Try.prog.cellsOf 131 = 3 := by kernel_rfl
  have ktInt : Try.prog.cellsOf 3 = 1 := by kernel_rfl
  obtain ⟨xs, n, _, hx, hlen, hxl, hg⟩ := DataW.trod_struct Try.underlying131 h
  rw [hC] at hlen
  have hxl' : xs.length = 3 := hxl
  match cs, hlen, xs, hxl' with
  | [c0, c1, c2], _, [(y0, z0), (y1, z1), (y2, z2)], _ =>
    have g0 : DataW.trod enc Try.prog W 0 (fun _ => true) true n 3 (List.take (Try.prog.cellsOf 3) [c0, c1, c2]) = some (y0, z0) := hg 0 _ rfl
    rw [ktInt] at g0
    change DataW.trod enc Try.prog W 0 (fun _ => true) true n 3 [c0] = some (y0, z0) at g0
    have g1 : DataW.trod enc Try.prog W 0 (fun _ => true) true n 3 (List.take (Try.prog.cellsOf 3) [c1, c2]) = some (y1, z1) := hg 1 _ rfl
    rw [ktInt] at g1
    change DataW.trod enc Try.prog W 0 (fun _ => true) true n 3 [c1] = some (y1, z1) at g1
    have g2 : DataW.trod enc Try.prog W 0 (fun _ => true) true n 3 (List.take (Try.prog.cellsOf 3) [c2]) = some (y2, z2) := hg 2 _ rfl
    rw [ktInt] at g2
    change DataW.trod enc Try.prog W 0 (fun _ => true) true n 3 [c2] = some (y2, z2) at g2
    have hd : d = .agg [y0, y1, y2] := by injection hx
    subst hd
    obtain ⟨v0, e0, _, w0⟩ := DataW.trod_int Try.underlying3 g0
    obtain rfl : c0 = .int .i64 v0 := by simpa using e0
    have w0 := i64_of_wf w0
    obtain ⟨v1, e1, _, w1⟩ := DataW.trod_int Try.underlying3 g1
    obtain rfl : c1 = .int .i64 v1 := by simpa using e1
    have w1 := i64_of_wf w1
    obtain ⟨v2, e2, _, w2⟩ := DataW.trod_int Try.underlying3 g2
    obtain rfl : c2 = .int .i64 v2 := by simpa using e2
    have w2 := i64_of_wf w2
    exact ⟨⟨v0, v1, v2⟩, rfl, w0, w1, w2⟩
set_option maxRecDepth 100000 in
theorem open_symC2 {fuel : Nat} {cs : List Value} {d : DataW H} {pl : List MemPlace} (h : DataW.trod enc Try.prog W 0 (fun _ => true) true fuel 25 cs = some (d, pl)) (hs : Sized 25 d) :
    ∃ x : Sym, cs = (symA x).toList ∧ (Long x.name.length ∧ Long x.ver.length ∧ I64 x.kind ∧ I64 x.vis ∧ I64 x.val ∧ I64 x.size) := by
  have hC : Try.prog.cellsOf 25 = 9 := by kernel_rfl
  have ktString : Try.prog.cellsOf 9 = 1 := by kernel_rfl
  have ktBool : Try.prog.cellsOf 4 = 1 := by kernel_rfl
  have ktKind : Try.prog.cellsOf 22 = 1 := by kernel_rfl
  have ktVis : Try.prog.cellsOf 23 = 1 := by kernel_rfl
  have ktInt : Try.prog.cellsOf 3 = 1 := by kernel_rfl
  obtain ⟨xs, n, _, hx, hlen, hxl, hg⟩ := DataW.trod_struct Try.underlying25 h
  rw [hC] at hlen
  have hxl' : xs.length = 9 := hxl
  match cs, hlen, xs, hxl' with
  | [c0, c1, c2, c3, c4, c5, c6, c7, c8], _, [(y0, z0), (y1, z1), (y2, z2), (y3, z3), (y4, z4), (y5, z5), (y6, z6), (y7, z7), (y8, z8)], _ =>
    have g0 : DataW.trod enc Try.prog W 0 (fun _ => true) true n 9 (List.take (Try.prog.cellsOf 9) [c0, c1, c2, c3, c4, c5, c6, c7, c8]) = some (y0, z0) := hg 0 _ rfl
    rw [ktString] at g0
    change DataW.trod enc Try.prog W 0 (fun _ => true) true n 9 [c0] = some (y0, z0) at g0
    have g1 : DataW.trod enc Try.prog W 0 (fun _ => true) true n 9 (List.take (Try.prog.cellsOf 9) [c1, c2, c3, c4, c5, c6, c7, c8]) = some (y1, z1) := hg 1 _ rfl
    rw [ktString] at g1
    change DataW.trod enc Try.prog W 0 (fun _ => true) true n 9 [c1] = some (y1, z1) at g1
    have g2 : DataW.trod enc Try.prog W 0 (fun _ => true) true n 4 (List.take (Try.prog.cellsOf 4) [c2, c3, c4, c5, c6, c7, c8]) = some (y2, z2) := hg 2 _ rfl
    rw [ktBool] at g2
    change DataW.trod enc Try.prog W 0 (fun _ => true) true n 4 [c2] = some (y2, z2) at g2
    have g3 : DataW.trod enc Try.prog W 0 (fun _ => true) true n 22 (List.take (Try.prog.cellsOf 22) [c3, c4, c5, c6, c7, c8]) = some (y3, z3) := hg 3 _ rfl
    rw [ktKind] at g3
    change DataW.trod enc Try.prog W 0 (fun _ => true) true n 22 [c3] = some (y3, z3) at g3
    have g4 : DataW.trod enc Try.prog W 0 (fun _ => true) true n 4 (List.take (Try.prog.cellsOf 4) [c4, c5, c6, c7, c8]) = some (y4, z4) := hg 4 _ rfl
    rw [ktBool] at g4
    change DataW.trod enc Try.prog W 0 (fun _ => true) true n 4 [c4] = some (y4, z4) at g4
    have g5 : DataW.trod enc Try.prog W 0 (fun _ => true) true n 23 (List.take (Try.prog.cellsOf 23) [c5, c6, c7, c8]) = some (y5, z5) := hg 5 _ rfl
    rw [ktVis] at g5
    change DataW.trod enc Try.prog W 0 (fun _ => true) true n 23 [c5] = some (y5, z5) at g5
    have g6 : DataW.trod enc Try.prog W 0 (fun _ => true) true n 4 (List.take (Try.prog.cellsOf 4) [c6, c7, c8]) = some (y6, z6) := hg 6 _ rfl
    rw [ktBool] at g6
    change DataW.trod enc Try.prog W 0 (fun _ => true) true n 4 [c6] = some (y6, z6) at g6
    have g7 : DataW.trod enc Try.prog W 0 (fun _ => true) true n 3 (List.take (Try.prog.cellsOf 3) [c7, c8]) = some (y7, z7) := hg 7 _ rfl
    rw [ktInt] at g7
    change DataW.trod enc Try.prog W 0 (fun _ => true) true n 3 [c7] = some (y7, z7) at g7
    have g8 : DataW.trod enc Try.prog W 0 (fun _ => true) true n 3 (List.take (Try.prog.cellsOf 3) [c8]) = some (y8, z8) := hg 8 _ rfl
    rw [ktInt] at g8
    change DataW.trod enc Try.prog W 0 (fun _ => true) true n 3 [c8] = some (y8, z8) at g8
    have hd : d = .agg [y0, y1, y2, y3, y4, y5, y6, y7, y8] := by injection hx
    subst hd
    obtain ⟨v0, e0, w0⟩ := open_strC g0 (hs.part Try.underlying25 (j := 0) rfl rfl)
    obtain rfl : c0 = str v0 := by simpa using e0
    obtain ⟨v1, e1, w1⟩ := open_strC g1 (hs.part Try.underlying25 (j := 1) rfl rfl)
    obtain rfl : c1 = str v1 := by simpa using e1
    obtain ⟨v2, e2, _⟩ := DataW.trod_bool Try.underlying4 g2
    obtain rfl : c2 = .bool v2 := by simpa using e2
    obtain ⟨v3, e3, _, w3⟩ := DataW.trod_int Try.underlying22 g3
    obtain rfl : c3 = .int .i64 v3 := by simpa using e3
    have w3 := i64_of_wf w3
    obtain ⟨v4, e4, _⟩ := DataW.trod_bool Try.underlying4 g4
    obtain rfl : c4 = .bool v4 := by simpa using e4
    obtain ⟨v5, e5, _, w5⟩ := DataW.trod_int Try.underlying23 g5
    obtain rfl : c5 = .int .i64 v5 := by simpa using e5
    have w5 := i64_of_wf w5
    obtain ⟨v6, e6, _⟩ := DataW.trod_bool Try.underlying4 g6
    obtain rfl : c6 = .bool v6 := by simpa using e6
    obtain ⟨v7, e7, _, w7⟩ := DataW.trod_int Try.underlying3 g7
    obtain rfl : c7 = .int .i64 v7 := by simpa using e7
    have w7 := i64_of_wf w7
    obtain ⟨v8, e8, _, w8⟩ := DataW.trod_int Try.underlying3 g8
    obtain rfl : c8 = .int .i64 v8 := by simpa using e8
    have w8 := i64_of_wf w8
    exact ⟨⟨v0, v1, v2, v3, v4, v5, v6, v7, v8⟩, rfl, w0, w1, w3, w5, w7, w8⟩
end
end Go.Proofs.Ytpcgedngikpnoaa
