/-
  How images come in (written by mko.py).
  How whole images come in (written by mkp.py).
-/
import Derived.Test.YtfljignkjmabpaaGreatZTOt
import Derived.Test.YtfljignkjmabpaaGreatZUl
namespace Go.Proofs.YtfljignkjmabpaaGreat
set_option maxRecDepth 100000
set_option linter.unusedSimpArgs false
set_option linter.unusedVariables false
open Go.ChangeShapes Go.WideShapes Go.ChangeAt Go.RowKit Go.Deep

theorem Els.congr {w : World} {P : Nat → Prop} {A : Option Addr} {n c sz : Nat} {E E' : Nat → Array Value} (h : Els w P A n c sz E) (he : ∀ k, k < n → E k = E' k) : Els w P A n c sz E' :=
  ⟨h.nil, h.cap, h.blk, fun ad hA k hk j u hu => h.at_ ad hA k hk j u (by rw [he k hk]; exact hu)⟩
theorem range_getD {α : Type} (f : Nat → α) (n k : Nat) (d : α) (hk : k < n) : ((List.range n).map f).getD k d = f k := by
  rw [List.getD_eq_getElem?_getD]
  simp [hk]
section
variable {H : Type} {enc : TypeId × Value → H} {W : World}
/-- A list of elements that can be opened one by one. -/
theorem open_list {β : Type} (x0 : β) {t e : TypeId} {sz b : Nat} (ht : Tryz.prog.underlying t = some (.slice e)) (hC : Tryz.prog.cellsOf e = sz) (hb : Tryz.prog.bytesOf e = b) (E : β → Array Value) (hE : ∀ x, (E x).size = sz) (G : β → Prop) (hz : 0 < sz)
    (hel : ∀ {fuel : Nat} {cs : List Value} {d : DataW H} {pl : List MemPlace}, DataW.trod enc Tryz.prog W 0 (fun _ => true) true fuel e cs = some (d, pl) → Sized e d → ∃ x, cs = (E x).toList ∧ G x)
    {a : Option Addr} {n c : Nat} {d : DataW H} {p : List MemPlace} (h : DataW.Trod enc Tryz.prog W 0 (fun _ => true) true t (.slice a n c) d p) (hs : Sized t d) :
    ∃ f : Nat → β, Els W (fun k => k < W.heap.size) a n c sz (fun k => E (f k)) ∧ (∀ k, k < n → G (f k)) ∧ n * b ≤ 140737488351232 := by
  obtain ⟨fuel, hf⟩ := h
  rcases open_slice ht hf with ⟨hcs, hx⟩ | ⟨a0, len, cap, m, n', D, Pl, hcs, _, hl, hm, hmm, hx, hi⟩
  · simp [Value.cells] at hcs
    obtain ⟨rfl, rfl, rfl⟩ := hcs
    exact ⟨fun _ => x0, ⟨fun _ => ⟨rfl, rfl⟩, Nat.le_refl _, (by intro ad h; cases h), (by intro ad h; cases h)⟩, by intro k hk; omega, by omega⟩
  · simp [Value.cells] at hcs
    obtain ⟨rfl, rfl, rfl⟩ := hcs
    simp only [if_true] at hmm
    subst hmm
    have hd := (Prod.mk.inj hx).1
    have hsz : ∀ i, i < n → Sized e (D i) := by
      intro i hin
      have h' := hs
      rw [hd] at h'
      refine h'.elem ht ?_
      simp
      exact ⟨i, hin, rfl⟩
    have each : ∀ i, i < n → ∃ x : β, (∀ j u, (E x)[j]? = some u → W.cell? (a0.add (i * sz + j)) = some u) ∧ G x := by
      intro i hin
      obtain ⟨cs', hc, ht'⟩ := hi i (by omega)
      rw [hC] at hc
      obtain ⟨_, hcl, hat⟩ := World.cells?_some hc
      obtain ⟨x, hxe, hg⟩ := hel ht' (hsz i hin)
      refine ⟨x, fun j u hu => ?_, hg⟩
      have hj : j < sz := by have := (Array.getElem?_eq_some_iff.1 hu).1; rw [hE] at this; exact this
      rw [← addAdd, hat j hj, ← hu, ← Array.getElem?_toList, ← hxe]
    have hch : ∃ g : Nat → β, ∀ i, i < n → (∀ j u, (E (g i))[j]? = some u → W.cell? (a0.add (i * sz + j)) = some u) ∧ G (g i) := by
      refine ⟨fun i => if h : i < n then Classical.choose (each i h) else x0, fun i h => ?_⟩
      simp only [dif_pos h]
      exact Classical.choose_spec (each i h)
    obtain ⟨g, hg⟩ := hch
    refine ⟨g, ⟨(by intro h; cases h), hl, ?_, ?_⟩, fun k hk => (hg k hk).2, ?_⟩
    · intro ad h h0
      cases h
      have := World.block_lt_of_cell? W _ ((hg 0 h0).1 0 _ (Array.getElem?_eq_getElem (by rw [hE]; exact hz)))
      rw [addBlock] at this
      exact this
    · intro ad h k hk j u hu
      cases h
      exact (hg k hk).1 j u hu
    · exact sized_len hs ht hb (.inr ⟨_, _, hd, by simp⟩)
theorem open_bytes {a : Option Addr} {n c : Nat} {d : DataW H} {p : List MemPlace} (h : DataW.Trod enc Tryz.prog W 0 (fun _ => true) true 22 (.slice a n c) d p) (hs : Sized 22 d) :
    ∃ b : Str, b.length = n ∧ Src W (fun k => k < W.heap.size) a n c (cells b) ∧ Long n := by
  obtain ⟨zs, h1, h2, h3, _⟩ := open_nums Tryz.underlying22 Tryz.underlying5 (by kernel_rfl) h
  have e : zs.map (Value.int .u8) = cells (zs.map fun z => UInt8.ofNat z.toNat) := by
    simp only [cells, List.map_map]
    apply List.map_congr_left
    intro z hz
    have := u8_of_wf (h2 z hz)
    exact congrArg (Value.int .u8) this
  have := sized_len (b := 1) hs Tryz.underlying22 (by kernel_rfl) h3
  exact ⟨zs.map fun z => UInt8.ofNat z.toNat, by simpa using h1.len, e ▸ h1, by unfold Long; omega⟩
theorem open_ints2 {a : Option Addr} {n c : Nat} {d : DataW H} {p : List MemPlace} (h : DataW.Trod enc Tryz.prog W 0 (fun _ => true) true 38 (.slice a n c) d p) (hs : Sized 38 d) :
    ∃ l : List Int, l.length = n ∧ Src W (fun k => k < W.heap.size) a n c (ints l) ∧ Long n ∧ ∀ i ∈ l, I64 i := by
  obtain ⟨zs, h1, h2, h3, _⟩ := open_nums Tryz.underlying38 Tryz.underlying3 (by kernel_rfl) h
  have := sized_len (b := 8) hs Tryz.underlying38 (by kernel_rfl) h3
  exact ⟨zs, by simpa using h1.len, h1, by unfold Long; omega, fun i hi => i64_of_wf (h2 i hi)⟩
theorem open_strC {fuel : Nat} {cs : List Value} {d : DataW H} {pl : List MemPlace} (h : DataW.trod enc Tryz.prog W 0 (fun _ => true) true fuel 9 cs = some (d, pl)) (hs : Sized 9 d) : ∃ s : Str, cs = (#[str s] : Array Value).toList ∧ Long s.length := by
  obtain ⟨k, e, f, _⟩ := DataW.trod_string Tryz.underlying9 h
  injection f with f _
  subst f
  exact ⟨k.data.toList, by rw [e, str_of], hs.str⟩
theorem open_strs2 {a : Option Addr} {n c : Nat} {d : DataW H} {p : List MemPlace} (h : DataW.Trod enc Tryz.prog W 0 (fun _ => true) true 28 (.slice a n c) d p) (hs : Sized 28 d) :
    ∃ l : List Str, l.length = n ∧ Src W (fun k => k < W.heap.size) a n c (Go.Proofs.YtfljignkjmabpaaGreat.strs l) ∧ Long n ∧ ∀ s ∈ l, Long s.length := by
  obtain ⟨f, h1, h2, h3⟩ := open_list (x0 := ([] : Str)) Tryz.underlying28 (by kernel_rfl) (b := 16) (by kernel_rfl) (fun s => #[str s]) (fun _ => rfl) (fun s => Long s.length) (by decide) open_strC h hs
  refine ⟨(List.range n).map f, by simp, ?_, by unfold Long; omega, ?_⟩
  · have := src_of_els (f := fun l : Str => .string ⟨l.toArray⟩) (d := []) (ys := (List.range n).map f) (A := a) (c := c) (w := W) (P := fun k => k < W.heap.size) (by
      rw [show ((List.range n).map f).length = n by simp]
      exact h1.congr fun k hk => by rw [range_getD f n k [] hk])
    simpa [Go.Proofs.YtfljignkjmabpaaGreat.strs] using this
  · intro s hs'
    obtain ⟨k, hk, rfl⟩ := List.mem_map.1 hs'
    exact h2 k (List.mem_range.1 hk)
set_option maxRecDepth 100000 in
theorem open_segC {fuel : Nat} {cs : List Value} {d : DataW H} {pl : List MemPlace} (h : DataW.trod enc Tryz.prog W 0 (fun _ => true) true fuel 61 cs = some (d, pl)) (hs : Sized 61 d) :
    ∃ x : Sg × (Option Addr × Nat), cs = (sgA x.1 x.2).toList ∧ ((I64 x.1.at_ ∧ I64 x.1.size ∧ I64 x.1.perm ∧ Long x.1.bs.length) ∧ Src W (fun k => k < W.heap.size) x.2.1 x.1.bs.length x.2.2 (cells x.1.bs)) := by
  have hC : Tryz.prog.cellsOf 61 = 4 := by kernel_rfl
  have ktInt : Tryz.prog.cellsOf 3 = 1 := by kernel_rfl
  have ktBytes : Tryz.prog.cellsOf 22 = 1 := by kernel_rfl
  have ktPerm : Tryz.prog.cellsOf 59 = 1 := by kernel_rfl
  obtain ⟨xs, n, _, hx, hlen, hxl, hg⟩ := DataW.trod_struct Tryz.underlying61 h
  rw [hC] at hlen
  have hxl' : xs.length = 4 := hxl
  match cs, hlen, xs, hxl' with
  | [c0, c1, c2, c3], _, [(y0, z0), (y1, z1), (y2, z2), (y3, z3)], _ =>
    have g0 : DataW.trod enc Tryz.prog W 0 (fun _ => true) true n 3 (List.take (Tryz.prog.cellsOf 3) [c0, c1, c2, c3]) = some (y0, z0) := hg 0 _ rfl
    rw [ktInt] at g0
    change DataW.trod enc Tryz.prog W 0 (fun _ => true) true n 3 [c0] = some (y0, z0) at g0
    have g1 : DataW.trod enc Tryz.prog W 0 (fun _ => true) true n 3 (List.take (Tryz.prog.cellsOf 3) [c1, c2, c3]) = some (y1, z1) := hg 1 _ rfl
    rw [ktInt] at g1
    change DataW.trod enc Tryz.prog W 0 (fun _ => true) true n 3 [c1] = some (y1, z1) at g1
    have g2 : DataW.trod enc Tryz.prog W 0 (fun _ => true) true n 22 (List.take (Tryz.prog.cellsOf 22) [c2, c3]) = some (y2, z2) := hg 2 _ rfl
    rw [ktBytes] at g2
    change DataW.trod enc Tryz.prog W 0 (fun _ => true) true n 22 [c2] = some (y2, z2) at g2
    have g3 : DataW.trod enc Tryz.prog W 0 (fun _ => true) true n 59 (List.take (Tryz.prog.cellsOf 59) [c3]) = some (y3, z3) := hg 3 _ rfl
    rw [ktPerm] at g3
    change DataW.trod enc Tryz.prog W 0 (fun _ => true) true n 59 [c3] = some (y3, z3) at g3
    have hd : d = .agg [y0, y1, y2, y3] := by injection hx
    subst hd
    obtain ⟨v0, e0, _, w0⟩ := DataW.trod_int Tryz.underlying3 g0
    obtain rfl : c0 = .int .i64 v0 := by simpa using e0
    have w0 := i64_of_wf w0
    obtain ⟨v1, e1, _, w1⟩ := DataW.trod_int Tryz.underlying3 g1
    obtain rfl : c1 = .int .i64 v1 := by simpa using e1
    have w1 := i64_of_wf w1
    obtain ⟨a2, m2, p2, rfl, t2⟩ := slice_of_trod Tryz.underlying22 g2
    obtain ⟨v2, rfl, q2, w2⟩ := open_bytes t2 (hs.part Tryz.underlying61 (j := 2) rfl rfl)
    obtain ⟨v3, e3, _, w3⟩ := DataW.trod_int Tryz.underlying59 g3
    obtain rfl : c3 = .int .i64 v3 := by simpa using e3
    have w3 := i64_of_wf w3
    exact ⟨(⟨v0, v1, v2, v3⟩, (a2, p2)), rfl, ⟨w0, w1, w3, w2⟩, q2⟩
set_option maxRecDepth 100000 in
theorem open_needC {fuel : Nat} {cs : List Value} {d : DataW H} {pl : List MemPlace} (h : DataW.trod enc Tryz.prog W 0 (fun _ => true) true fuel 98 cs = some (d, pl)) (hs : Sized 98 d) :
    ∃ x : Nd × (Option Addr × Nat), cs = (ndA x.1 x.2).toList ∧ ((Long x.1.name.length ∧ Long x.1.vers.length ∧ ∀ v ∈ x.1.vers, Long v.length) ∧ Src W (fun k => k < W.heap.size) x.2.1 x.1.vers.length x.2.2 (Go.Proofs.YtfljignkjmabpaaGreat.strs x.1.vers)) := by
  have hC : Tryz.prog.cellsOf 98 = 2 := by kernel_rfl
  have ktString : Tryz.prog.cellsOf 9 = 1 := by kernel_rfl
  have ktStrs : Tryz.prog.cellsOf 28 = 1 := by kernel_rfl
  obtain ⟨xs, n, _, hx, hlen, hxl, hg⟩ := DataW.trod_struct Tryz.underlying98 h
  rw [hC] at hlen
  have hxl' : xs.length = 2 := hxl
  match cs, hlen, xs, hxl' with
  | [c0, c1], _, [(y0, z0), (y1, z1)], _ =>
    have g0 : DataW.trod enc Tryz.prog W 0 (fun _ => true) true n 9 (List.take (Tryz.prog.cellsOf 9) [c0, c1]) = some (y0, z0) := hg 0 _ rfl
    rw [ktString] at g0
    change DataW.trod enc Tryz.prog W 0 (fun _ => true) true n 9 [c0] = some (y0, z0) at g0
    have g1 : DataW.trod enc Tryz.prog W 0 (fun _ => true) true n 28 (List.take (Tryz.prog.cellsOf 28) [c1]) = some (y1, z1) := hg 1 _ rfl
    rw [ktStrs] at g1
    change DataW.trod enc Tryz.prog W 0 (fun _ => true) true n 28 [c1] = some (y1, z1) at g1
    have hd : d = .agg [y0, y1] := by injection hx
    subst hd
    obtain ⟨v0, e0, w0⟩ := open_strC g0 (hs.part Tryz.underlying98 (j := 0) rfl rfl)
    obtain rfl : c0 = str v0 := by simpa using e0
    obtain ⟨a1, m1, p1, rfl, t1⟩ := slice_of_trod Tryz.underlying28 g1
    obtain ⟨v1, rfl, q1, w1⟩ := open_strs2 t1 (hs.part Tryz.underlying98 (j := 1) rfl rfl)
    exact ⟨(⟨v0, v1⟩, (a1, p1)), rfl, ⟨w0, w1.1, w1.2⟩, q1⟩
set_option maxRecDepth 100000 in
theorem open_relC {fuel : Nat} {cs : List Value} {d : DataW H} {pl : List MemPlace} (h : DataW.trod enc Tryz.prog W 0 (fun _ => true) true fuel 57 cs = some (d, pl)) (hs : Sized 57 d) :
    ∃ x : Rl, cs = (rlA x).toList ∧ (I64 x.at_ ∧ I64 x.kind ∧ I64 x.sym ∧ I64 x.add) := by
  have hC : Tryz.prog.cellsOf 57 = 4 := by kernel_rfl
  have ktInt : Tryz.prog.cellsOf 3 = 1 := by kernel_rfl
  have ktRelKind : Tryz.prog.cellsOf 55 = 1 := by kernel_rfl
  obtain ⟨xs, n, _, hx, hlen, hxl, hg⟩ := DataW.trod_struct Tryz.underlying57 h
  rw [hC] at hlen
  have hxl' : xs.length = 4 := hxl
  match cs, hlen, xs, hxl' with
  | [c0, c1, c2, c3], _, [(y0, z0), (y1, z1), (y2, z2), (y3, z3)], _ =>
    have g0 : DataW.trod enc Tryz.prog W 0 (fun _ => true) true n 3 (List.take (Tryz.prog.cellsOf 3) [c0, c1, c2, c3]) = some (y0, z0) := hg 0 _ rfl
    rw [ktInt] at g0
    change DataW.trod enc Tryz.prog W 0 (fun _ => true) true n 3 [c0] = some (y0, z0) at g0
    have g1 : DataW.trod enc Tryz.prog W 0 (fun _ => true) true n 55 (List.take (Tryz.prog.cellsOf 55) [c1, c2, c3]) = some (y1, z1) := hg 1 _ rfl
    rw [ktRelKind] at g1
    change DataW.trod enc Tryz.prog W 0 (fun _ => true) true n 55 [c1] = some (y1, z1) at g1
    have g2 : DataW.trod enc Tryz.prog W 0 (fun _ => true) true n 3 (List.take (Tryz.prog.cellsOf 3) [c2, c3]) = some (y2, z2) := hg 2 _ rfl
    rw [ktInt] at g2
    change DataW.trod enc Tryz.prog W 0 (fun _ => true) true n 3 [c2] = some (y2, z2) at g2
    have g3 : DataW.trod enc Tryz.prog W 0 (fun _ => true) true n 3 (List.take (Tryz.prog.cellsOf 3) [c3]) = some (y3, z3) := hg 3 _ rfl
    rw [ktInt] at g3
    change DataW.trod enc Tryz.prog W 0 (fun _ => true) true n 3 [c3] = some (y3, z3) at g3
    have hd : d = .agg [y0, y1, y2, y3] := by injection hx
    subst hd
    obtain ⟨v0, e0, _, w0⟩ := DataW.trod_int Tryz.underlying3 g0
    obtain rfl : c0 = .int .i64 v0 := by simpa using e0
    have w0 := i64_of_wf w0
    obtain ⟨v1, e1, _, w1⟩ := DataW.trod_int Tryz.underlying55 g1
    obtain rfl : c1 = .int .i64 v1 := by simpa using e1
    have w1 := i64_of_wf w1
    obtain ⟨v2, e2, _, w2⟩ := DataW.trod_int Tryz.underlying3 g2
    obtain rfl : c2 = .int .i64 v2 := by simpa using e2
    have w2 := i64_of_wf w2
    obtain ⟨v3, e3, _, w3⟩ := DataW.trod_int Tryz.underlying3 g3
    obtain rfl : c3 = .int .i64 v3 := by simpa using e3
    have w3 := i64_of_wf w3
    exact ⟨⟨v0, v1, v2, v3⟩, rfl, w0, w1, w2, w3⟩
set_option maxRecDepth 100000 in
theorem open_slotC {fuel : Nat} {cs : List Value} {d : DataW H} {pl : List MemPlace} (h : DataW.trod enc Tryz.prog W 0 (fun _ => true) true fuel 112 cs = some (d, pl)) (hs : Sized 112 d) :
    ∃ x : Sl, cs = (slA x).toList ∧ (I64 x.at_ ∧ I64 x.sym ∧ I64 x.stub) := by
  have hC : Tryz.prog.cellsOf 112 = 3 := by kernel_rfl
  have ktInt : Tryz.prog.cellsOf 3 = 1 := by kernel_rfl
  obtain ⟨xs, n, _, hx, hlen, hxl, hg⟩ := DataW.trod_struct Tryz.underlying112 h
  rw [hC] at hlen
  have hxl' : xs.length = 3 := hxl
  match cs, hlen, xs, hxl' with
  | [c0, c1, c2], _, [(y0, z0), (y1, z1), (y2, z2)], _ =>
    have g0 : DataW.trod enc Tryz.prog W 0 (fun _ => true) true n 3 (List.take (Tryz.prog.cellsOf 3) [c0, c1, c2]) = some (y0, z0) := hg 0 _ rfl
    rw [ktInt] at g0
    change DataW.trod enc Tryz.prog W 0 (fun _ => true) true n 3 [c0] = some (y0, z0) at g0
    have g1 : DataW.trod enc Tryz.prog W 0 (fun _ => true) true n 3 (List.take (Tryz.prog.cellsOf 3) [c1, c2]) = some (y1, z1) := hg 1 _ rfl
    rw [ktInt] at g1
    change DataW.trod enc Tryz.prog W 0 (fun _ => true) true n 3 [c1] = some (y1, z1) at g1
    have g2 : DataW.trod enc Tryz.prog W 0 (fun _ => true) true n 3 (List.take (Tryz.prog.cellsOf 3) [c2]) = some (y2, z2) := hg 2 _ rfl
    rw [ktInt] at g2
    change DataW.trod enc Tryz.prog W 0 (fun _ => true) true n 3 [c2] = some (y2, z2) at g2
    have hd : d = .agg [y0, y1, y2] := by injection hx
    subst hd
    obtain ⟨v0, e0, _, w0⟩ := DataW.trod_int Tryz.underlying3 g0
    obtain rfl : c0 = .int .i64 v0 := by simpa using e0
    have w0 := i64_of_wf w0
    obtain ⟨v1, e1, _, w1⟩ := DataW.trod_int Tryz.underlying3 g1
    obtain rfl : c1 = .int .i64 v1 := by simpa using e1
    have w1 := i64_of_wf w1
    obtain ⟨v2, e2, _, w2⟩ := DataW.trod_int Tryz.underlying3 g2
    obtain rfl : c2 = .int .i64 v2 := by simpa using e2
    have w2 := i64_of_wf w2
    exact ⟨⟨v0, v1, v2⟩, rfl, w0, w1, w2⟩
set_option maxRecDepth 100000 in
theorem open_symC2 {fuel : Nat} {cs : List Value} {d : DataW H} {pl : List MemPlace} (h : DataW.trod enc Tryz.prog W 0 (fun _ => true) true fuel 105 cs = some (d, pl)) (hs : Sized 105 d) :
    ∃ x : Sym, cs = (symA x).toList ∧ (Long x.name.length ∧ Long x.ver.length ∧ I64 x.kind ∧ I64 x.vis ∧ I64 x.val ∧ I64 x.size) := by
  have hC : Tryz.prog.cellsOf 105 = 9 := by kernel_rfl
  have ktString : Tryz.prog.cellsOf 9 = 1 := by kernel_rfl
  have ktBool : Tryz.prog.cellsOf 4 = 1 := by kernel_rfl
  have ktKind : Tryz.prog.cellsOf 102 = 1 := by kernel_rfl
  have ktVis : Tryz.prog.cellsOf 103 = 1 := by kernel_rfl
  have ktInt : Tryz.prog.cellsOf 3 = 1 := by kernel_rfl
  obtain ⟨xs, n, _, hx, hlen, hxl, hg⟩ := DataW.trod_struct Tryz.underlying105 h
  rw [hC] at hlen
  have hxl' : xs.length = 9 := hxl
  match cs, hlen, xs, hxl' with
  | [c0, c1, c2, c3, c4, c5, c6, c7, c8], _, [(y0, z0), (y1, z1), (y2, z2), (y3, z3), (y4, z4), (y5, z5), (y6, z6), (y7, z7), (y8, z8)], _ =>
    have g0 : DataW.trod enc Tryz.prog W 0 (fun _ => true) true n 9 (List.take (Tryz.prog.cellsOf 9) [c0, c1, c2, c3, c4, c5, c6, c7, c8]) = some (y0, z0) := hg 0 _ rfl
    rw [ktString] at g0
    change DataW.trod enc Tryz.prog W 0 (fun _ => true) true n 9 [c0] = some (y0, z0) at g0
    have g1 : DataW.trod enc Tryz.prog W 0 (fun _ => true) true n 9 (List.take (Tryz.prog.cellsOf 9) [c1, c2, c3, c4, c5, c6, c7, c8]) = some (y1, z1) := hg 1 _ rfl
    rw [ktString] at g1
    change DataW.trod enc Tryz.prog W 0 (fun _ => true) true n 9 [c1] = some (y1, z1) at g1
    have g2 : DataW.trod enc Tryz.prog W 0 (fun _ => true) true n 4 (List.take (Tryz.prog.cellsOf 4) [c2, c3, c4, c5, c6, c7, c8]) = some (y2, z2) := hg 2 _ rfl
    rw [ktBool] at g2
    change DataW.trod enc Tryz.prog W 0 (fun _ => true) true n 4 [c2] = some (y2, z2) at g2
    have g3 : DataW.trod enc Tryz.prog W 0 (fun _ => true) true n 102 (List.take (Tryz.prog.cellsOf 102) [c3, c4, c5, c6, c7, c8]) = some (y3, z3) := hg 3 _ rfl
    rw [ktKind] at g3
    change DataW.trod enc Tryz.prog W 0 (fun _ => true) true n 102 [c3] = some (y3, z3) at g3
    have g4 : DataW.trod enc Tryz.prog W 0 (fun _ => true) true n 4 (List.take (Tryz.prog.cellsOf 4) [c4, c5, c6, c7, c8]) = some (y4, z4) := hg 4 _ rfl
    rw [ktBool] at g4
    change DataW.trod enc Tryz.prog W 0 (fun _ => true) true n 4 [c4] = some (y4, z4) at g4
    have g5 : DataW.trod enc Tryz.prog W 0 (fun _ => true) true n 103 (List.take (Tryz.prog.cellsOf 103) [c5, c6, c7, c8]) = some (y5, z5) := hg 5 _ rfl
    rw [ktVis] at g5
    change DataW.trod enc Tryz.prog W 0 (fun _ => true) true n 103 [c5] = some (y5, z5) at g5
    have g6 : DataW.trod enc Tryz.prog W 0 (fun _ => true) true n 4 (List.take (Tryz.prog.cellsOf 4) [c6, c7, c8]) = some (y6, z6) := hg 6 _ rfl
    rw [ktBool] at g6
    change DataW.trod enc Tryz.prog W 0 (fun _ => true) true n 4 [c6] = some (y6, z6) at g6
    have g7 : DataW.trod enc Tryz.prog W 0 (fun _ => true) true n 3 (List.take (Tryz.prog.cellsOf 3) [c7, c8]) = some (y7, z7) := hg 7 _ rfl
    rw [ktInt] at g7
    change DataW.trod enc Tryz.prog W 0 (fun _ => true) true n 3 [c7] = some (y7, z7) at g7
    have g8 : DataW.trod enc Tryz.prog W 0 (fun _ => true) true n 3 (List.take (Tryz.prog.cellsOf 3) [c8]) = some (y8, z8) := hg 8 _ rfl
    rw [ktInt] at g8
    change DataW.trod enc Tryz.prog W 0 (fun _ => true) true n 3 [c8] = some (y8, z8) at g8
    have hd : d = .agg [y0, y1, y2, y3, y4, y5, y6, y7, y8] := by injection hx
    subst hd
    obtain ⟨v0, e0, w0⟩ := open_strC g0 (hs.part Tryz.underlying105 (j := 0) rfl rfl)
    obtain rfl : c0 = str v0 := by simpa using e0
    obtain ⟨v1, e1, w1⟩ := open_strC g1 (hs.part Tryz.underlying105 (j := 1) rfl rfl)
    obtain rfl : c1 = str v1 := by simpa using e1
    obtain ⟨v2, e2, _⟩ := DataW.trod_bool Tryz.underlying4 g2
    obtain rfl : c2 = .bool v2 := by simpa using e2
    obtain ⟨v3, e3, _, w3⟩ := DataW.trod_int Tryz.underlying102 g3
    obtain rfl : c3 = .int .i64 v3 := by simpa using e3
    have w3 := i64_of_wf w3
    obtain ⟨v4, e4, _⟩ := DataW.trod_bool Tryz.underlying4 g4
    obtain rfl : c4 = .bool v4 := by simpa using e4
    obtain ⟨v5, e5, _, w5⟩ := DataW.trod_int Tryz.underlying103 g5
    obtain rfl : c5 = .int .i64 v5 := by simpa using e5
    have w5 := i64_of_wf w5
    obtain ⟨v6, e6, _⟩ := DataW.trod_bool Tryz.underlying4 g6
    obtain rfl : c6 = .bool v6 := by simpa using e6
    obtain ⟨v7, e7, _, w7⟩ := DataW.trod_int Tryz.underlying3 g7
    obtain rfl : c7 = .int .i64 v7 := by simpa using e7
    have w7 := i64_of_wf w7
    obtain ⟨v8, e8, _, w8⟩ := DataW.trod_int Tryz.underlying3 g8
    obtain rfl : c8 = .int .i64 v8 := by simpa using e8
    have w8 := i64_of_wf w8
    exact ⟨⟨v0, v1, v2, v3, v4, v5, v6, v7, v8⟩, rfl, w0, w1, w3, w5, w7, w8⟩
end
end Go.Proofs.YtfljignkjmabpaaGreat

namespace Go.Proofs.YtfljignkjmabpaaGreat
set_option maxRecDepth 100000
set_option linter.unusedSimpArgs false
set_option linter.unusedVariables false
open Go.ChangeShapes Go.WideShapes Go.ChangeAt Go.RowKit Go.Deep
section
variable {H : Type} {enc : TypeId × Value → H} {W : World}
theorem open_segs {a : Option Addr} {n c : Nat} {d : DataW H} {p : List MemPlace} (h : DataW.Trod enc Tryz.prog W 0 (fun _ => true) true 26 (.slice a n c) d p) (hs : Sized 26 d) :
    ∃ l : List Sg, l.length = n ∧ Sgs W (fun k => k < W.heap.size) a n c l ∧ Long n ∧ ∀ s ∈ l, I64 s.at_ ∧ I64 s.size ∧ I64 s.perm ∧ Long s.bs.length := by
  obtain ⟨f, h1, h2, h3⟩ := open_list (x0 := ((noSg, (none, 0)) : Sg × (Option Addr × Nat))) Tryz.underlying26 (by kernel_rfl) (sz := 4) (b := 48) (by kernel_rfl) (fun x => sgA x.1 x.2) (fun _ => rfl) (fun x => (I64 x.1.at_ ∧ I64 x.1.size ∧ I64 x.1.perm ∧ Long x.1.bs.length) ∧ Src W (fun k => k < W.heap.size) x.2.1 x.1.bs.length x.2.2 (cells x.1.bs)) (by decide) open_segC h hs
  have e : ∀ k, k < n → ((List.range n).map fun k => (f k).1).getD k noSg = (f k).1 := fun k hk => range_getD (fun k => (f k).1) n k noSg hk
  refine ⟨(List.range n).map fun k => (f k).1, by simp, ⟨by simp, fun k => (f k).2, h1.congr fun k hk => by rw [e k hk], fun k hk => by rw [e k hk]; exact (h2 k hk).2⟩, by unfold Long; omega, ?_⟩
  · intro s hs'
    obtain ⟨k, hk, rfl⟩ := List.mem_map.1 hs'
    exact (h2 k (List.mem_range.1 hk)).1
theorem open_needs {a : Option Addr} {n c : Nat} {d : DataW H} {p : List MemPlace} (h : DataW.Trod enc Tryz.prog W 0 (fun _ => true) true 27 (.slice a n c) d p) (hs : Sized 27 d) :
    ∃ l : List Nd, l.length = n ∧ Nds W (fun k => k < W.heap.size) a n c l ∧ Long n ∧ ∀ s ∈ l, Long s.name.length ∧ Long s.vers.length ∧ ∀ v ∈ s.vers, Long v.length := by
  obtain ⟨f, h1, h2, h3⟩ := open_list (x0 := ((noNd, (none, 0)) : Nd × (Option Addr × Nat))) Tryz.underlying27 (by kernel_rfl) (sz := 2) (b := 40) (by kernel_rfl) (fun x => ndA x.1 x.2) (fun _ => rfl) (fun x => (Long x.1.name.length ∧ Long x.1.vers.length ∧ ∀ v ∈ x.1.vers, Long v.length) ∧ Src W (fun k => k < W.heap.size) x.2.1 x.1.vers.length x.2.2 (Go.Proofs.YtfljignkjmabpaaGreat.strs x.1.vers)) (by decide) open_needC h hs
  have e : ∀ k, k < n → ((List.range n).map fun k => (f k).1).getD k noNd = (f k).1 := fun k hk => range_getD (fun k => (f k).1) n k noNd hk
  refine ⟨(List.range n).map fun k => (f k).1, by simp, ⟨by simp, fun k => (f k).2, h1.congr fun k hk => by rw [e k hk], fun k hk => by rw [e k hk]; exact (h2 k hk).2⟩, by unfold Long; omega, ?_⟩
  · intro s hs'
    obtain ⟨k, hk, rfl⟩ := List.mem_map.1 hs'
    exact (h2 k (List.mem_range.1 hk)).1
theorem open_relocs {a : Option Addr} {n c : Nat} {d : DataW H} {p : List MemPlace} (h : DataW.Trod enc Tryz.prog W 0 (fun _ => true) true 36 (.slice a n c) d p) (hs : Sized 36 d) :
    ∃ l : List Rl, l.length = n ∧ Rls W (fun k => k < W.heap.size) a n c l ∧ Long n ∧ ∀ s ∈ l, I64 s.at_ ∧ I64 s.kind ∧ I64 s.sym ∧ I64 s.add := by
  obtain ⟨f, h1, h2, h3⟩ := open_list (x0 := (noRl : Rl)) Tryz.underlying36 (by kernel_rfl) (sz := 4) (b := 32) (by kernel_rfl) (fun x => rlA x) (fun _ => rfl) (fun x => I64 x.at_ ∧ I64 x.kind ∧ I64 x.sym ∧ I64 x.add) (by decide) open_relC h hs
  refine ⟨(List.range n).map f, by simp, ⟨by simp, h1.congr fun k hk => by rw [range_getD f n k noRl hk]⟩, by unfold Long; omega, ?_⟩
  · intro s hs'
    obtain ⟨k, hk, rfl⟩ := List.mem_map.1 hs'
    exact h2 k (List.mem_range.1 hk)
theorem open_slots {a : Option Addr} {n c : Nat} {d : DataW H} {p : List MemPlace} (h : DataW.Trod enc Tryz.prog W 0 (fun _ => true) true 37 (.slice a n c) d p) (hs : Sized 37 d) :
    ∃ l : List Sl, l.length = n ∧ Sls W (fun k => k < W.heap.size) a n c l ∧ Long n ∧ ∀ s ∈ l, I64 s.at_ ∧ I64 s.sym ∧ I64 s.stub := by
  obtain ⟨f, h1, h2, h3⟩ := open_list (x0 := (noSl : Sl)) Tryz.underlying37 (by kernel_rfl) (sz := 3) (b := 24) (by kernel_rfl) (fun x => slA x) (fun _ => rfl) (fun x => I64 x.at_ ∧ I64 x.sym ∧ I64 x.stub) (by decide) open_slotC h hs
  refine ⟨(List.range n).map f, by simp, ⟨by simp, h1.congr fun k hk => by rw [range_getD f n k noSl hk]⟩, by unfold Long; omega, ?_⟩
  · intro s hs'
    obtain ⟨k, hk, rfl⟩ := List.mem_map.1 hs'
    exact h2 k (List.mem_range.1 hk)
theorem open_syms2 {a : Option Addr} {n c : Nat} {d : DataW H} {p : List MemPlace} (h : DataW.Trod enc Tryz.prog W 0 (fun _ => true) true 29 (.slice a n c) d p) (hs : Sized 29 d) :
    ∃ l : List Sym, l.length = n ∧ Syl W (fun k => k < W.heap.size) a n c l ∧ Long n ∧ ∀ s ∈ l, Long s.name.length ∧ Long s.ver.length ∧ I64 s.kind ∧ I64 s.vis ∧ I64 s.val ∧ I64 s.size := by
  obtain ⟨f, h1, h2, h3⟩ := open_list (x0 := (noSy : Sym)) Tryz.underlying29 (by kernel_rfl) (sz := 9) (b := 88) (by kernel_rfl) (fun x => symA x) (fun _ => rfl) (fun x => Long x.name.length ∧ Long x.ver.length ∧ I64 x.kind ∧ I64 x.vis ∧ I64 x.val ∧ I64 x.size) (by decide) open_symC2 h hs
  refine ⟨(List.range n).map f, by simp, ?_, by unfold Long; omega, ?_⟩
  · have := syl_of_els (ys := (List.range n).map f) (A := a) (c := c) (w := W) (P := (fun k => k < W.heap.size)) (by
      rw [show ((List.range n).map f).length = n by simp]
      exact h1.congr fun k hk => by rw [range_getD f n k noSy hk])
    rwa [show ((List.range n).map f).length = n by simp] at this
  · intro s hs'
    obtain ⟨k, hk, rfl⟩ := List.mem_map.1 hs'
    exact h2 k (List.mem_range.1 hk)
theorem open_rowC {fuel : Nat} {cs : List Value} {d : DataW H} {pl : List MemPlace} (h : DataW.trod enc Tryz.prog W 0 (fun _ => true) true fuel 38 cs = some (d, pl)) (hs : Sized 38 d) :
    ∃ x : List Int × (Option Addr × Nat), cs = (#[.slice x.2.1 x.1.length x.2.2] : Array Value).toList ∧ ((Long x.1.length ∧ ∀ i ∈ x.1, I64 i) ∧ Src W (fun k => k < W.heap.size) x.2.1 x.1.length x.2.2 (ints x.1)) := by
  have key : ∀ a n c, cs = [.slice a n c] → ∃ x : List Int × (Option Addr × Nat), cs = (#[.slice x.2.1 x.1.length x.2.2] : Array Value).toList ∧ ((Long x.1.length ∧ ∀ i ∈ x.1, I64 i) ∧ Src W (fun k => k < W.heap.size) x.2.1 x.1.length x.2.2 (ints x.1)) := by
    intro a n c e
    subst e
    obtain ⟨l, rfl, l2, l3, l4⟩ := open_ints2 ⟨fuel, h⟩ hs
    exact ⟨(l, (a, c)), rfl, ⟨l3, l4⟩, l2⟩
  rcases open_slice Tryz.underlying38 h with ⟨hcs, hx⟩ | ⟨a0, len, cap, m, n', D, Pl, hcs, _⟩
  · exact key _ _ _ hcs
  · exact key _ _ _ hcs
theorem open_rows2 {a : Option Addr} {n c : Nat} {d : DataW H} {p : List MemPlace} (h : DataW.Trod enc Tryz.prog W 0 (fun _ => true) true 30 (.slice a n c) d p) (hs : Sized 30 d) :
    ∃ l : List (List Int), l.length = n ∧ Rws W (fun k => k < W.heap.size) a n c (rowF l) ∧ Long n ∧ ∀ s ∈ l, Long s.length ∧ ∀ i ∈ s, I64 i := by
  obtain ⟨f, h1, h2, h3⟩ := open_list (x0 := (([], (none, 0)) : List Int × (Option Addr × Nat))) Tryz.underlying30 (by kernel_rfl) (sz := 1) (b := 24) (by kernel_rfl) (fun x => #[.slice x.2.1 x.1.length x.2.2]) (fun _ => rfl) (fun x => (Long x.1.length ∧ ∀ i ∈ x.1, I64 i) ∧ Src W (fun k => k < W.heap.size) x.2.1 x.1.length x.2.2 (ints x.1)) (by decide) open_rowC h hs
  have e : ∀ k, k < n → rowF ((List.range n).map fun k => (f k).1) k = (f k).1 := fun k hk => range_getD (fun k => (f k).1) n k [] hk
  refine ⟨(List.range n).map fun k => (f k).1, by simp, ⟨h1.nil, h1.cap, h1.blk, fun ad hA k hk => ⟨(f k).2.1, (f k).2.2, ?_, ?_⟩⟩, by unfold Long; omega, ?_⟩
  · rw [e k hk]
    have := h1.at_ ad hA k hk 0 _ rfl
    rwa [Nat.mul_one, Nat.add_zero] at this
  · rw [e k hk]
    exact (h2 k hk).2
  · intro s hs'
    obtain ⟨k, hk, rfl⟩ := List.mem_map.1 hs'
    exact (h2 k (List.mem_range.1 hk)).1
theorem open_words {a : Option Addr} {n c : Nat} {d : DataW H} {p : List MemPlace} (h : DataW.Trod enc Tryz.prog W 0 (fun _ => true) true 31 (.slice a n c) d p) (hs : Sized 31 d) :
    ∃ ws : List UInt64, ws.length = n ∧ Src W (fun k => k < W.heap.size) a n c (Siv.wds ws) ∧ Long n := by
  obtain ⟨ws, h1, h2, h3⟩ := open_ws h hs
  exact ⟨ws, h1, h2, by unfold Long; omega⟩
set_option maxRecDepth 100000 in
theorem open_filC {fuel : Nat} {cs : List Value} {d : DataW H} {pl : List MemPlace} (h : DataW.trod enc Tryz.prog W 0 (fun _ => true) true fuel 33 cs = some (d, pl)) (hs : Sized 33 d) :
    ∃ x : (Option Addr × Nat) × (List UInt64 × Int), cs = (#[.slice x.1.1 x.2.1.length x.1.2, .int .i64 x.2.2] : Array Value).toList ∧ Src W (fun k => k < W.heap.size) x.1.1 x.2.1.length x.1.2 (Siv.wds x.2.1) ∧ Long x.2.1.length ∧ I64 x.2.2 := by
  have hC : Tryz.prog.cellsOf 33 = 2 := by kernel_rfl
  have ktWords : Tryz.prog.cellsOf 31 = 1 := by kernel_rfl
  have ktInt : Tryz.prog.cellsOf 3 = 1 := by kernel_rfl
  obtain ⟨xs, n, _, hx, hlen, hxl, hg⟩ := DataW.trod_struct Tryz.underlying33 h
  rw [hC] at hlen
  have hxl' : xs.length = 2 := hxl
  match cs, hlen, xs, hxl' with
  | [c0, c1], _, [(y0, z0), (y1, z1)], _ =>
    have g0 : DataW.trod enc Tryz.prog W 0 (fun _ => true) true n 31 (List.take (Tryz.prog.cellsOf 31) [c0, c1]) = some (y0, z0) := hg 0 _ rfl
    rw [ktWords] at g0
    change DataW.trod enc Tryz.prog W 0 (fun _ => true) true n 31 [c0] = some (y0, z0) at g0
    have g1 : DataW.trod enc Tryz.prog W 0 (fun _ => true) true n 3 (List.take (Tryz.prog.cellsOf 3) [c1]) = some (y1, z1) := hg 1 _ rfl
    rw [ktInt] at g1
    change DataW.trod enc Tryz.prog W 0 (fun _ => true) true n 3 [c1] = some (y1, z1) at g1
    have hd : d = .agg [y0, y1] := by injection hx
    subst hd
    obtain ⟨a0, m0, p0, rfl, t0⟩ := slice_of_trod Tryz.underlying31 g0
    obtain ⟨v0, rfl, q0, w0⟩ := open_words t0 (hs.part Tryz.underlying33 (j := 0) rfl rfl)
    obtain ⟨v1, e1, _, w1⟩ := DataW.trod_int Tryz.underlying3 g1
    obtain rfl : c1 = .int .i64 v1 := by simpa using e1
    have w1 := i64_of_wf w1
    exact ⟨((a0, p0), (v0, v1)), rfl, q0, w0, w1⟩
set_option maxRecDepth 100000 in
theorem open_tabC {fuel : Nat} {cs : List Value} {d : DataW H} {pl : List MemPlace} (h : DataW.trod enc Tryz.prog W 0 (fun _ => true) true fuel 35 cs = some (d, pl)) (hs : Sized 35 d) :
    ∃ x : (Option Addr × Nat) × (Option Addr × Nat) × (List (List Int) × List UInt64 × Int), cs = (#[.slice x.1.1 x.2.2.1.length x.1.2, .slice x.2.1.1 x.2.2.2.1.length x.2.1.2, .int .i64 x.2.2.2.2] : Array Value).toList ∧ TabV W (fun k => k < W.heap.size) x.1.1 x.2.2.1.length x.1.2 x.2.1.1 x.2.1.2 (rowF x.2.2.1) x.2.2.2.1 ∧ (Long x.2.2.1.length ∧ (∀ r ∈ x.2.2.1, Long r.length ∧ ∀ i ∈ r, I64 i) ∧ Long x.2.2.2.1.length ∧ I64 x.2.2.2.2) := by
  have hC : Tryz.prog.cellsOf 35 = 3 := by kernel_rfl
  have ktIntss : Tryz.prog.cellsOf 30 = 1 := by kernel_rfl
  have ktFilter : Tryz.prog.cellsOf 33 = 2 := by kernel_rfl
  obtain ⟨xs, n, _, hx, hlen, hxl, hg⟩ := DataW.trod_struct Tryz.underlying35 h
  rw [hC] at hlen
  have hxl' : xs.length = 2 := hxl
  match cs, hlen, xs, hxl' with
  | [c0, c1, c2], _, [(y0, z0), (y1, z1)], _ =>
    have g0 : DataW.trod enc Tryz.prog W 0 (fun _ => true) true n 30 (List.take (Tryz.prog.cellsOf 30) [c0, c1, c2]) = some (y0, z0) := hg 0 _ rfl
    rw [ktIntss] at g0
    change DataW.trod enc Tryz.prog W 0 (fun _ => true) true n 30 [c0] = some (y0, z0) at g0
    have g1 : DataW.trod enc Tryz.prog W 0 (fun _ => true) true n 33 (List.take (Tryz.prog.cellsOf 33) [c1, c2]) = some (y1, z1) := hg 1 _ rfl
    rw [ktFilter] at g1
    change DataW.trod enc Tryz.prog W 0 (fun _ => true) true n 33 [c1, c2] = some (y1, z1) at g1
    have hd : d = .agg [y0, y1] := by injection hx
    subst hd
    obtain ⟨a0, m0, p0, rfl, t0⟩ := slice_of_trod Tryz.underlying30 g0
    obtain ⟨v0, rfl, q0, w0⟩ := open_rows2 t0 (hs.part Tryz.underlying35 (j := 0) rfl rfl)
    obtain ⟨⟨⟨A1, C1⟩, L1, s1⟩, e1, q1, w1⟩ := open_filC g1 (hs.part Tryz.underlying35 (j := 1) rfl rfl)
    simp only [Array.toList, List.cons.injEq, and_true] at e1
    obtain ⟨rfl, rfl⟩ := e1
    exact ⟨((a0, p0), (A1, C1), (v0, L1, s1)), rfl, ⟨q0, q1⟩, w0.1, w0.2, w1.1, w1.2⟩
set_option maxRecDepth 100000 in
theorem open_imC {fuel : Nat} {cs : List Value} {d : DataW H} {pl : List MemPlace} (h : DataW.trod enc Tryz.prog W 0 (fun _ => true) true fuel 40 cs = some (d, pl)) (hs : Sized 40 d) :
    ∃ x : Pl × Im, cs = (imA x.1 x.2).toList ∧ ImIn W (fun k => k < W.heap.size) x.1 x.2 ∧ Fit x.2 := by
  have hC : Tryz.prog.cellsOf 40 = 15 := by kernel_rfl
  have ktString : Tryz.prog.cellsOf 9 = 1 := by kernel_rfl
  have ktFlags : Tryz.prog.cellsOf 25 = 1 := by kernel_rfl
  have ktSegs : Tryz.prog.cellsOf 26 = 1 := by kernel_rfl
  have ktNeeds : Tryz.prog.cellsOf 27 = 1 := by kernel_rfl
  have ktStrs : Tryz.prog.cellsOf 28 = 1 := by kernel_rfl
  have ktSyms : Tryz.prog.cellsOf 29 = 1 := by kernel_rfl
  have ktTable : Tryz.prog.cellsOf 35 = 3 := by kernel_rfl
  have ktRelocs : Tryz.prog.cellsOf 36 = 1 := by kernel_rfl
  have ktSlots : Tryz.prog.cellsOf 37 = 1 := by kernel_rfl
  have ktInts : Tryz.prog.cellsOf 38 = 1 := by kernel_rfl
  have ktBytes : Tryz.prog.cellsOf 22 = 1 := by kernel_rfl
  have ktInt : Tryz.prog.cellsOf 3 = 1 := by kernel_rfl
  obtain ⟨xs, n, _, hx, hlen, hxl, hg⟩ := DataW.trod_struct Tryz.underlying40 h
  rw [hC] at hlen
  have hxl' : xs.length = 13 := hxl
  match cs, hlen, xs, hxl' with
  | [c0, c1, c2, c3, c4, c5, c6, c7, c8, c9, c10, c11, c12, c13, c14], _, [(y0, z0), (y1, z1), (y2, z2), (y3, z3), (y4, z4), (y5, z5), (y6, z6), (y7, z7), (y8, z8), (y9, z9), (y10, z10), (y11, z11), (y12, z12)], _ =>
    have g0 : DataW.trod enc Tryz.prog W 0 (fun _ => true) true n 9 (List.take (Tryz.prog.cellsOf 9) [c0, c1, c2, c3, c4, c5, c6, c7, c8, c9, c10, c11, c12, c13, c14]) = some (y0, z0) := hg 0 _ rfl
    rw [ktString] at g0
    change DataW.trod enc Tryz.prog W 0 (fun _ => true) true n 9 [c0] = some (y0, z0) at g0
    have g1 : DataW.trod enc Tryz.prog W 0 (fun _ => true) true n 25 (List.take (Tryz.prog.cellsOf 25) [c1, c2, c3, c4, c5, c6, c7, c8, c9, c10, c11, c12, c13, c14]) = some (y1, z1) := hg 1 _ rfl
    rw [ktFlags] at g1
    change DataW.trod enc Tryz.prog W 0 (fun _ => true) true n 25 [c1] = some (y1, z1) at g1
    have g2 : DataW.trod enc Tryz.prog W 0 (fun _ => true) true n 26 (List.take (Tryz.prog.cellsOf 26) [c2, c3, c4, c5, c6, c7, c8, c9, c10, c11, c12, c13, c14]) = some (y2, z2) := hg 2 _ rfl
    rw [ktSegs] at g2
    change DataW.trod enc Tryz.prog W 0 (fun _ => true) true n 26 [c2] = some (y2, z2) at g2
    have g3 : DataW.trod enc Tryz.prog W 0 (fun _ => true) true n 27 (List.take (Tryz.prog.cellsOf 27) [c3, c4, c5, c6, c7, c8, c9, c10, c11, c12, c13, c14]) = some (y3, z3) := hg 3 _ rfl
    rw [ktNeeds] at g3
    change DataW.trod enc Tryz.prog W 0 (fun _ => true) true n 27 [c3] = some (y3, z3) at g3
    have g4 : DataW.trod enc Tryz.prog W 0 (fun _ => true) true n 28 (List.take (Tryz.prog.cellsOf 28) [c4, c5, c6, c7, c8, c9, c10, c11, c12, c13, c14]) = some (y4, z4) := hg 4 _ rfl
    rw [ktStrs] at g4
    change DataW.trod enc Tryz.prog W 0 (fun _ => true) true n 28 [c4] = some (y4, z4) at g4
    have g5 : DataW.trod enc Tryz.prog W 0 (fun _ => true) true n 29 (List.take (Tryz.prog.cellsOf 29) [c5, c6, c7, c8, c9, c10, c11, c12, c13, c14]) = some (y5, z5) := hg 5 _ rfl
    rw [ktSyms] at g5
    change DataW.trod enc Tryz.prog W 0 (fun _ => true) true n 29 [c5] = some (y5, z5) at g5
    have g6 : DataW.trod enc Tryz.prog W 0 (fun _ => true) true n 35 (List.take (Tryz.prog.cellsOf 35) [c6, c7, c8, c9, c10, c11, c12, c13, c14]) = some (y6, z6) := hg 6 _ rfl
    rw [ktTable] at g6
    change DataW.trod enc Tryz.prog W 0 (fun _ => true) true n 35 [c6, c7, c8] = some (y6, z6) at g6
    have g7 : DataW.trod enc Tryz.prog W 0 (fun _ => true) true n 36 (List.take (Tryz.prog.cellsOf 36) [c9, c10, c11, c12, c13, c14]) = some (y7, z7) := hg 7 _ rfl
    rw [ktRelocs] at g7
    change DataW.trod enc Tryz.prog W 0 (fun _ => true) true n 36 [c9] = some (y7, z7) at g7
    have g8 : DataW.trod enc Tryz.prog W 0 (fun _ => true) true n 37 (List.take (Tryz.prog.cellsOf 37) [c10, c11, c12, c13, c14]) = some (y8, z8) := hg 8 _ rfl
    rw [ktSlots] at g8
    change DataW.trod enc Tryz.prog W 0 (fun _ => true) true n 37 [c10] = some (y8, z8) at g8
    have g9 : DataW.trod enc Tryz.prog W 0 (fun _ => true) true n 38 (List.take (Tryz.prog.cellsOf 38) [c11, c12, c13, c14]) = some (y9, z9) := hg 9 _ rfl
    rw [ktInts] at g9
    change DataW.trod enc Tryz.prog W 0 (fun _ => true) true n 38 [c11] = some (y9, z9) at g9
    have g10 : DataW.trod enc Tryz.prog W 0 (fun _ => true) true n 38 (List.take (Tryz.prog.cellsOf 38) [c12, c13, c14]) = some (y10, z10) := hg 10 _ rfl
    rw [ktInts] at g10
    change DataW.trod enc Tryz.prog W 0 (fun _ => true) true n 38 [c12] = some (y10, z10) at g10
    have g11 : DataW.trod enc Tryz.prog W 0 (fun _ => true) true n 22 (List.take (Tryz.prog.cellsOf 22) [c13, c14]) = some (y11, z11) := hg 11 _ rfl
    rw [ktBytes] at g11
    change DataW.trod enc Tryz.prog W 0 (fun _ => true) true n 22 [c13] = some (y11, z11) at g11
    have g12 : DataW.trod enc Tryz.prog W 0 (fun _ => true) true n 3 (List.take (Tryz.prog.cellsOf 3) [c14]) = some (y12, z12) := hg 12 _ rfl
    rw [ktInt] at g12
    change DataW.trod enc Tryz.prog W 0 (fun _ => true) true n 3 [c14] = some (y12, z12) at g12
    have hd : d = .agg [y0, y1, y2, y3, y4, y5, y6, y7, y8, y9, y10, y11, y12] := by injection hx
    subst hd
    obtain ⟨v0, e0, w0⟩ := open_strC g0 (hs.part Tryz.underlying40 (j := 0) rfl rfl)
    obtain rfl : c0 = str v0 := by simpa using e0
    obtain ⟨v1, e1, _, w1⟩ := DataW.trod_int Tryz.underlying25 g1
    obtain rfl : c1 = .int .i64 v1 := by simpa using e1
    have w1 := i64_of_wf w1
    obtain ⟨a2, m2, p2, rfl, t2⟩ := slice_of_trod Tryz.underlying26 g2
    obtain ⟨v2, rfl, q2, w2⟩ := open_segs t2 (hs.part Tryz.underlying40 (j := 2) rfl rfl)
    obtain ⟨a3, m3, p3, rfl, t3⟩ := slice_of_trod Tryz.underlying27 g3
    obtain ⟨v3, rfl, q3, w3⟩ := open_needs t3 (hs.part Tryz.underlying40 (j := 3) rfl rfl)
    obtain ⟨a4, m4, p4, rfl, t4⟩ := slice_of_trod Tryz.underlying28 g4
    obtain ⟨v4, rfl, q4, w4⟩ := open_strs2 t4 (hs.part Tryz.underlying40 (j := 4) rfl rfl)
    obtain ⟨a5, m5, p5, rfl, t5⟩ := slice_of_trod Tryz.underlying29 g5
    obtain ⟨v5, rfl, q5, w5⟩ := open_syms2 t5 (hs.part Tryz.underlying40 (j := 5) rfl rfl)
    obtain ⟨a7, m7, p7, rfl, t7⟩ := slice_of_trod Tryz.underlying36 g7
    obtain ⟨v7, rfl, q7, w7⟩ := open_relocs t7 (hs.part Tryz.underlying40 (j := 7) rfl rfl)
    obtain ⟨a8, m8, p8, rfl, t8⟩ := slice_of_trod Tryz.underlying37 g8
    obtain ⟨v8, rfl, q8, w8⟩ := open_slots t8 (hs.part Tryz.underlying40 (j := 8) rfl rfl)
    obtain ⟨a9, m9, p9, rfl, t9⟩ := slice_of_trod Tryz.underlying38 g9
    obtain ⟨v9, rfl, q9, w9⟩ := open_ints2 t9 (hs.part Tryz.underlying40 (j := 9) rfl rfl)
    obtain ⟨a10, m10, p10, rfl, t10⟩ := slice_of_trod Tryz.underlying38 g10
    obtain ⟨v10, rfl, q10, w10⟩ := open_ints2 t10 (hs.part Tryz.underlying40 (j := 10) rfl rfl)
    obtain ⟨a11, m11, p11, rfl, t11⟩ := slice_of_trod Tryz.underlying22 g11
    obtain ⟨v11, rfl, q11, w11⟩ := open_bytes t11 (hs.part Tryz.underlying40 (j := 11) rfl rfl)
    obtain ⟨v12, e12, _, w12⟩ := DataW.trod_int Tryz.underlying3 g12
    obtain rfl : c14 = .int .i64 v12 := by simpa using e12
    have w12 := i64_of_wf w12
    obtain ⟨⟨A6, B6, R6, L6, s6⟩, e6, q6, w6⟩ := open_tabC g6 (hs.part Tryz.underlying40 (j := 6) rfl rfl)
    simp only [Array.toList, List.cons.injEq, and_true] at e6
    obtain ⟨rfl, rfl, rfl⟩ := e6
    exact ⟨(⟨(a2, p2), (a3, p3), (a4, p4), (a5, p5), A6, B6, (a7, p7), (a8, p8), (a9, p9), (a10, p10), (a11, p11)⟩, ⟨v0, v1, v2, v3, v4, v5, R6, L6, s6, v7, v8, v9, v10, v11, v12⟩), rfl, ⟨q2, q3, q4, q5, q6, q7, q8, q9, q10, q11⟩, ⟨w0, w1, w2.1, w2.2, w3.1, w3.2, w4.1, w4.2, w5.1, w5.2, w6.1, w6.2.1, w6.2.2.1, w6.2.2.2, w7.1, w7.2, w8.1, w8.2, w9.1, w9.2, w10.1, w10.2, w11, w12⟩⟩
theorem open_im {r : Reach} {b0 : Nat} {v : Value} {d : DataW H} {p : List MemPlace} (hv : Value.okWide Tryz.prog W r b0 40 v) (h : DataW.Trod enc Tryz.prog W 0 (fun _ => true) true 40 v d p) (hs : Sized 40 d) :
    ∃ (q : Pl) (x : Im), v = imV q x ∧ ImIn W (fun k => k < W.heap.size) q x ∧ Fit x := by
  unfold Value.okWide at hv
  rw [Tryz.underlying40] at hv
  obtain ⟨cs, rfl, _, _⟩ := hv
  obtain ⟨fuel, hf⟩ := h
  obtain ⟨⟨q, x⟩, h1, h2, h3⟩ := open_imC hf hs
  refine ⟨q, x, ?_, h2, h3⟩
  exact congrArg Value.agg (Array.toList_inj.1 h1)
end
end Go.Proofs.YtfljignkjmabpaaGreat
