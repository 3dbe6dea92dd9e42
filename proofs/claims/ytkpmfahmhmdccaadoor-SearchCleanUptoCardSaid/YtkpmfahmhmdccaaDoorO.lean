/-
  How a want comes in.
-/
import Derived.Test.YtkpmfahmhmdccaaDoorK
import Derived.Test.YtkpmfahmhmdccaaDoorTFr
namespace Go.Proofs.YtkpmfahmhmdccaaDoor
open Go.ChangeShapes Go.WideShapes Go.ChangeAt Go.RowKit Go.Deep

theorem Els.congr {w : World} {P : Nat → Prop} {A : Option Addr} {n c sz : Nat} {E E' : Nat → Array Value} (h : Els w P A n c sz E) (he : ∀ k, k < n → E k = E' k) : Els w P A n c sz E' :=
  ⟨h.nil, h.cap, h.blk, fun ad hA k hk j u hu => h.at_ ad hA k hk j u (by rw [he k hk]; exact hu)⟩
theorem range_getD {α : Type} (f : Nat → α) (n k : Nat) (d : α) (hk : k < n) : ((List.range n).map f).getD k d = f k := by
  rw [List.getD_eq_getElem?_getD]
  simp [hk]
section
variable {H : Type} {enc : TypeId × Value → H} {W : World}
/-- A list of elements that can be opened one by one. -/
theorem open_list {β : Type} (x0 : β) {t e : TypeId} {sz b : Nat} (ht : Tryd.prog.underlying t = some (.slice e)) (hC : Tryd.prog.cellsOf e = sz) (hb : Tryd.prog.bytesOf e = b) (E : β → Array Value) (hE : ∀ x, (E x).size = sz) (G : β → Prop) (hz : 0 < sz)
    (hel : ∀ {fuel : Nat} {cs : List Value} {d : DataW H} {pl : List MemPlace}, DataW.trod enc Tryd.prog W 0 (fun _ => true) true fuel e cs = some (d, pl) → Sized e d → ∃ x, cs = (E x).toList ∧ G x)
    {a : Option Addr} {n c : Nat} {d : DataW H} {p : List MemPlace} (h : DataW.Trod enc Tryd.prog W 0 (fun _ => true) true t (.slice a n c) d p) (hs : Sized t d) :
    ∃ f : Nat → β, Els W (fun k => k < W.heap.size) a n c sz (fun k => E (f k)) ∧ (∀ k, k < n → G (f k)) ∧ n * b ≤ 140737488351232 := by
  obtain ⟨fuel, hf⟩ := h
  rcases open_slice ht hf with ⟨hcs, hx⟩ | ⟨a0, len, cap, m, n', D, Pl, hcs, _, hl, hm, hmm, hx, hi⟩
  · simp [Value.cells] at hcs
    obtain ⟨rfl, rfl, rfl⟩ := hcs
    exact ⟨fun _ => x0, ⟨fun _ => ⟨rfl, rfl⟩, Nat.le_refl _, (by intro ad h; cases h), (by intro ad h; cases h)⟩, by intro k hk; omega, by omega⟩
  · simp [Value.cells] at hcs
    obtain ⟨rfl, rfl, rfl⟩ := hcs
    simp only [if_true] at hmm
    subst hmm
    have hd := (Prod.mk.inj hx).1
    have hsz : ∀ i, i < n → Sized e (D i) := by
      intro i hin
      have h' := hs
      rw [hd] at h'
      refine h'.elem ht ?_
      simp
      exact ⟨i, hin, rfl⟩
    have each : ∀ i, i < n → ∃ x : β, (∀ j u, (E x)[j]? = some u → W.cell? (a0.add (i * sz + j)) = some u) ∧ G x := by
      intro i hin
      obtain ⟨cs', hc, ht'⟩ := hi i (by omega)
      rw [hC] at hc
      obtain ⟨_, hcl, hat⟩ := World.cells?_some hc
      obtain ⟨x, hxe, hg⟩ := hel ht' (hsz i hin)
      refine ⟨x, fun j u hu => ?_, hg⟩
      have hj : j < sz := by have := (Array.getElem?_eq_some_iff.1 hu).1; rw [hE] at this; exact this
      rw [← addAdd, hat j hj, ← hu, ← Array.getElem?_toList, ← hxe]
    have hch : ∃ g : Nat → β, ∀ i, i < n → (∀ j u, (E (g i))[j]? = some u → W.cell? (a0.add (i * sz + j)) = some u) ∧ G (g i) := by
      refine ⟨fun i => if h : i < n then Classical.choose (each i h) else x0, fun i h => ?_⟩
      simp only [dif_pos h]
      exact Classical.choose_spec (each i h)
    obtain ⟨g, hg⟩ := hch
    refine ⟨g, ⟨(by intro h; cases h), hl, ?_, ?_⟩, fun k hk => (hg k hk).2, ?_⟩
    · intro ad h h0
      cases h
      have := World.block_lt_of_cell? W _ ((hg 0 h0).1 0 _ (Array.getElem?_eq_getElem (by rw [hE]; exact hz)))
      rw [addBlock] at this
      exact this
    · intro ad h k hk j u hu
      cases h
      exact (hg k hk).1 j u hu
    · exact sized_len hs ht hb (.inr ⟨_, _, hd, by simp⟩)
theorem open_strC {fuel : Nat} {cs : List Value} {d : DataW H} {pl : List MemPlace} (h : DataW.trod enc Tryd.prog W 0 (fun _ => true) true fuel 9 cs = some (d, pl)) (hs : Sized 9 d) : ∃ s : Str, cs = (#[str s] : Array Value).toList ∧ s.length ≤ 140737488351232 := by
  obtain ⟨k, e, f, _⟩ := DataW.trod_string Tryd.underlying9 h
  injection f with f _
  subst f
  exact ⟨k.data.toList, by rw [e, str_of], hs.str⟩
set_option maxRecDepth 100000 in
theorem open_knownC {fuel : Nat} {cs : List Value} {d : DataW H} {pl : List MemPlace} (h : DataW.trod enc Tryd.prog W 0 (fun _ => true) true fuel 50 cs = some (d, pl)) (hs : Sized 50 d) :
    ∃ x : Str × Str, cs = (knA x).toList ∧ (x.1.length ≤ 140737488351232 ∧ x.2.length ≤ 140737488351232) := by
  have hC : Tryd.prog.cellsOf 50 = 2 := by kernel_rfl
  have ktString : Tryd.prog.cellsOf 9 = 1 := by kernel_rfl
  obtain ⟨xs, n, _, hx, hlen, hxl, hg⟩ := DataW.trod_struct Tryd.underlying50 h
  rw [hC] at hlen
  have hxl' : xs.length = 2 := hxl
  match cs, hlen, xs, hxl' with
  | [c0, c1], _, [(y0, z0), (y1, z1)], _ =>
    have g0 : DataW.trod enc Tryd.prog W 0 (fun _ => true) true n 9 (List.take (Tryd.prog.cellsOf 9) [c0, c1]) = some (y0, z0) := hg 0 _ rfl
    rw [ktString] at g0
    change DataW.trod enc Tryd.prog W 0 (fun _ => true) true n 9 [c0] = some (y0, z0) at g0
    have g1 : DataW.trod enc Tryd.prog W 0 (fun _ => true) true n 9 (List.take (Tryd.prog.cellsOf 9) [c1]) = some (y1, z1) := hg 1 _ rfl
    rw [ktString] at g1
    change DataW.trod enc Tryd.prog W 0 (fun _ => true) true n 9 [c1] = some (y1, z1) at g1
    have hd : d = .agg [y0, y1] := by injection hx
    subst hd
    obtain ⟨v0, e0, w0⟩ := open_strC g0 (hs.part Tryd.underlying50 (j := 0) rfl rfl)
    obtain rfl : c0 = str v0 := by simpa using e0
    obtain ⟨v1, e1, w1⟩ := open_strC g1 (hs.part Tryd.underlying50 (j := 1) rfl rfl)
    obtain rfl : c1 = str v1 := by simpa using e1
    exact ⟨(v0, v1), rfl, w0, w1⟩
theorem open_knowns {a : Option Addr} {n c : Nat} {d : DataW H} {p : List MemPlace} (h : DataW.Trod enc Tryd.prog W 0 (fun _ => true) true 23 (.slice a n c) d p) (hs : Sized 23 d) :
    ∃ l : List (Str × Str), l.length = n ∧ Kns W (fun k => k < W.heap.size) a n c l ∧ n ≤ 4398046511000 ∧ ∀ s ∈ l, s.1.length ≤ 140737488351232 ∧ s.2.length ≤ 140737488351232 := by
  obtain ⟨f, h1, h2, h3⟩ := open_list (x0 := noKn) Tryd.underlying23 (by kernel_rfl) (sz := 2) (b := 32) (by kernel_rfl) (fun x => knA x) (fun _ => rfl) (fun x => x.1.length ≤ 140737488351232 ∧ x.2.length ≤ 140737488351232) (by decide) open_knownC h hs
  refine ⟨(List.range n).map f, by simp, ⟨by simp, h1.congr fun k hk => by rw [range_getD f n k noKn hk]⟩, by omega, ?_⟩
  · intro s hs'
    obtain ⟨k, hk, rfl⟩ := List.mem_map.1 hs'
    exact h2 k (List.mem_range.1 hk)
theorem sumL_len : ∀ l : List Str, l.length ≤ sumL l
  | [] => Nat.le_refl _
  | s :: r => by have := sumL_len r; simp only [sumL, List.length_cons]; omega
/-- What comes in, of small bulk. -/
theorem small_ss {a : Option Addr} {n c : Nat} {d : DataW H} {p : List MemPlace} {b : Nat} (h : DataW.Trod enc Tryd.prog W 0 (fun _ => true) true 22 (.slice a n c) d p) (hb : Rows.uptoBulk d ≤ b) :
    ∃ ss : List Str, ss.length = n ∧ Src W (fun k => k < W.heap.size) a n c (Go.Proofs.YtkpmfahmhmdccaaDoor.strs ss) ∧ ss.length ≤ b ∧ ∀ s ∈ ss, s.length ≤ b := by
  obtain ⟨ss, h1, h2⟩ := open_ss h
  have h3 := sumL_len ss
  exact ⟨ss, by have := h1.len; simpa using this, h1, by omega, fun s hs => by have := sumL_mem hs; omega⟩
set_option maxRecDepth 100000 in
theorem open_envC {fuel : Nat} {cs : List Value} {d : DataW H} {pl : List MemPlace} (h : DataW.trod enc Tryd.prog W 0 (fun _ => true) true fuel 25 cs = some (d, pl)) (hs : Sized 25 d) (hb : Rows.uptoBulk d ≤ 1048576) :
    ∃ (q : (Option Addr × Nat) × (Option Addr × Nat)) (x : List Str × List (Str × Str)), cs = [.slice q.1.1 x.1.length q.1.2, .slice q.2.1 x.2.length q.2.2] ∧ Src W (fun k => k < W.heap.size) q.1.1 x.1.length q.1.2 (Go.Proofs.YtkpmfahmhmdccaaDoor.strs x.1) ∧ Kns W (fun k => k < W.heap.size) q.2.1 x.2.length q.2.2 x.2 ∧ x.1.length ≤ 1048576 ∧ (∀ s ∈ x.1, s.length ≤ 1048576) ∧ x.2.length ≤ 4398046511000 ∧ ∀ s ∈ x.2, s.1.length ≤ 140737488351232 ∧ s.2.length ≤ 140737488351232 := by
  have hC : Tryd.prog.cellsOf 25 = 2 := by kernel_rfl
  have kt1 : Tryd.prog.cellsOf 22 = 1 := by kernel_rfl
  have kt2 : Tryd.prog.cellsOf 23 = 1 := by kernel_rfl
  obtain ⟨xs, n, _, hx, hlen, hxl, hg⟩ := DataW.trod_struct Tryd.underlying25 h
  rw [hC] at hlen
  have hxl' : xs.length = 2 := hxl
  match cs, hlen, xs, hxl' with
  | [c0, c1], _, [(y0, z0), (y1, z1)], _ =>
    have g0 : DataW.trod enc Tryd.prog W 0 (fun _ => true) true n 22 (List.take (Tryd.prog.cellsOf 22) [c0, c1]) = some (y0, z0) := hg 0 _ rfl
    rw [kt1] at g0
    change DataW.trod enc Tryd.prog W 0 (fun _ => true) true n 22 [c0] = some (y0, z0) at g0
    have g1 : DataW.trod enc Tryd.prog W 0 (fun _ => true) true n 23 (List.take (Tryd.prog.cellsOf 23) [c1]) = some (y1, z1) := hg 1 _ rfl
    rw [kt2] at g1
    change DataW.trod enc Tryd.prog W 0 (fun _ => true) true n 23 [c1] = some (y1, z1) at g1
    have hd : d = .agg [y0, y1] := by injection hx
    subst hd
    simp only [Rows.uptoBulk, Rows.uptoBulkAll] at hb
    obtain ⟨a0, m0, p0, rfl, t0⟩ := slice_of_trod Tryd.underlying22 g0
    obtain ⟨v0, rfl, q0, l0, w0⟩ := small_ss (b := 1048576) t0 (by omega)
    obtain ⟨a1, m1, p1, rfl, t1⟩ := slice_of_trod Tryd.underlying23 g1
    obtain ⟨v1, rfl, q1, l1, w1⟩ := open_knowns t1 (hs.part Tryd.underlying25 (j := 1) rfl rfl)
    exact ⟨((a0, p0), (a1, p1)), (v0, v1), rfl, q0, q1, l0, w0, l1, w1⟩
set_option maxRecDepth 100000 in
theorem open_wantC {fuel : Nat} {cs : List Value} {d : DataW H} {pl : List MemPlace} (h : DataW.trod enc Tryd.prog W 0 (fun _ => true) true fuel 27 cs = some (d, pl)) (hs : Sized 27 d) (hb : Rows.uptoBulk d ≤ 1048576) :
    ∃ (q : Wp) (x : Wt), cs = (wtA q x).toList ∧ WtIn W (fun k => k < W.heap.size) q x ∧ Fits x.o x.nm x.rp x.ps x.kn ∧ x.rp.length ≤ 1048576 ∧ x.ps.length ≤ 1048576 := by
  have hC : Tryd.prog.cellsOf 27 = 5 := by kernel_rfl
  have kt0 : Tryd.prog.cellsOf 9 = 1 := by kernel_rfl
  have kt1 : Tryd.prog.cellsOf 22 = 1 := by kernel_rfl
  have kt2 : Tryd.prog.cellsOf 25 = 2 := by kernel_rfl
  obtain ⟨xs, n, _, hx, hlen, hxl, hg⟩ := DataW.trod_struct Tryd.underlying27 h
  rw [hC] at hlen
  have hxl' : xs.length = 4 := hxl
  match cs, hlen, xs, hxl' with
  | [c0, c1, c2, c3, c4], _, [(y0, z0), (y1, z1), (y2, z2), (y3, z3)], _ =>
    have g0 : DataW.trod enc Tryd.prog W 0 (fun _ => true) true n 9 (List.take (Tryd.prog.cellsOf 9) [c0, c1, c2, c3, c4]) = some (y0, z0) := hg 0 _ rfl
    rw [kt0] at g0
    change DataW.trod enc Tryd.prog W 0 (fun _ => true) true n 9 [c0] = some (y0, z0) at g0
    have g1 : DataW.trod enc Tryd.prog W 0 (fun _ => true) true n 9 (List.take (Tryd.prog.cellsOf 9) [c1, c2, c3, c4]) = some (y1, z1) := hg 1 _ rfl
    rw [kt0] at g1
    change DataW.trod enc Tryd.prog W 0 (fun _ => true) true n 9 [c1] = some (y1, z1) at g1
    have g2 : DataW.trod enc Tryd.prog W 0 (fun _ => true) true n 22 (List.take (Tryd.prog.cellsOf 22) [c2, c3, c4]) = some (y2, z2) := hg 2 _ rfl
    rw [kt1] at g2
    change DataW.trod enc Tryd.prog W 0 (fun _ => true) true n 22 [c2] = some (y2, z2) at g2
    have g3 : DataW.trod enc Tryd.prog W 0 (fun _ => true) true n 25 (List.take (Tryd.prog.cellsOf 25) [c3, c4]) = some (y3, z3) := hg 3 _ rfl
    rw [kt2] at g3
    change DataW.trod enc Tryd.prog W 0 (fun _ => true) true n 25 [c3, c4] = some (y3, z3) at g3
    have hd : d = .agg [y0, y1, y2, y3] := by injection hx
    subst hd
    simp only [Rows.uptoBulk, Rows.uptoBulkAll] at hb
    obtain ⟨v0, e0, w0⟩ := open_strC g0 (hs.part Tryd.underlying27 (j := 0) rfl rfl)
    obtain rfl : c0 = str v0 := by simpa using e0
    obtain ⟨v1, e1, w1⟩ := open_strC g1 (hs.part Tryd.underlying27 (j := 1) rfl rfl)
    obtain rfl : c1 = str v1 := by simpa using e1
    obtain ⟨a2, m2, p2, rfl, t2⟩ := slice_of_trod Tryd.underlying22 g2
    obtain ⟨v2, rfl, q2, l2, w2⟩ := small_ss (b := 1048576) t2 (by omega)
    obtain ⟨⟨qa, qb⟩, ⟨v3, v4⟩, e3, q3, q4, l3, w3, l4, w4⟩ := open_envC g3 (hs.part Tryd.underlying27 (j := 3) rfl rfl) (by omega)
    simp only [List.cons.injEq, and_true] at e3
    obtain ⟨rfl, rfl⟩ := e3
    refine ⟨⟨(a2, p2), qa, qb⟩, ⟨v0, v1, v2, v3, v4⟩, rfl, ⟨q2, q3, q4⟩, ⟨w1, w0, fun s hs => ?_, fun s hs => ?_, w4, ?_, l4⟩, l2, l3⟩
    · exact Nat.le_trans (w2 s hs) (Nat.le_of_ble_eq_true rfl)
    · exact Nat.le_trans (w3 s hs) (Nat.le_of_ble_eq_true rfl)
    · refine Nat.le_trans (Nat.mul_le_mul_right 16 (show v2.length + v3.length + 10 ≤ 3000000 by simp only at l2 l3; omega)) (Nat.le_of_ble_eq_true rfl)
theorem open_want {r : Reach} {b0 : Nat} {v : Value} {d : DataW H} {p : List MemPlace} (hv : Value.okWide Tryd.prog W r b0 27 v) (h : DataW.Trod enc Tryd.prog W 0 (fun _ => true) true 27 v d p) (hs : Sized 27 d) (hb : Rows.uptoBulk d ≤ 1048576) :
    ∃ (q : Wp) (x : Wt), v = .agg (wtA q x) ∧ WtIn W (fun k => k < W.heap.size) q x ∧ Fits x.o x.nm x.rp x.ps x.kn ∧ x.rp.length ≤ 1048576 ∧ x.ps.length ≤ 1048576 := by
  unfold Value.okWide at hv
  rw [Tryd.underlying27] at hv
  obtain ⟨cs, rfl, _, _⟩ := hv
  obtain ⟨fuel, hf⟩ := h
  obtain ⟨q, x, h1, h2, h3⟩ := open_wantC hf hs hb
  exact ⟨q, x, congrArg Value.agg (Array.toList_inj.1 h1), h2, h3⟩
end
end Go.Proofs.YtkpmfahmhmdccaaDoor
