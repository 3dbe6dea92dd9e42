/-
  How this stage's arguments are opened: hashes, filters, lists of filters.
-/
import Derived.Test.YtmpciigebjiehaaK
import Derived.Test.YtmpciigebjiehaaOp
namespace Go.Proofs.Ytmpciigebjiehaa
open Go.ChangeShapes Go.WideShapes Go.ChangeAt Go.RowKit Go.Deep

theorem Try.fields : ∃ f0 f1 : Field, Try.prog.underlying 30 = some (.struct #[f0, f1]) ∧ f0.type = 28 ∧ f1.type = 3 := by
  refine ⟨_, _, Try.underlying30, rfl, rfl⟩
section
variable {H : Type} {enc : TypeId × Value → H} {W : World}
theorem open_hs {a : Option Addr} {n c : Nat} {d : DataW H} {p : List MemPlace} (h : DataW.Trod enc Try.prog W 0 (fun _ => true) true 27 (.slice a n c) d p) (hs : Sized 27 d) :
    ∃ hs : List UInt32, hs.length = n ∧ Src W (fun k => k < W.heap.size) a n c (hsh hs) ∧ n * 4 ≤ 140737488351232 := by
  obtain ⟨zs, h1, h2, h3, _⟩ := open_nums Try.underlying27 Try.underlying22 (by kernel_rfl) h
  have e : zs.map (Value.int .u32) = hsh (zs.map fun z => UInt32.ofNat z.toNat) := by
    simp only [hsh, List.map_map]
    apply List.map_congr_left
    intro z hz
    have := u32_of_wf (h2 z hz)
    simp only [Function.comp, u32v]
    rw [← this]
  refine ⟨zs.map fun z => UInt32.ofNat z.toNat, by simpa using h1.len, e ▸ h1, sized_len hs Try.underlying27 (by kernel_rfl) h3⟩
theorem open_ws {a : Option Addr} {n c : Nat} {d : DataW H} {p : List MemPlace} (h : DataW.Trod enc Try.prog W 0 (fun _ => true) true 28 (.slice a n c) d p) (hs : Sized 28 d) :
    ∃ ws : List UInt64, ws.length = n ∧ Src W (fun k => k < W.heap.size) a n c (wds ws) ∧ n * 8 ≤ 140737488351232 := by
  obtain ⟨zs, h1, h2, h3, _⟩ := open_nums Try.underlying28 Try.underlying53 (by kernel_rfl) h
  have e : zs.map (Value.int .u64) = wds (zs.map fun z => UInt64.ofNat z.toNat) := by
    simp only [wds, List.map_map]
    apply List.map_congr_left
    intro z hz
    have := u64_of_wf (h2 z hz)
    simp only [Function.comp, u64v]
    rw [← this]
  refine ⟨zs.map fun z => UInt64.ofNat z.toNat, by simpa using h1.len, e ▸ h1, sized_len hs Try.underlying28 (by kernel_rfl) h3⟩
/-- A filter, by value. -/
theorem open_flt {r : Reach} {b0 : Nat} {v : Value} {d : DataW H} {p : List MemPlace} (hv : Value.okWide Try.prog W r b0 30 v) (h : DataW.Trod enc Try.prog W 0 (fun _ => true) true 30 v d p) (hs : Sized 30 d) :
    ∃ a n c s, ∃ ws : List UInt64, v = flt a n c s ∧ ws.length = n ∧ Src W (fun k => k < W.heap.size) a n c (wds ws) ∧ n * 8 ≤ 140737488351232 ∧ I64 s := by
  obtain ⟨v0, v1, y0, y1, m, rfl, rfl, rfl, h0, h1⟩ := Joins.open_agg2 Try.underlying30 (by kernel_rfl) (by kernel_rfl) hv h
  obtain ⟨a, n, c, rfl, t0⟩ := slice_of_trod Try.underlying28 h0
  obtain ⟨s, e1, _, w1⟩ := DataW.trod_int Try.underlying3 h1
  obtain rfl : v1 = .int .i64 s := by simpa using e1
  obtain ⟨ws, l1, l2, l3⟩ := open_ws t0 (hs.part Try.underlying30 (j := 0) rfl rfl)
  exact ⟨a, n, c, s, ws, rfl, l1, l2, l3, i64_of_wf w1⟩
theorem open_cells {fuel : Nat} {cs : List Value} {d : DataW H} {pl : List MemPlace} (h : DataW.trod enc Try.prog W 0 (fun _ => true) true fuel 30 cs = some (d, pl)) (hs : Sized 30 d) :
    ∃ f : Fi, ∃ a c, cs = [.slice a f.ws.length c, .int .i64 f.s] ∧ Src W (fun k => k < W.heap.size) a f.ws.length c (wds f.ws) ∧ f.ws.length * 8 ≤ 140737488351232 ∧ I64 f.s := by
  have hC : Try.prog.cellsOf 30 = 2 := by kernel_rfl
  have cW : Try.prog.cellsOf 28 = 1 := by kernel_rfl
  have cI : Try.prog.cellsOf 3 = 1 := by kernel_rfl
  obtain ⟨xs, n, _, hx, hlen, hxl, hg⟩ := DataW.trod_struct Try.underlying30 h
  rw [hC] at hlen
  have hxl' : xs.length = 2 := hxl
  match cs, hlen, xs, hxl' with
  | [c0, c1], _, [y0, y1], _ =>
    have g0 : DataW.trod enc Try.prog W 0 (fun _ => true) true n 28 (List.take (Try.prog.cellsOf 28) [c0, c1]) = some y0 := hg 0 _ rfl
    rw [cW] at g0
    change DataW.trod enc Try.prog W 0 (fun _ => true) true n 28 [c0] = some y0 at g0
    have g1 : DataW.trod enc Try.prog W 0 (fun _ => true) true n 3 (List.take (Try.prog.cellsOf 3) [c1]) = some y1 := hg 1 _ rfl
    rw [cI] at g1
    change DataW.trod enc Try.prog W 0 (fun _ => true) true n 3 [c1] = some y1 at g1
    obtain ⟨d0, p0⟩ := y0
    obtain ⟨d1, p1⟩ := y1
    obtain ⟨a, m, c, rfl, t0⟩ := slice_of_trod Try.underlying28 g0
    obtain ⟨s, e1, _, w1⟩ := DataW.trod_int Try.underlying3 g1
    obtain rfl : c1 = .int .i64 s := by simpa using e1
    have hd : d = .agg [d0, d1] := by injection hx
    subst hd
    obtain ⟨ws, rfl, l2, l3⟩ := open_ws t0 (hs.part Try.underlying30 (j := 0) rfl rfl)
    exact ⟨⟨ws, s⟩, a, c, rfl, l2, l3, i64_of_wf w1⟩
theorem open_fls {a : Option Addr} {n c : Nat} {d : DataW H} {p : List MemPlace} (h : DataW.Trod enc Try.prog W 0 (fun _ => true) true 44 (.slice a n c) d p) (hs : Sized 44 d) :
    ∃ fs : List Fi, fs.length = n ∧ Fls W (fun k => k < W.heap.size) a n c fs ∧ n * 32 ≤ 140737488351232 ∧ ∀ f ∈ fs, f.ws.length * 8 ≤ 140737488351232 ∧ I64 f.s := by
  have hC : Try.prog.cellsOf 30 = 2 := by kernel_rfl
  obtain ⟨fuel, hf⟩ := h
  rcases open_slice Try.underlying44 hf with ⟨hcs, hx⟩ | ⟨a0, len, cap, m, n', D, Pl, hcs, _, hl, hm, hmm, hx, hi⟩
  · simp [Value.cells] at hcs
    obtain ⟨rfl, rfl, rfl⟩ := hcs
    exact ⟨[], rfl, ⟨rfl, fun _ => ⟨rfl, rfl⟩, Nat.le_refl _, (by intro ad h; cases h), (by intro ad h; cases h)⟩, by omega, by intro f hf; cases hf⟩
  · simp [Value.cells] at hcs
    obtain ⟨rfl, rfl, rfl⟩ := hcs
    simp only [if_true] at hmm
    subst hmm
    have hd := (Prod.mk.inj hx).1
    have hsz : ∀ i, i < n → Sized 30 (D i) := by
      intro i hin
      have h' := hs
      rw [hd] at h'
      refine h'.elem Try.underlying44 ?_
      simp
      exact ⟨i, hin, rfl⟩
    have each : ∀ i, i < n → ∃ f : Fi, (∃ Ai ci, Src W (fun k => k < W.heap.size) Ai f.ws.length ci (wds f.ws) ∧ W.cell? (a0.add (i * 2)) = some (.slice Ai f.ws.length ci) ∧ W.cell? (a0.add (i * 2 + 1)) = some (.int .i64 f.s)) ∧ f.ws.length * 8 ≤ 140737488351232 ∧ I64 f.s := by
      intro i hin
      obtain ⟨cs', hc, ht'⟩ := hi i (by omega)
      rw [hC] at hc
      obtain ⟨_, hcl, hat⟩ := World.cells?_some hc
      obtain ⟨f, Ai, ci, rfl, hsrc, h8, hi64⟩ := open_cells ht' (hsz i hin)
      have h0 := hat 0 (by omega)
      have h1 := hat 1 (by omega)
      rw [addAdd] at h0 h1
      exact ⟨f, ⟨Ai, ci, hsrc, h0, h1⟩, h8, hi64⟩
    have hch : ∃ g : Nat → Fi, ∀ i, i < n → (∃ Ai ci, Src W (fun k => k < W.heap.size) Ai (g i).ws.length ci (wds (g i).ws) ∧ W.cell? (a0.add (i * 2)) = some (.slice Ai (g i).ws.length ci) ∧ W.cell? (a0.add (i * 2 + 1)) = some (.int .i64 (g i).s)) ∧ (g i).ws.length * 8 ≤ 140737488351232 ∧ I64 (g i).s := by
      refine ⟨fun i => if h : i < n then Classical.choose (each i h) else ⟨[], 0⟩, fun i h => ?_⟩
      simp only [dif_pos h]
      exact Classical.choose_spec (each i h)
    obtain ⟨g, hg⟩ := hch
    refine ⟨(List.range n).map g, by simp, ⟨by simp, (by intro h; cases h), hl, ?_, ?_⟩, ?_, ?_⟩
    · intro ad h h0
      cases h
      obtain ⟨⟨Ai, ci, _, hcl, _⟩, _⟩ := hg 0 h0
      have := World.block_lt_of_cell? W _ hcl
      rw [addBlock] at this
      exact this
    · intro ad h i hi'
      cases h
      have hin : i < n := by simpa using hi'
      have he : ((List.range n).map g)[i] = g i := by simp
      rw [he]
      exact (hg i hin).1
    · refine sized_len (e := 30) hs Try.underlying44 (by kernel_rfl) (.inr ⟨_, _, hd, by simp⟩)
    · intro f hf
      simp only [List.mem_map, List.mem_range] at hf
      obtain ⟨i, hin, rfl⟩ := hf
      exact (hg i hin).2
end
end Go.Proofs.Ytmpciigebjiehaa
