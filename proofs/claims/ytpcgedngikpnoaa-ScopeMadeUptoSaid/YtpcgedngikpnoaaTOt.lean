/-
  How tables come in.
-/
import Derived.Test.YtpcgedngikpnoaaYOs
import Derived.Test.YtpcgedngikpnoaaTI
namespace Go.Proofs.Ytpcgedngikpnoaa
set_option maxRecDepth 100000
set_option linter.unusedSimpArgs false
set_option linter.unusedVariables false
open Go.ChangeShapes Go.WideShapes Go.ChangeAt Go.RowKit Go.Deep

section
variable {H : Type} {enc : TypeId × Value → H} {W : World}
theorem open_ints1 {a : Option Addr} {n c : Nat} {d : DataW H} {p : List MemPlace} (h : DataW.Trod enc Try.prog W 0 (fun _ => true) true 30 (.slice a n c) d p) (hs : Sized 30 d) :
    ∃ l : List Int, l.length = n ∧ Src W (fun k => k < W.heap.size) a n c (il l) ∧ n * 8 ≤ 140737488351232 := by
  obtain ⟨zs, h1, _, h3, _⟩ := open_nums Try.underlying30 Try.underlying3 (by kernel_rfl) h
  exact ⟨zs, by simpa using h1.len, h1, sized_len hs Try.underlying30 (by kernel_rfl) h3⟩
theorem open_ws {a : Option Addr} {n c : Nat} {d : DataW H} {p : List MemPlace} (h : DataW.Trod enc Try.prog W 0 (fun _ => true) true 53 (.slice a n c) d p) (hs : Sized 53 d) :
    ∃ ws : List UInt64, ws.length = n ∧ Src W (fun k => k < W.heap.size) a n c (Siv.wds ws) ∧ n * 8 ≤ 140737488351232 := by
  obtain ⟨zs, h1, h2, h3, _⟩ := open_nums Try.underlying53 Try.underlying89 (by kernel_rfl) h
  have e : zs.map (Value.int .u64) = Siv.wds (zs.map fun z => UInt64.ofNat z.toNat) := by
    simp only [Siv.wds, List.map_map]
    apply List.map_congr_left
    intro z hz
    have := u64_of_wf (h2 z hz)
    simp only [Function.comp, Siv.u64v]
    rw [← this]
  refine ⟨zs.map fun z => UInt64.ofNat z.toNat, by simpa using h1.len, e ▸ h1, sized_len hs Try.underlying53 (by kernel_rfl) h3⟩
theorem open_rows {a : Option Addr} {n c : Nat} {d : DataW H} {p : List MemPlace} (h : DataW.Trod enc Try.prog W 0 (fun _ => true) true 52 (.slice a n c) d p) (hs : Sized 52 d) :
    ∃ f : Nat → List Int, Rws W (fun k => k < W.heap.size) a n c f ∧ n * 24 ≤ 140737488351232 ∧ ∀ k, k < n → (f k).length * 8 ≤ 140737488351232 := by
  have hC : Try.prog.cellsOf 30 = 1 := by kernel_rfl
  obtain ⟨fuel, hf⟩ := h
  rcases open_slice Try.underlying52 hf with ⟨hcs, hx⟩ | ⟨a0, len, cap, m, n', D, Pl, hcs, _, hl, hm, hmm, hx, hi⟩
  · simp [Value.cells] at hcs
    obtain ⟨rfl, rfl, rfl⟩ := hcs
    exact ⟨fun _ => [], ⟨fun _ => ⟨rfl, rfl⟩, Nat.le_refl _, (by intro ad h; cases h), (by intro ad h; cases h)⟩, by omega, by intro k hk; omega⟩
  · simp [Value.cells] at hcs
    obtain ⟨rfl, rfl, rfl⟩ := hcs
    simp only [if_true] at hmm
    subst hmm
    have hd := (Prod.mk.inj hx).1
    have hsz : ∀ i, i < n → Sized 30 (D i) := by
      intro i hin
      have h' := hs
      rw [hd] at h'
      refine h'.elem Try.underlying52 ?_
      simp
      exact ⟨i, hin, rfl⟩
    have each : ∀ i, i < n → ∃ l : List Int, (∃ Ai ci, W.cell? (a0.add i) = some (.slice Ai l.length ci) ∧ Src W (fun k => k < W.heap.size) Ai l.length ci (il l)) ∧ l.length * 8 ≤ 140737488351232 := by
      intro i hin
      obtain ⟨cs', hc, ht'⟩ := hi i (by omega)
      rw [hC] at hc
      obtain ⟨_, hcl, hat⟩ := World.cells?_some hc
      match cs', hcl with
      | [c0], _ =>
        obtain ⟨a, m, c, rfl, t0⟩ := slice_of_trod Try.underlying30 ht'
        obtain ⟨l, rfl, l2, l3⟩ := open_ints1 t0 (hsz i hin)
        have h0 := hat 0 (by omega)
        rw [addAdd] at h0
        simp only [Nat.mul_one, Nat.add_zero] at h0
        exact ⟨l, ⟨a, c, h0, l2⟩, l3⟩
    have hch : ∃ g : Nat → List Int, ∀ i, i < n → (∃ Ai ci, W.cell? (a0.add i) = some (.slice Ai (g i).length ci) ∧ Src W (fun k => k < W.heap.size) Ai (g i).length ci (il (g i))) ∧ (g i).length * 8 ≤ 140737488351232 := by
      refine ⟨fun i => if h : i < n then Classical.choose (each i h) else [], fun i h => ?_⟩
      simp only [dif_pos h]
      exact Classical.choose_spec (each i h)
    obtain ⟨g, hg⟩ := hch
    refine ⟨g, ⟨(by intro h; cases h), hl, ?_, ?_⟩, ?_, fun k hk => (hg k hk).2⟩
    · intro ad h h0
      cases h
      obtain ⟨⟨Ai, ci, hcl, _⟩, _⟩ := hg 0 h0
      have := World.block_lt_of_cell? W _ hcl
      rw [addBlock] at this
      exact this
    · intro ad h i hi'
      cases h
      exact (hg i hi').1
    · exact sized_len (e := 30) hs Try.underlying52 (by kernel_rfl) (.inr ⟨_, _, hd, by simp⟩)
set_option maxRecDepth 100000 in
theorem open_tab {r : Reach} {b0 : Nat} {v : Value} {d : DataW H} {p : List MemPlace} (hv : Value.okWide Try.prog W r b0 57 v) (h : DataW.Trod enc Try.prog W 0 (fun _ => true) true 57 v d p) (hs : Sized 57 d) :
    ∃ A n c Af cf, ∃ f : Nat → List Int, ∃ L : List UInt64, ∃ sh : Int, v = .agg (tabA A n c Af L.length cf sh) ∧ TabV W (fun k => k < W.heap.size) A n c Af cf f L ∧ n * 24 ≤ 140737488351232 ∧ L.length * 8 ≤ 140737488351232 ∧ ∀ k, k < n → (f k).length * 8 ≤ 140737488351232 := by
  have hC : Try.prog.cellsOf 57 = 3 := by kernel_rfl
  have cB : Try.prog.cellsOf 52 = 1 := by kernel_rfl
  have cF : Try.prog.cellsOf 55 = 2 := by kernel_rfl
  have cW : Try.prog.cellsOf 53 = 1 := by kernel_rfl
  have cI : Try.prog.cellsOf 3 = 1 := by kernel_rfl
  unfold Value.okWide at hv
  rw [Try.underlying57] at hv
  obtain ⟨cs0, rfl, _, _⟩ := hv
  obtain ⟨fuel, hf0⟩ := h
  obtain ⟨cs⟩ := cs0
  have hf : DataW.trod enc Try.prog W 0 (fun _ => true) true fuel 57 cs = some (d, p) := hf0
  obtain ⟨xs, n, _, hx, hlen, hxl, hg⟩ := DataW.trod_struct Try.underlying57 hf
  rw [hC] at hlen
  have hxl' : xs.length = 2 := hxl
  match cs, hlen, xs, hxl' with
  | [c0, c1, c2], _, [y0, y1], _ =>
    have g0 : DataW.trod enc Try.prog W 0 (fun _ => true) true n 52 (List.take (Try.prog.cellsOf 52) [c0, c1, c2]) = some y0 := hg 0 _ rfl
    rw [cB] at g0
    change DataW.trod enc Try.prog W 0 (fun _ => true) true n 52 [c0] = some y0 at g0
    have g1 : DataW.trod enc Try.prog W 0 (fun _ => true) true n 55 (List.take (Try.prog.cellsOf 55) [c1, c2]) = some y1 := hg 1 _ rfl
    rw [cF] at g1
    change DataW.trod enc Try.prog W 0 (fun _ => true) true n 55 [c1, c2] = some y1 at g1
    obtain ⟨d0, p0⟩ := y0
    obtain ⟨d1, p1⟩ := y1
    obtain ⟨a, m, c, rfl, t0⟩ := slice_of_trod Try.underlying52 g0
    have hd : d = .agg [d0, d1] := by injection hx
    subst hd
    obtain ⟨f, r1, r2, r3⟩ := open_rows t0 (hs.part Try.underlying57 (j := 0) rfl rfl)
    have hsF : Sized 55 d1 := hs.part Try.underlying57 (j := 1) rfl rfl
    obtain ⟨xs', n', _, hx', hlen', hxl2, hg'⟩ := DataW.trod_struct Try.underlying55 g1
    have hxl2' : xs'.length = 2 := hxl2
    match xs', hxl2' with
    | [z0, z1], _ =>
      have k0 : DataW.trod enc Try.prog W 0 (fun _ => true) true n' 53 (List.take (Try.prog.cellsOf 53) [c1, c2]) = some z0 := hg' 0 _ rfl
      rw [cW] at k0
      change DataW.trod enc Try.prog W 0 (fun _ => true) true n' 53 [c1] = some z0 at k0
      have k1 : DataW.trod enc Try.prog W 0 (fun _ => true) true n' 3 (List.take (Try.prog.cellsOf 3) [c2]) = some z1 := hg' 1 _ rfl
      rw [cI] at k1
      change DataW.trod enc Try.prog W 0 (fun _ => true) true n' 3 [c2] = some z1 at k1
      obtain ⟨e0, q0⟩ := z0
      obtain ⟨e1, q1⟩ := z1
      obtain ⟨aw, mw, cw, rfl, tw⟩ := slice_of_trod Try.underlying53 k0
      obtain ⟨s, es, _, _⟩ := DataW.trod_int Try.underlying3 k1
      obtain rfl : c2 = .int .i64 s := by simpa using es
      have hd' : d1 = .agg [e0, e1] := by injection hx'
      subst hd'
      obtain ⟨ws, rfl, l2, l3⟩ := open_ws tw (hsF.part Try.underlying55 (j := 0) rfl rfl)
      exact ⟨a, m, c, aw, cw, f, ws, s, rfl, ⟨r1, l2⟩, r2, l3, r3⟩
end
end Go.Proofs.Ytpcgedngikpnoaa
