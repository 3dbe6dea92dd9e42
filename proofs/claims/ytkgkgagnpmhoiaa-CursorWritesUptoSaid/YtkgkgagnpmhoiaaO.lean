/-
  How a list of pieces, a piece, and a list of bytes among a law's arguments are opened.
-/
import Derived.Test.YtkgkgagnpmhoiaaQ
import Derived.Deep.Slices
import Derived.Deep.Fields
import Derived.ChangeSame
namespace Go.Proofs.Ytkgkgagnpmhoiaa
open Go.ChangeShapes Go.WideShapes Go.ChangeAt Go.RowKit Go.Deep

section
variable {H : Type} {enc : TypeId × Value → H} {W : World}
theorem open_bytes_src {a : Option Addr} {n c : Nat} {d : DataW H} {p : List MemPlace} (h : DataW.Trod enc Try.prog W 0 (fun _ => true) true 27 (.slice a n c) d p) :
    ∃ l : List UInt8, Src W (fun k => k < W.heap.size) a n c (cells l) ∧ l.length + 1 ≤ Rows.uptoBulk d := by
  obtain ⟨fuel, hf⟩ := h
  rcases open_ints Try.underlying27 Try.underlying5 Try.cellsByte hf with ⟨hcs, hx⟩ | ⟨a0, len, cap, zs, hcs, _, hl, hm, hz, hx, hcell, hw⟩
  · simp [Value.cells] at hcs
    obtain ⟨rfl, rfl, rfl⟩ := hcs
    exact ⟨[], ⟨rfl, fun _ => ⟨rfl, rfl⟩, Nat.le_refl _, (by intro ad h; cases h), (by intro ad h; cases h)⟩, bulk_one d⟩
  · simp [Value.cells] at hcs
    obtain ⟨rfl, rfl, rfl⟩ := hcs
    simp only [if_true] at hz
    have hlz : (zs.take n).length = n := by rw [List.length_take]; omega
    have hx' : d = .slice (lits .u8 (zs.take n)) (lits .u8 (zs.drop n)) := by injection hx
    refine ⟨(zs.take n).map fun z => UInt8.ofNat z.toNat, ⟨by simp [cells]; omega, (by intro h; cases h), hl, ?_, ?_⟩, ?_⟩
    · intro ad h h0
      cases h
      have := World.block_lt_of_cell? W _ (hcell 0 (by omega))
      rw [addBlock] at this
      exact this
    · intro ad h j u hu
      cases h
      have hj : j < n := by have := (List.getElem?_eq_some_iff.1 hu).1; simp [cells] at this; omega
      have hjz : j < zs.length := by omega
      have hb := hw zs[j] (List.getElem_mem hjz)
      simp [Lit.wf, IntKind.min, IntKind.max, IntKind.signed, IntKind.bits] at hb
      rw [hcell j hjz, ← hu]
      simp [cells, u8, hj, List.getD, hjz]
      omega
    · rw [hx', List.length_map, hlz]
      have := bulk_len (lits (H := H) .u8 (zs.take n))
      have e : (lits (H := H) .u8 (zs.take n)).length = n := by simp [lits]; omega
      simp only [Rows.uptoBulk]
      omega

theorem slice_of_trod {t e : TypeId} {fuel : Nat} {v : Value} {d : DataW H} {p : List MemPlace} (ht : Try.prog.underlying t = some (.slice e)) (h : DataW.trod enc Try.prog W 0 (fun _ => true) true fuel t [v] = some (d, p)) :
    ∃ a n c, v = .slice a n c ∧ DataW.Trod enc Try.prog W 0 (fun _ => true) true t (.slice a n c) d p := by
  rcases open_slice ht h with ⟨hcs, _⟩ | ⟨a, len, cap, m, n, D, Pl, hcs, _⟩
  · have hv : v = .slice none 0 0 := by simpa using hcs
    subst hv
    exact ⟨_, _, _, rfl, fuel, h⟩
  · have hv : v = .slice (some a) len cap := by simpa using hcs
    subst hv
    exact ⟨_, _, _, rfl, fuel, h⟩

theorem open_piece {fuel : Nat} {cs : List Value} {d : DataW H} {pl : List MemPlace} (h : DataW.trod enc Try.prog W 0 (fun _ => true) true fuel 34 cs = some (d, pl)) :
    ∃ p An cn As cs' Ab cb, cs = (pcells p An cn As cs' Ab cb).toList ∧ PcV W (fun k => k < W.heap.size) p An cn As cs' Ab cb ∧ cost p ≤ 8 * Rows.uptoBulk d := by
  have hC : Try.prog.cellsOf 34 = 6 := by kernel_rfl
  obtain ⟨xs, n, _, hx, hlen, hxl, hg⟩ := DataW.trod_struct Try.underlying34 h
  have cI : Try.prog.cellsOf 3 = 1 := Try.cellsInt
  have cN : Try.prog.cellsOf 31 = 1 := by kernel_rfl
  have cS : Try.prog.cellsOf 32 = 1 := by kernel_rfl
  have cB : Try.prog.cellsOf 27 = 1 := by kernel_rfl
  rw [hC] at hlen
  have hxl' : xs.length = 6 := hxl
  match cs, hlen, xs, hxl' with
  | [c0, c1, c2, c3, c4, c5], _, [y0, y1, y2, y3, y4, y5], _ =>
    have g0 : DataW.trod enc Try.prog W 0 (fun _ => true) true n 3 (List.take (Try.prog.cellsOf 3) [c0, c1, c2, c3, c4, c5]) = some y0 := hg 0 _ rfl
    rw [cI] at g0
    change DataW.trod enc Try.prog W 0 (fun _ => true) true n 3 [c0] = some y0 at g0
    have g1 : DataW.trod enc Try.prog W 0 (fun _ => true) true n 3 (List.take (Try.prog.cellsOf 3) [c1, c2, c3, c4, c5]) = some y1 := hg 1 _ rfl
    rw [cI] at g1
    change DataW.trod enc Try.prog W 0 (fun _ => true) true n 3 [c1] = some y1 at g1
    have g2 : DataW.trod enc Try.prog W 0 (fun _ => true) true n 3 (List.take (Try.prog.cellsOf 3) [c2, c3, c4, c5]) = some y2 := hg 2 _ rfl
    rw [cI] at g2
    change DataW.trod enc Try.prog W 0 (fun _ => true) true n 3 [c2] = some y2 at g2
    have g3 : DataW.trod enc Try.prog W 0 (fun _ => true) true n 31 (List.take (Try.prog.cellsOf 31) [c3, c4, c5]) = some y3 := hg 3 _ rfl
    rw [cN] at g3
    change DataW.trod enc Try.prog W 0 (fun _ => true) true n 31 [c3] = some y3 at g3
    have g4 : DataW.trod enc Try.prog W 0 (fun _ => true) true n 32 (List.take (Try.prog.cellsOf 32) [c4, c5]) = some y4 := hg 4 _ rfl
    rw [cS] at g4
    change DataW.trod enc Try.prog W 0 (fun _ => true) true n 32 [c4] = some y4 at g4
    have g5 : DataW.trod enc Try.prog W 0 (fun _ => true) true n 27 (List.take (Try.prog.cellsOf 27) [c5]) = some y5 := hg 5 _ rfl
    rw [cB] at g5
    change DataW.trod enc Try.prog W 0 (fun _ => true) true n 27 [c5] = some y5 at g5
    obtain ⟨k, e0, _, _⟩ := DataW.trod_int Try.underlying3 g0
    obtain ⟨size, e1, _, _⟩ := DataW.trod_int Try.underlying3 g1
    obtain ⟨m, e2, _, _⟩ := DataW.trod_int Try.underlying3 g2
    obtain rfl : c0 = .int .i64 k := by simpa using e0
    obtain rfl : c1 = .int .i64 size := by simpa using e1
    obtain rfl : c2 = .int .i64 m := by simpa using e2
    obtain ⟨d3, p3⟩ := y3
    obtain ⟨d4, p4⟩ := y4
    obtain ⟨d5, p5⟩ := y5
    obtain ⟨An, nn, cn, rfl, t3⟩ := slice_of_trod Try.underlying31 g3
    obtain ⟨As, ns, cs, rfl, t4⟩ := slice_of_trod Try.underlying32 g4
    obtain ⟨Ab, nb, cb, rfl, t5⟩ := slice_of_trod Try.underlying27 g5
    obtain ⟨zs, h3, hi, b3⟩ := open_ints_src t3
    obtain ⟨ss, h4, b4⟩ := open_strs_src t4
    obtain ⟨l, h5, b5⟩ := open_bytes_src t5
    have l3 : zs.length = nn := by have := h3.len; simpa [ints] using this
    have l4 : ss.length = ns := by have := h4.len; simpa [strs] using this
    have l5 : l.length = nb := by have := h5.len; simpa [cells] using this
    subst l3 l4 l5
    refine ⟨⟨k, size, m, zs, ss, l⟩, An, cn, As, cs, Ab, cb, rfl, ⟨h3, h4, h5, hi⟩, ?_⟩
    have hd : d = .agg [y0.1, y1.1, y2.1, d3, d4, d5] := by injection hx
    rw [hd]
    simp only [cost, Rows.uptoBulk, Rows.uptoBulkAll]
    omega

theorem open_pieces {a : Option Addr} {n c : Nat} {d : DataW H} {p : List MemPlace} (h : DataW.Trod enc Try.prog W 0 (fun _ => true) true 22 (.slice a n c) d p) :
    ∃ ps : List Pc, Pcs W (fun k => k < W.heap.size) a n c ps ∧ costs ps ≤ 8 * Rows.uptoBulk d := by
  have hC : Try.prog.cellsOf 34 = 6 := by kernel_rfl
  obtain ⟨fuel, hf⟩ := h
  rcases open_slice Try.underlying22 hf with ⟨hcs, hx⟩ | ⟨a0, len, cap, m, n', D, Pl, hcs, _, hl, hm, hmm, hx, hi⟩
  · simp [Value.cells] at hcs
    obtain ⟨rfl, rfl, rfl⟩ := hcs
    exact ⟨[], ⟨rfl, fun _ => ⟨rfl, rfl⟩, Nat.le_refl _, (by intro ad h; cases h), (by intro ad h; cases h)⟩, by simp [costs]⟩
  · simp [Value.cells] at hcs
    obtain ⟨rfl, rfl, rfl⟩ := hcs
    simp only [if_true] at hmm
    subst hmm
    have each : ∀ i, i < n → ∃ p : Pc, (∃ An cn As cs' Ab cb, PcV W (fun k => k < W.heap.size) p An cn As cs' Ab cb ∧ ∀ j u, (pcells p An cn As cs' Ab cb)[j]? = some u → W.cell? (a0.add (i * 6 + j)) = some u) ∧ cost p ≤ 8 * Rows.uptoBulk (D i) := by
      intro i hin
      obtain ⟨cs', hc, ht'⟩ := hi i (by omega)
      rw [hC] at hc
      obtain ⟨_, hcl, hat⟩ := World.cells?_some hc
      obtain ⟨p, An, cn, As, cs2, Ab, cb, rfl, hv, hco⟩ := open_piece ht'
      refine ⟨p, ⟨An, cn, As, cs2, Ab, cb, hv, fun j u hu => ?_⟩, hco⟩
      have hj : j < 6 := by have := (Array.getElem?_eq_some_iff.1 hu).1; simpa [pcells] using this
      rw [← addAdd, hat j hj, ← hu]
      simp
    have hch : ∃ f : Nat → Pc, ∀ i, i < n → (∃ An cn As cs' Ab cb, PcV W (fun k => k < W.heap.size) (f i) An cn As cs' Ab cb ∧ ∀ j u, (pcells (f i) An cn As cs' Ab cb)[j]? = some u → W.cell? (a0.add (i * 6 + j)) = some u) ∧ cost (f i) ≤ 8 * Rows.uptoBulk (D i) := by
      refine ⟨fun i => if h : i < n then Classical.choose (each i h) else ⟨0, 0, 0, [], [], []⟩, fun i h => ?_⟩
      simp only [dif_pos h]
      exact Classical.choose_spec (each i h)
    obtain ⟨f, hf'⟩ := hch
    refine ⟨(List.range n).map f, ⟨by simp, (by intro h; cases h), hl, ?_, ?_⟩, ?_⟩
    · intro ad h h0
      cases h
      obtain ⟨⟨An, cn, As, cs', Ab, cb, _, hcl⟩, _⟩ := hf' 0 h0
      have := World.block_lt_of_cell? W _ (hcl 0 _ rfl)
      rw [addBlock] at this
      exact this
    · intro ad h i hi'
      cases h
      have hin : i < n := by simpa using hi'
      have he : ((List.range n).map f)[i] = f i := by simp
      rw [he]
      exact (hf' i hin).1
    · have hd := (Prod.mk.inj hx).1
      rw [hd]
      have key : ∀ k, k ≤ n → costs ((List.range k).map f) ≤ 8 * Rows.uptoBulkAll ((List.range k).map D) := by
        intro k
        induction k with
        | zero => intro _; simp [costs]
        | succ k ih =>
          intro hk
          have h1 := ih (by omega)
          have h2 := (hf' k (by omega)).2
          have e1 : costs ((List.range (k + 1)).map f) = costs ((List.range k).map f) + cost (f k) := by simp [costs, List.range_succ]
          have e2 : ∀ (l r : List (DataW H)), Rows.uptoBulkAll (l ++ r) = Rows.uptoBulkAll l + Rows.uptoBulkAll r := by
            intro l r
            induction l with
            | nil => simp [Rows.uptoBulkAll]
            | cons x l ih => simp only [List.cons_append, Rows.uptoBulkAll, ih]; omega
          rw [e1, List.range_succ, List.map_append, e2]
          simp only [List.map_cons, List.map_nil, Rows.uptoBulkAll]
          omega
      have := key n (Nat.le_refl _)
      simp only [Rows.uptoBulk]
      omega
end
end Go.Proofs.Ytkgkgagnpmhoiaa
