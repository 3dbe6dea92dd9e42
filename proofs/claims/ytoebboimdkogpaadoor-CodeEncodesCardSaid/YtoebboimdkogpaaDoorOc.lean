/-
  How instructions, bytes and texts come in, and what the bulk of a reading is at least; the witness of a row that lists variables.
-/
import Derived.Test.YtoebboimdkogpaaDoorFr
import Derived.Test.YtoebboimdkogpaaDoorL
import Derived.Deep.DeepHandedRow
namespace Go.Proofs.YtoebboimdkogpaaDoor
open Go.ChangeShapes Go.WideShapes Go.ChangeAt Go.RowKit Go.Deep

section
variable {H : Type}
theorem bulk_one (d : DataW H) : 1 ≤ Rows.uptoBulk d := by
  cases d with
  | lit l => cases l <;> simp [Rows.uptoBulk]
  | nil => simp [Rows.uptoBulk]
  | ptr d => simp [Rows.uptoBulk]
  | slice elems spare => simp [Rows.uptoBulk]
  | agg parts => simp [Rows.uptoBulk]
  | iface t d => simp [Rows.uptoBulk]
  | map entries => simp [Rows.uptoBulk]
  | held h => simp [Rows.uptoBulk]
theorem bulk_len (l : List (DataW H)) : l.length ≤ Rows.uptoBulkAll l := by
  induction l with
  | nil => simp [Rows.uptoBulkAll]
  | cons x r ih => have := bulk_one x; simp only [Rows.uptoBulkAll, List.length_cons]; omega
theorem bulk_bound {l : List (DataW H)} (hk : Rows.uptoSmall H l = true) : Rows.uptoBulkAll l ≤ 1048576 := of_decide_eq_true hk
/-- How much room texts take. -/
def sumL : List Str → Nat
  | [] => 0
  | s :: r => s.length + 1 + sumL r
theorem bulk_strs (ss : List ByteArray) : sumL (ss.map fun s => s.data.toList) ≤ Rows.uptoBulkAll (H := H) (Go.ChangeShapes.strs ss) := by
  induction ss with
  | nil => simp [sumL]
  | cons s ss ih =>
    have e : (Go.ChangeShapes.strs (s :: ss) : List (DataW H)) = .lit (.string s.data.toList) :: Go.ChangeShapes.strs ss := rfl
    rw [e]
    simp only [Rows.uptoBulkAll, Rows.uptoBulk, List.map_cons, sumL]
    omega
end

section
variable {H : Type} {enc : TypeId × Value → H} {W : World}
theorem open_bs {a : Option Addr} {n c : Nat} {d : DataW H} {p : List MemPlace} (h : DataW.Trod enc Tryd.prog W 0 (fun _ => true) true 24 (.slice a n c) d p) :
    ∃ b : Str, b.length = n ∧ Src W (fun k => k < W.heap.size) a n c (cells b) ∧ n + 1 ≤ Rows.uptoBulk d := by
  obtain ⟨zs, h1, h2, h3, _⟩ := open_nums Tryd.underlying24 Tryd.underlying5 (by kernel_rfl) h
  have e : zs.map (Value.int .u8) = cells (zs.map fun z => UInt8.ofNat z.toNat) := by
    simp only [cells, List.map_map]
    apply List.map_congr_left
    intro z hz
    have := u8_of_wf (h2 z hz)
    simp only [Function.comp]
    rw [← this]
  refine ⟨zs.map fun z => UInt8.ofNat z.toNat, by simpa using h1.len, e ▸ h1, ?_⟩
  rcases h3 with rfl | ⟨es, sp, rfl, rfl⟩
  · exact bulk_one d
  · have := bulk_len es
    simp only [Rows.uptoBulk]
    omega
theorem open_ss {a : Option Addr} {n c : Nat} {d : DataW H} {p : List MemPlace} (h : DataW.Trod enc Tryd.prog W 0 (fun _ => true) true 51 (.slice a n c) d p) :
    ∃ ss : List Str, Src W (fun k => k < W.heap.size) a n c (strs ss) ∧ sumL ss + 1 ≤ Rows.uptoBulk d := by
  obtain ⟨fuel, hf⟩ := h
  rcases open_strings Tryd.underlying51 Tryd.underlying9 (by kernel_rfl) hf with ⟨hcs, hx⟩ | ⟨a0, len, cap, zs, hcs, _, hl, hm, hz, hx, hcell, hw⟩
  · simp [Value.cells] at hcs
    obtain ⟨rfl, rfl, rfl⟩ := hcs
    exact ⟨[], ⟨rfl, fun _ => ⟨rfl, rfl⟩, Nat.le_refl _, (by intro ad h; cases h), (by intro ad h; cases h)⟩, by have := bulk_one d; simp [sumL]; omega⟩
  · simp [Value.cells] at hcs
    obtain ⟨rfl, rfl, rfl⟩ := hcs
    simp only [if_true] at hz
    have hlz : (zs.take n).length = n := by rw [List.length_take]; omega
    have hx' : d = .slice (Go.ChangeShapes.strs (zs.take n)) (Go.ChangeShapes.strs (zs.drop n)) := by injection hx
    refine ⟨(zs.take n).map fun s => s.data.toList, ⟨by simp [strs]; omega, (by intro h; cases h), hl, ?_, ?_⟩, ?_⟩
    · intro ad h h0
      cases h
      have := World.block_lt_of_cell? W _ (hcell 0 (by omega))
      rw [addBlock] at this
      exact this
    · intro ad h j u hu
      cases h
      have hj : j < n := by have := (List.getElem?_eq_some_iff.1 hu).1; simp [strs] at this; omega
      rw [hcell j (by omega), ← hu]
      simp [strs, hj, List.getD, show j < zs.length by omega]
    · rw [hx']
      have := bulk_strs (H := H) (zs.take n)
      simp only [Rows.uptoBulk]
      omega
set_option maxRecDepth 100000 in
theorem open_inst {fuel : Nat} {cs : List Value} {d : DataW H} {pl : List MemPlace} (h : DataW.trod enc Tryd.prog W 0 (fun _ => true) true fuel 35 cs = some (d, pl)) :
    ∃ i : Ins, cs = insC i := by
  have hC : Tryd.prog.cellsOf 35 = 5 := by kernel_rfl
  obtain ⟨xs, n, _, hx, hlen, hxl, hg⟩ := DataW.trod_struct Tryd.underlying35 h
  have cI : Tryd.prog.cellsOf 3 = 1 := by kernel_rfl
  have cO : Tryd.prog.cellsOf 33 = 1 := by kernel_rfl
  rw [hC] at hlen
  have hxl' : xs.length = 5 := hxl
  match cs, hlen, xs, hxl' with
  | [c0, c1, c2, c3, c4], _, [y0, y1, y2, y3, y4], _ =>
    have g0 : DataW.trod enc Tryd.prog W 0 (fun _ => true) true n 33 (List.take (Tryd.prog.cellsOf 33) [c0, c1, c2, c3, c4]) = some y0 := hg 0 _ rfl
    have g1 : DataW.trod enc Tryd.prog W 0 (fun _ => true) true n 3 (List.take (Tryd.prog.cellsOf 3) [c1, c2, c3, c4]) = some y1 := hg 1 _ rfl
    have g2 : DataW.trod enc Tryd.prog W 0 (fun _ => true) true n 3 (List.take (Tryd.prog.cellsOf 3) [c2, c3, c4]) = some y2 := hg 2 _ rfl
    have g3 : DataW.trod enc Tryd.prog W 0 (fun _ => true) true n 3 (List.take (Tryd.prog.cellsOf 3) [c3, c4]) = some y3 := hg 3 _ rfl
    have g4 : DataW.trod enc Tryd.prog W 0 (fun _ => true) true n 3 (List.take (Tryd.prog.cellsOf 3) [c4]) = some y4 := hg 4 _ rfl
    rw [cO] at g0
    rw [cI] at g1 g2 g3 g4
    obtain ⟨k0, e0, _, _⟩ := DataW.trod_int Tryd.underlying33 g0
    obtain ⟨k1, e1, _, _⟩ := DataW.trod_int Tryd.underlying3 g1
    obtain ⟨k2, e2, _, _⟩ := DataW.trod_int Tryd.underlying3 g2
    obtain ⟨k3, e3, _, _⟩ := DataW.trod_int Tryd.underlying3 g3
    obtain ⟨k4, e4, _, _⟩ := DataW.trod_int Tryd.underlying3 g4
    obtain rfl : c0 = .int .i64 k0 := by simpa using e0
    obtain rfl : c1 = .int .i64 k1 := by simpa using e1
    obtain rfl : c2 = .int .i64 k2 := by simpa using e2
    obtain rfl : c3 = .int .i64 k3 := by simpa using e3
    obtain rfl : c4 = .int .i64 k4 := by simpa using e4
    exact ⟨⟨k0, k1, k2, k3, k4⟩, rfl⟩
theorem open_insts {a : Option Addr} {n c : Nat} {d : DataW H} {p : List MemPlace} (h : DataW.Trod enc Tryd.prog W 0 (fun _ => true) true 22 (.slice a n c) d p) (hs : Sized 22 d) :
    ∃ is : List Ins, Isl W (fun k => k < W.heap.size) a n c is ∧ n * 40 ≤ 140737488351232 ∧ n + 1 ≤ Rows.uptoBulk d := by
  have hC : Tryd.prog.cellsOf 35 = 5 := by kernel_rfl
  obtain ⟨fuel, hf⟩ := h
  rcases open_slice Tryd.underlying22 hf with ⟨hcs, hx⟩ | ⟨a0, len, cap, m, n', D, Pl, hcs, _, hl, hm, hmm, hx, hi⟩
  · simp [Value.cells] at hcs
    obtain ⟨rfl, rfl, rfl⟩ := hcs
    exact ⟨[], ⟨rfl, fun _ => ⟨rfl, rfl⟩, Nat.le_refl _, (by intro ad h; cases h), (by intro ad h; cases h)⟩, by omega, bulk_one d⟩
  · simp [Value.cells] at hcs
    obtain ⟨rfl, rfl, rfl⟩ := hcs
    simp only [if_true] at hmm
    subst hmm
    have hd := (Prod.mk.inj hx).1
    have each : ∀ i, i < n → ∃ x : Ins, ∀ j u, (insC x)[j]? = some u → W.cell? (a0.add (i * 5 + j)) = some u := by
      intro i hin
      obtain ⟨cs', hc, ht'⟩ := hi i (by omega)
      rw [hC] at hc
      obtain ⟨_, hcl, hat⟩ := World.cells?_some hc
      obtain ⟨x, hxe⟩ := open_inst ht'
      refine ⟨x, fun j u hu => ?_⟩
      have hj : j < 5 := by have := (List.getElem?_eq_some_iff.1 hu).1; simpa using this
      rw [← addAdd, hat j hj, ← hu, hxe]
    have hch : ∃ g : Nat → Ins, ∀ i, i < n → ∀ j u, (insC (g i))[j]? = some u → W.cell? (a0.add (i * 5 + j)) = some u := by
      refine ⟨fun i => if h : i < n then Classical.choose (each i h) else ⟨0, 0, 0, 0, 0⟩, fun i h => ?_⟩
      simp only [dif_pos h]
      exact Classical.choose_spec (each i h)
    obtain ⟨g, hg⟩ := hch
    refine ⟨(List.range n).map g, ⟨by simp, (by intro h; cases h), hl, ?_, ?_⟩, ?_, ?_⟩
    · intro ad h h0
      cases h
      have := World.block_lt_of_cell? W _ (hg 0 h0 0 _ rfl)
      rw [addBlock] at this
      exact this
    · intro ad h i hi'
      cases h
      have hin : i < n := by simpa using hi'
      have he : ((List.range n).map g)[i] = g i := by simp
      rw [he]
      exact ⟨hg i hin 0 _ rfl, hg i hin 1 _ rfl, hg i hin 2 _ rfl, hg i hin 3 _ rfl, hg i hin 4 _ rfl⟩
    · exact sized_len (e := 35) (b := 40) (n := n) hs Tryd.underlying22 (by kernel_rfl) (.inr ⟨_, _, hd, by simp⟩)
    · rw [hd]
      have := bulk_len ((List.range n).map D)
      simp only [Rows.uptoBulk]
      simp at this ⊢
      omega
end

/-- 'There is an input that fits', at a row that lists variables. -/
theorem witness_row {H : Type} {enc : TypeId × Value → H} {os : Os} {f : FuncId} {fn : Func} {s : OpenSpec} {conds : List PathCond} {laid : List (String × DataW Unit)} (args : Array Value)
    (hsh : ((World.laidAll Tryd.prog os laidHere).forCall (fun _ _ => 0) ⟨#[], args, []⟩).Shaped Tryd.prog)
    (hok : Input.okWideB Tryd.prog ((World.laidAll Tryd.prog os laidHere).forCall (fun _ _ => 0) ⟨#[], args, []⟩) f ⟨#[], args, []⟩ = true)
    (hrow : s.preRow enc Tryd.prog fn conds false laid ((World.laidAll Tryd.prog os laidHere).forCall (fun _ _ => 0) ⟨#[], args, []⟩).memory args) :
    ∃ (w : World) (tape : Tape) (i : Input), w.os = os ∧ (w.forCall tape i).Shaped Tryd.prog ∧ i.vars = [] ∧ Input.okWide Tryd.prog (w.forCall tape i) .any w.heap.size f i ∧
      s.preRow enc Tryd.prog fn conds false laid (w.forCall tape i).memory i.args ∧ ({} : Assume).holds Tryd.prog (lone (Frame.enter Tryd.prog f i.args .normal) [] (w.forCall tape i)) :=
  ⟨World.laidAll Tryd.prog os laidHere, fun _ _ => 0, ⟨#[], args, []⟩, World.laidAll_os _ _ _, hsh, (Input.okWide_of_okWideB (base := 0) hok).1, (Input.okWide_of_okWideB hok).2, hrow, by
    simp only [Assume.holds]
    exact ⟨by simp, by simp, (by intro h; first | exact Modest.zero | cases h), by simp, by simp⟩⟩
theorem env_of_row {W : World} (h : laidMetH Tryd.prog laidHere W) (hs : W.ShapedOpen Tryd.prog) : Env W := by
  rw [MakeChecks.laidMetH_plain _ _ _ (by kernel_rfl)] at h
  exact env_of_laid h (ml_of_shape hs)
end Go.Proofs.YtoebboimdkogpaaDoor
