/-
  How rows of images come in.
-/
import Derived.Test.YtpcgedngikpnoaaA
import Derived.Test.YtpcgedngikpnoaaYOs
import Derived.Deep.CondSized
namespace Go.Proofs.Ytpcgedngikpnoaa
set_option maxRecDepth 100000
set_option linter.unusedSimpArgs false
set_option linter.unusedVariables false
open Go.ChangeShapes Go.WideShapes Go.ChangeAt Go.RowKit Go.Deep
section
variable {H : Type} {enc : TypeId × Value → H} {W : World}
abbrev noPl : Pl := ⟨(none, 0), (none, 0), (none, 0), (none, 0), (none, 0), (none, 0), (none, 0), (none, 0), (none, 0), (none, 0), (none, 0)⟩
set_option maxRecDepth 100000 in
theorem open_ims {a : Option Addr} {n c : Nat} {d : DataW H} {p : List MemPlace} (h : DataW.Trod enc Try.prog W 0 (fun _ => true) true 26 (.slice a n c) d p) (hs : Sized 26 d) :
    ∃ xs : List Im, Ims W (fun k => k < W.heap.size) a n c xs ∧ FitsS xs ∧ n * 304 ≤ 140737488351232 := by
  obtain ⟨f, h1, h2, h3⟩ := open_list (x0 := (noPl, noIm)) Try.underlying26 (by kernel_rfl) (sz := 15) (b := 304) (by kernel_rfl) (fun x : Pl × Im => imA x.1 x.2) (fun _ => rfl) (fun x => ImIn W (fun k => k < W.heap.size) x.1 x.2 ∧ Fit x.2) (by decide) open_imC h hs
  have e : ∀ k, k < n → ((List.range n).map fun k => (f k).2).getD k noIm = (f k).2 := fun k hk => range_getD (fun k => (f k).2) n k noIm hk
  refine ⟨(List.range n).map fun k => (f k).2, ⟨by simp, fun k => (f k).1, h1.congr fun k hk => by rw [e k hk], fun k hk => by rw [e k hk]; exact (h2 k hk).1.sy⟩, ⟨?_, fun x hx => ?_⟩, h3⟩
  · rw [List.length_map, List.length_range]
    omega
  · obtain ⟨k, hk, rfl⟩ := List.mem_map.1 hx
    exact (h2 k (List.mem_range.1 hk)).2.s
end
section
variable {H : Type} {enc : TypeId × Value → H} {W : World}
set_option maxRecDepth 100000 in
theorem open_imL {fuel : Nat} {cs : List Value} {d : DataW H} {pl : List MemPlace} (h : DataW.trod enc Try.prog W 0 (fun _ => true) true fuel 62 cs = some (d, pl)) (hs : Sized 62 d) :
    ∃ x : Pl × Im, cs = (imA x.1 x.2).toList ∧ (ImIn W (fun k => k < W.heap.size) x.1 x.2 ∧ Fit x.2) ∧ x.2.syms.length * 88 ≤ 140737488351232 := by
  obtain ⟨x, rfl, h2⟩ := open_imC h hs
  refine ⟨x, rfl, h2, ?_⟩
  obtain ⟨xs, n, _, hx, hlen, hxl, hg⟩ := DataW.trod_struct Try.underlying62 h
  have hxl' : xs.length = 13 := hxl
  have ktSyms : Try.prog.cellsOf 51 = 1 := by kernel_rfl
  match xs, hxl' with
  | [(y0, z0), (y1, z1), (y2, z2), (y3, z3), (y4, z4), (y5, z5), (y6, z6), (y7, z7), (y8, z8), (y9, z9), (y10, z10), (y11, z11), (y12, z12)], _ =>
    have g5 : DataW.trod enc Try.prog W 0 (fun _ => true) true n 51 (List.take (Try.prog.cellsOf 51) (List.drop 5 (imA x.1 x.2).toList)) = some (y5, z5) := hg 5 _ rfl
    rw [ktSyms] at g5
    change DataW.trod enc Try.prog W 0 (fun _ => true) true n 51 [.slice x.1.sy.1 x.2.syms.length x.1.sy.2] = some (y5, z5) at g5
    have hd : d = .agg [y0, y1, y2, y3, y4, y5, y6, y7, y8, y9, y10, y11, y12] := by injection hx
    subst hd
    have hs5 := hs.part Try.underlying62 (j := 5) rfl rfl
    obtain ⟨f, _, _, h3⟩ := open_list (x0 := noSy) Try.underlying51 (by kernel_rfl) (sz := 9) (b := 88) (by kernel_rfl) (fun x => symA x) (fun _ => rfl) (fun x => Long x.name.length ∧ Long x.ver.length ∧ I64 x.kind ∧ I64 x.vis ∧ I64 x.val ∧ I64 x.size) (by decide) open_symC2 ⟨n, g5⟩ hs5
    exact h3
set_option maxRecDepth 100000 in
theorem open_imsL {a : Option Addr} {n c : Nat} {d : DataW H} {p : List MemPlace} (h : DataW.Trod enc Try.prog W 0 (fun _ => true) true 26 (.slice a n c) d p) (hs : Sized 26 d) :
    ∃ xs : List Im, Ims W (fun k => k < W.heap.size) a n c xs ∧ FitsS xs ∧ n * 304 ≤ 140737488351232 ∧ ∀ x ∈ xs, x.syms.length * 88 ≤ 140737488351232 := by
  obtain ⟨f, h1, h2, h3⟩ := open_list (x0 := (noPl, noIm)) Try.underlying26 (by kernel_rfl) (sz := 15) (b := 304) (by kernel_rfl) (fun x : Pl × Im => imA x.1 x.2) (fun _ => rfl) (fun x => (ImIn W (fun k => k < W.heap.size) x.1 x.2 ∧ Fit x.2) ∧ x.2.syms.length * 88 ≤ 140737488351232) (by decide) open_imL h hs
  have e : ∀ k, k < n → ((List.range n).map fun k => (f k).2).getD k noIm = (f k).2 := fun k hk => range_getD (fun k => (f k).2) n k noIm hk
  refine ⟨(List.range n).map fun k => (f k).2, ⟨by simp, fun k => (f k).1, h1.congr fun k hk => by rw [e k hk], fun k hk => by rw [e k hk]; exact (h2 k hk).1.1.sy⟩, ⟨?_, fun x hx => ?_⟩, h3, fun x hx => ?_⟩
  · rw [List.length_map, List.length_range]
    omega
  · obtain ⟨k, hk, rfl⟩ := List.mem_map.1 hx
    exact (h2 k (List.mem_range.1 hk)).1.2.s
  · obtain ⟨k, hk, rfl⟩ := List.mem_map.1 hx
    exact (h2 k (List.mem_range.1 hk)).2
/-- Rows of symbols. -/
structure Sys (w : World) (P : Nat → Prop) (A : Option Addr) (n c : Nat) (ls : List (List Sym)) : Prop where
  len : ls.length = n
  ex : ∃ B : Nat → Option Addr × Nat, Els w P A n c 1 (fun k => #[.slice (B k).1 (ls.getD k []).length (B k).2]) ∧ ∀ k, k < n → Syl w P (B k).1 (ls.getD k []).length (B k).2 (ls.getD k [])
theorem open_symsC {fuel : Nat} {cs : List Value} {d : DataW H} {pl : List MemPlace} (h : DataW.trod enc Try.prog W 0 (fun _ => true) true fuel 51 cs = some (d, pl)) (hs : Sized 51 d) :
    ∃ x : List Sym × (Option Addr × Nat), cs = (#[.slice x.2.1 x.1.length x.2.2] : Array Value).toList ∧ ((∀ s ∈ x.1, s.name.length ≤ 140737488351232 ∧ s.ver.length ≤ 140737488351232) ∧ Syl W (fun k => k < W.heap.size) x.2.1 x.1.length x.2.2 x.1) := by
  have key : ∀ a n c, cs = [.slice a n c] → ∃ x : List Sym × (Option Addr × Nat), cs = (#[.slice x.2.1 x.1.length x.2.2] : Array Value).toList ∧ ((∀ s ∈ x.1, s.name.length ≤ 140737488351232 ∧ s.ver.length ≤ 140737488351232) ∧ Syl W (fun k => k < W.heap.size) x.2.1 x.1.length x.2.2 x.1) := by
    intro a n c e
    subst e
    obtain ⟨l, rfl, l2, l3, l4⟩ := open_syms2 ⟨fuel, h⟩ hs
    exact ⟨(l, (a, c)), rfl, fun s hs => ⟨(l4 s hs).1, (l4 s hs).2.1⟩, l2⟩
  rcases open_slice Try.underlying51 h with ⟨hcs, hx⟩ | ⟨a0, len, cap, m, n', D, Pl, hcs, _⟩
  · exact key _ _ _ hcs
  · exact key _ _ _ hcs
set_option maxRecDepth 100000 in
theorem open_symss {a : Option Addr} {n c : Nat} {d : DataW H} {p : List MemPlace} (h : DataW.Trod enc Try.prog W 0 (fun _ => true) true 66 (.slice a n c) d p) (hs : Sized 66 d) :
    ∃ ls : List (List Sym), Sys W (fun k => k < W.heap.size) a n c ls ∧ ∀ l ∈ ls, ∀ s ∈ l, s.name.length ≤ 140737488351232 ∧ s.ver.length ≤ 140737488351232 := by
  obtain ⟨f, h1, h2, h3⟩ := open_list (x0 := (([] : List Sym), ((none, 0) : Option Addr × Nat))) Try.underlying66 (by kernel_rfl) (sz := 1) (b := 24) (by kernel_rfl) (fun x => #[.slice x.2.1 x.1.length x.2.2]) (fun _ => rfl) (fun x => (∀ s ∈ x.1, s.name.length ≤ 140737488351232 ∧ s.ver.length ≤ 140737488351232) ∧ Syl W (fun k => k < W.heap.size) x.2.1 x.1.length x.2.2 x.1) (by decide) open_symsC h hs
  have e : ∀ k, k < n → ((List.range n).map fun k => (f k).1).getD k [] = (f k).1 := fun k hk => range_getD (fun k => (f k).1) n k [] hk
  refine ⟨(List.range n).map fun k => (f k).1, ⟨by simp, fun k => (f k).2, h1.congr fun k hk => by rw [e k hk], fun k hk => by rw [e k hk]; exact (h2 k hk).2⟩, fun l hl => ?_⟩
  obtain ⟨k, hk, rfl⟩ := List.mem_map.1 hl
  exact (h2 k (List.mem_range.1 hk)).1
end
section
variable {H : Type} {enc : TypeId × Value → H} {W : World}
theorem bulk_one (d : DataW H) : 1 ≤ Rows.uptoBulk d := by
  cases d with
  | lit l => cases l <;> simp [Rows.uptoBulk]
  | nil => simp [Rows.uptoBulk]
  | ptr d => simp [Rows.uptoBulk]
  | slice elems spare => simp [Rows.uptoBulk]
  | agg parts => simp [Rows.uptoBulk]
  | iface t d => simp [Rows.uptoBulk]
  | map entries => simp [Rows.uptoBulk]
  | held h => simp [Rows.uptoBulk]
theorem bulk_len (l : List (DataW H)) : l.length ≤ Rows.uptoBulkAll l := by
  induction l with
  | nil => simp [Rows.uptoBulkAll]
  | cons x r ih => have := bulk_one x; simp only [Rows.uptoBulkAll, List.length_cons]; omega
theorem bulk_bound {l : List (DataW H)} (hk : Rows.uptoSmall H l = true) : Rows.uptoBulkAll l ≤ 1048576 := of_decide_eq_true hk
theorem bulk_symss {a : Option Addr} {n c : Nat} {d : DataW H} {p : List MemPlace} (h : DataW.Trod enc Try.prog W 0 (fun _ => true) true 66 (.slice a n c) d p) : n ≤ Rows.uptoBulk d := by
  obtain ⟨fuel, hf⟩ := h
  rcases open_slice Try.underlying66 hf with ⟨hcs, hx⟩ | ⟨a0, len, cap, m, n', D, Pl, hcs, _, hl, hm, hmm, hx, hi⟩
  · simp [Value.cells] at hcs
    obtain ⟨rfl, rfl, rfl⟩ := hcs
    omega
  · simp [Value.cells] at hcs
    obtain ⟨rfl, rfl, rfl⟩ := hcs
    simp only [if_true] at hmm
    subst hmm
    have hd := (Prod.mk.inj hx).1
    rw [hd]
    have := bulk_len ((List.range n).map D)
    simp only [List.length_map, List.length_range] at this
    simp only [Rows.uptoBulk]
    omega
end
end Go.Proofs.Ytpcgedngikpnoaa
