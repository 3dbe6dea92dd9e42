/-
  How a law's arguments are opened, whatever the program: numbers in slices, strings, and what the form's own reach gives of them.
  How a script, an act and bytes come in.
-/
import Derived.Test.YthbdncojekpanaaAg
import Derived.ProofKit
import Derived.OpenShut
import Derived.SliceStrings
import Derived.ChangeSlices
import Derived.ChangeSame
import Derived.Carry
import Derived.Deep.Slices
import Derived.Deep.Fields
import Derived.SizedLaws
import Derived.Lib.SmallJoins
import Derived.Test.YthbdncojekpanaaAj
namespace Go.Proofs.Ythbdncojekpanaa
section
open Go.ChangeShapes Go.WideShapes Go.ChangeAt Go.RowKit Go.Deep

theorem Try.own : ownKnob Try.prog.godebug = none := by kernel_rfl
theorem Try.laidOut : laidOutB Try.prog = true := by kernel_rfl
theorem i64_of_wf {n : Int} (h : (Lit.int .i64 n).wf = true) : I64 n := by
  unfold I64
  simp [Lit.wf, IntKind.min, IntKind.max, IntKind.signed, IntKind.bits] at h
  omega
theorem u8_of_wf {n : Int} (h : (Lit.int .u8 n).wf = true) : n = ((UInt8.ofNat n.toNat).toNat : Int) := by
  simp [Lit.wf, IntKind.min, IntKind.max, IntKind.signed, IntKind.bits] at h
  rw [UInt8.toNat_ofNat', Nat.mod_eq_of_lt (by omega)]
  omega
theorem u32_of_wf {n : Int} (h : (Lit.int .u32 n).wf = true) : n = ((UInt32.ofNat n.toNat).toNat : Int) := by
  simp [Lit.wf, IntKind.min, IntKind.max, IntKind.signed, IntKind.bits] at h
  rw [UInt32.toNat_ofNat', Nat.mod_eq_of_lt (by omega)]
  omega
theorem u64_of_wf {n : Int} (h : (Lit.int .u64 n).wf = true) : n = ((UInt64.ofNat n.toNat).toNat : Int) := by
  simp [Lit.wf, IntKind.min, IntKind.max, IntKind.signed, IntKind.bits] at h
  rw [UInt64.toNat_ofNat', Nat.mod_eq_of_lt (by omega)]
  omega

section
variable {H : Type}
/-- Within the form's own reach. -/
def Sized (t : TypeId) (d : DataW H) : Prop := ∀ x ∈ d.weights Try.prog t, x ≤ reachBytes
theorem sized_arg {ts : List TypeId} {ds : List (DataW H)} (h : (DataW.weightsEach Try.prog ts ds).all (· ≤ reachBytes) = true) {j : Nat} {t : TypeId} {d : DataW H} (ht : ts[j]? = some t) (hd : ds[j]? = some d) : Sized t d := fun x hx => by
  have := List.all_eq_true.1 h _ (DataW.weights_mem_each ht hd x hx)
  simpa using this
theorem weights_mem_all {e : TypeId} {ds : List (DataW H)} {d : DataW H} (hd : d ∈ ds) {x : Nat} (hx : x ∈ d.weights Try.prog e) : x ∈ DataW.weightsAll Try.prog e ds := by
  induction ds with
  | nil => cases hd
  | cons d0 ds ih =>
    simp only [DataW.weightsAll, List.mem_append]
    rcases List.mem_cons.1 hd with rfl | hd
    · exact .inl hx
    · exact .inr (ih hd)
theorem Sized.elem {t e : TypeId} {es sp : List (DataW H)} (h : Sized t (.slice es sp)) (hu : Try.prog.underlying t = some (.slice e)) {d : DataW H} (hd : d ∈ es) : Sized e d := fun x hx => by
  refine h x ?_
  simp only [DataW.weights, hu, List.mem_cons, List.mem_append]
  exact .inr (.inl (weights_mem_all hd hx))
theorem Sized.len {t e : TypeId} {es sp : List (DataW H)} (h : Sized t (.slice es sp)) (hu : Try.prog.underlying t = some (.slice e)) : (es.length + sp.length) * Try.prog.bytesOf e ≤ reachBytes := by
  refine h _ ?_
  simp [DataW.weights, hu]
theorem Sized.part {t : TypeId} {fs : Array Field} {ps : List (DataW H)} (h : Sized t (.agg ps)) (hu : Try.prog.underlying t = some (.struct fs)) {j : Nat} {f : TypeId} {d : DataW H} (hf : (fs.toList.map (·.type))[j]? = some f) (hd : ps[j]? = some d) : Sized f d := fun x hx => by
  refine h x ?_
  simp only [DataW.weights, hu]
  exact DataW.weights_mem_each hf hd x hx
theorem Sized.str {t : TypeId} {b : List UInt8} (h : Sized (H := H) t (.lit (.string b))) : b.length ≤ 140737488351232 := by
  have := h b.length (by simp [DataW.weights])
  simpa [reachBytes] using this
end

section
variable {H : Type} {enc : TypeId × Value → H} {W : World}
/-- A slice of numbers. -/
theorem open_nums {k : IntKind} {t e : TypeId} (ht : Try.prog.underlying t = some (.slice e)) (he : Try.prog.underlying e = some (.int k)) (hc : Try.prog.cellsOf e = 1) {a : Option Addr} {n c : Nat} {d : DataW H} {p : List MemPlace}
    (h : DataW.Trod enc Try.prog W 0 (fun _ => true) true t (.slice a n c) d p) :
    ∃ zs : List Int, Src W (fun k => k < W.heap.size) a n c (zs.map (Value.int k)) ∧ (∀ z ∈ zs, (Lit.int k z).wf = true) ∧ (n = 0 ∨ ∃ es sp, d = .slice es sp ∧ es.length = n) ∧ c ≤ 9223372036854775807 := by
  obtain ⟨fuel, hf⟩ := h
  rcases open_ints ht he hc hf with ⟨hcs, hx⟩ | ⟨a0, len, cap, zs, hcs, _, hl, hm, hz, hx, hcell, hw⟩
  · simp [Value.cells] at hcs
    obtain ⟨rfl, rfl, rfl⟩ := hcs
    exact ⟨[], ⟨rfl, fun _ => ⟨rfl, rfl⟩, Nat.le_refl _, (by intro ad h; cases h), (by intro ad h; cases h)⟩, (by intro z hz; cases hz), .inl rfl, by omega⟩
  · simp [Value.cells] at hcs
    obtain ⟨rfl, rfl, rfl⟩ := hcs
    simp only [if_true] at hz
    have hlz : (zs.take n).length = n := by rw [List.length_take]; omega
    have hx' : d = .slice (lits k (zs.take n)) (lits k (zs.drop n)) := by injection hx
    refine ⟨zs.take n, ⟨by simp; omega, (by intro h; cases h), hl, ?_, ?_⟩, fun z hz => hw z (List.mem_of_mem_take hz), .inr ⟨_, _, hx', by simp [lits]; omega⟩, by simpa [maxLen] using hm⟩
    · intro ad h h0
      cases h
      have := World.block_lt_of_cell? W _ (hcell 0 (by omega))
      rw [addBlock] at this
      exact this
    · intro ad h j u hu
      cases h
      have hj : j < n := by have := (List.getElem?_eq_some_iff.1 hu).1; simp at this; omega
      have hjz : j < zs.length := by omega
      rw [hcell j hjz, ← hu]
      simp [hj, List.getD, hjz]
theorem slice_of_trod {t e : TypeId} {fuel : Nat} {v : Value} {d : DataW H} {p : List MemPlace} (ht : Try.prog.underlying t = some (.slice e)) (h : DataW.trod enc Try.prog W 0 (fun _ => true) true fuel t [v] = some (d, p)) :
    ∃ a n c, v = .slice a n c ∧ DataW.Trod enc Try.prog W 0 (fun _ => true) true t (.slice a n c) d p := by
  rcases open_slice ht h with ⟨hcs, _⟩ | ⟨a, len, cap, m, n, D, Pl, hcs, _⟩
  · have hv : v = .slice none 0 0 := by simpa using hcs
    subst hv
    exact ⟨_, _, _, rfl, fuel, h⟩
  · have hv : v = .slice (some a) len cap := by simpa using hcs
    subst hv
    exact ⟨_, _, _, rfl, fuel, h⟩
theorem sized_len {t e : TypeId} {n b : Nat} {d : DataW H} (hs : Sized t d) (hu : Try.prog.underlying t = some (.slice e)) (hb : Try.prog.bytesOf e = b) (hl : n = 0 ∨ ∃ es sp, d = .slice es sp ∧ es.length = n) : n * b ≤ 140737488351232 := by
  rcases hl with rfl | ⟨es, sp, rfl, rfl⟩
  · omega
  · have h1 := hs.len hu
    rw [hb] at h1
    simp only [reachBytes] at h1
    have : es.length * b ≤ (es.length + sp.length) * b := Nat.mul_le_mul_right _ (by omega)
    omega
end
end

section
open Go.ChangeShapes Go.WideShapes Go.ChangeAt Go.RowKit Go.Deep

theorem u16_of_wf {n : Int} (h : (Lit.int .u16 n).wf = true) : n = ((UInt16.ofNat n.toNat).toNat : Int) := by
  simp [Lit.wf, IntKind.min, IntKind.max, IntKind.signed, IntKind.bits] at h
  rw [UInt16.toNat_ofNat', Nat.mod_eq_of_lt (by omega)]
  omega
section
variable {H : Type} {enc : TypeId × Value → H} {W : World}
theorem open_bs {a : Option Addr} {n c : Nat} {d : DataW H} {p : List MemPlace} (h : DataW.Trod enc Try.prog W 0 (fun _ => true) true 31 (.slice a n c) d p) (hs : Sized 31 d) :
    ∃ b : Str, b.length = n ∧ Src W (fun k => k < W.heap.size) a n c (cells b) ∧ n ≤ 140737488351232 := by
  obtain ⟨zs, h1, h2, h3, _⟩ := open_nums Try.underlying31 Try.underlying5 (by kernel_rfl) h
  have e : zs.map (Value.int .u8) = cells (zs.map fun z => UInt8.ofNat z.toNat) := by
    simp only [cells, List.map_map]
    apply List.map_congr_left
    intro z hz
    have := u8_of_wf (h2 z hz)
    simp only [Function.comp]
    rw [← this]
  have := sized_len (b := 1) hs Try.underlying31 (by kernel_rfl) h3
  exact ⟨zs.map fun z => UInt8.ofNat z.toNat, by simpa using h1.len, e ▸ h1, by omega⟩
set_option maxRecDepth 100000 in
theorem open_act {fuel : Nat} {cs : List Value} {d : DataW H} {pl : List MemPlace} (h : DataW.trod enc Try.prog W 0 (fun _ => true) true fuel 33 cs = some (d, pl)) (hs : Sized 33 d) :
    ∃ x A c, cs = (acells x A c).toList ∧ AcV W (fun k => k < W.heap.size) x A c := by
  have hC : Try.prog.cellsOf 33 = 5 := by kernel_rfl
  obtain ⟨xs, n, _, hx, hlen, hxl, hg⟩ := DataW.trod_struct Try.underlying33 h
  have cI : Try.prog.cellsOf 3 = 1 := by kernel_rfl
  have cP : Try.prog.cellsOf 30 = 1 := by kernel_rfl
  have cB : Try.prog.cellsOf 31 = 1 := by kernel_rfl
  rw [hC] at hlen
  have hxl' : xs.length = 5 := hxl
  match cs, hlen, xs, hxl' with
  | [c0, c1, c2, c3, c4], _, [y0, y1, y2, y3, y4], _ =>
    have g0 : DataW.trod enc Try.prog W 0 (fun _ => true) true n 3 (List.take (Try.prog.cellsOf 3) [c0, c1, c2, c3, c4]) = some y0 := hg 0 _ rfl
    rw [cI] at g0
    change DataW.trod enc Try.prog W 0 (fun _ => true) true n 3 [c0] = some y0 at g0
    have g1 : DataW.trod enc Try.prog W 0 (fun _ => true) true n 3 (List.take (Try.prog.cellsOf 3) [c1, c2, c3, c4]) = some y1 := hg 1 _ rfl
    rw [cI] at g1
    change DataW.trod enc Try.prog W 0 (fun _ => true) true n 3 [c1] = some y1 at g1
    have g2 : DataW.trod enc Try.prog W 0 (fun _ => true) true n 3 (List.take (Try.prog.cellsOf 3) [c2, c3, c4]) = some y2 := hg 2 _ rfl
    rw [cI] at g2
    change DataW.trod enc Try.prog W 0 (fun _ => true) true n 3 [c2] = some y2 at g2
    have g3 : DataW.trod enc Try.prog W 0 (fun _ => true) true n 30 (List.take (Try.prog.cellsOf 30) [c3, c4]) = some y3 := hg 3 _ rfl
    rw [cP] at g3
    change DataW.trod enc Try.prog W 0 (fun _ => true) true n 30 [c3] = some y3 at g3
    have g4 : DataW.trod enc Try.prog W 0 (fun _ => true) true n 31 (List.take (Try.prog.cellsOf 31) [c4]) = some y4 := hg 4 _ rfl
    rw [cB] at g4
    change DataW.trod enc Try.prog W 0 (fun _ => true) true n 31 [c4] = some y4 at g4
    obtain ⟨k0, e0, _, _⟩ := DataW.trod_int Try.underlying3 g0
    obtain ⟨k1, e1, _, w1⟩ := DataW.trod_int Try.underlying3 g1
    obtain ⟨k2, e2, _, w2⟩ := DataW.trod_int Try.underlying3 g2
    obtain ⟨k3, e3, _, _⟩ := DataW.trod_int Try.underlying30 g3
    obtain rfl : c0 = .int .i64 k0 := by simpa using e0
    obtain rfl : c1 = .int .i64 k1 := by simpa using e1
    obtain rfl : c2 = .int .i64 k2 := by simpa using e2
    obtain rfl : c3 = .int .i64 k3 := by simpa using e3
    obtain ⟨d4, p4⟩ := y4
    obtain ⟨A, m, c, rfl, t4⟩ := slice_of_trod Try.underlying31 g4
    have hd : d = .agg [y0.1, y1.1, y2.1, y3.1, d4] := by injection hx
    subst hd
    obtain ⟨l, rfl, l2, l3⟩ := open_bs t4 (hs.part Try.underlying33 (j := 4) rfl rfl)
    exact ⟨⟨k0, k1, k2, k3, l⟩, A, c, rfl, l2, l3, i64_of_wf w1, i64_of_wf w2⟩
set_option maxRecDepth 100000 in
theorem open_act1 {r : Reach} {b0 : Nat} {v : Value} {d : DataW H} {p : List MemPlace} (hv : Value.okWide Try.prog W r b0 33 v) (h : DataW.Trod enc Try.prog W 0 (fun _ => true) true 33 v d p) (hs : Sized 33 d) :
    ∃ x A c, v = .agg (acells x A c) ∧ AcV W (fun k => k < W.heap.size) x A c := by
  unfold Value.okWide at hv
  rw [Try.underlying33] at hv
  obtain ⟨cs, rfl, _, _⟩ := hv
  obtain ⟨fuel, hf⟩ := h
  obtain ⟨x, A, c, e, hx⟩ := open_act hf hs
  have e' : cs = acells x A c := Array.ext' e
  subst e'
  exact ⟨x, A, c, rfl, hx⟩
theorem open_acts {a : Option Addr} {n c : Nat} {d : DataW H} {p : List MemPlace} (h : DataW.Trod enc Try.prog W 0 (fun _ => true) true 22 (.slice a n c) d p) (hs : Sized 22 d) :
    ∃ xs : List Ac, Acs W (fun k => k < W.heap.size) a n c xs ∧ n ≤ 140737488351232 := by
  have hC : Try.prog.cellsOf 33 = 5 := by kernel_rfl
  obtain ⟨fuel, hf⟩ := h
  rcases open_slice Try.underlying22 hf with ⟨hcs, hx⟩ | ⟨a0, len, cap, m, n', D, Pl, hcs, _, hl, hm, hmm, hx, hi⟩
  · simp [Value.cells] at hcs
    obtain ⟨rfl, rfl, rfl⟩ := hcs
    exact ⟨[], ⟨rfl, fun _ => ⟨rfl, rfl⟩, Nat.le_refl _, (by intro ad h; cases h), (by intro ad h; cases h)⟩, by omega⟩
  · simp [Value.cells] at hcs
    obtain ⟨rfl, rfl, rfl⟩ := hcs
    simp only [if_true] at hmm
    subst hmm
    have hd := (Prod.mk.inj hx).1
    have hsz : ∀ i, i < n → Sized 33 (D i) := by
      intro i hin
      have h' := hs
      rw [hd] at h'
      refine h'.elem Try.underlying22 ?_
      simp
      exact ⟨i, hin, rfl⟩
    have each : ∀ i, i < n → ∃ x : Ac, ∃ Ai ci, AcV W (fun k => k < W.heap.size) x Ai ci ∧ ∀ j u, (acells x Ai ci)[j]? = some u → W.cell? (a0.add (i * 5 + j)) = some u := by
      intro i hin
      obtain ⟨cs', hc, ht'⟩ := hi i (by omega)
      rw [hC] at hc
      obtain ⟨_, hcl, hat⟩ := World.cells?_some hc
      obtain ⟨x, Ai, ci, rfl, hv⟩ := open_act ht' (hsz i hin)
      refine ⟨x, Ai, ci, hv, fun j u hu => ?_⟩
      have hj : j < 5 := by have := (Array.getElem?_eq_some_iff.1 hu).1; simpa [acells] using this
      rw [← addAdd, hat j hj, ← hu]
      simp
    have hch : ∃ g : Nat → Ac, ∀ i, i < n → ∃ Ai ci, AcV W (fun k => k < W.heap.size) (g i) Ai ci ∧ ∀ j u, (acells (g i) Ai ci)[j]? = some u → W.cell? (a0.add (i * 5 + j)) = some u := by
      refine ⟨fun i => if h : i < n then Classical.choose (each i h) else ⟨0, 0, 0, 0, []⟩, fun i h => ?_⟩
      simp only [dif_pos h]
      exact Classical.choose_spec (each i h)
    obtain ⟨g, hg⟩ := hch
    refine ⟨(List.range n).map g, ⟨by simp, (by intro h; cases h), hl, ?_, ?_⟩, ?_⟩
    · intro ad h h0
      cases h
      obtain ⟨Ai, ci, _, hcl⟩ := hg 0 h0
      have := World.block_lt_of_cell? W _ (hcl 0 _ rfl)
      rw [addBlock] at this
      exact this
    · intro ad h i hi'
      cases h
      have hin : i < n := by simpa using hi'
      have he : ((List.range n).map g)[i] = g i := by simp
      rw [he]
      exact hg i hin
    · have := sized_len (e := 33) (b := 56) (n := n) hs Try.underlying22 (by kernel_rfl) (.inr ⟨_, _, hd, by simp⟩)
      omega
end
end
end Go.Proofs.Ythbdncojekpanaa
