/-
  What is said of slices in memory, whatever the program: a slice that reads as a list of cells, and what a row of the call's own is.
  How a law's arguments are opened, whatever the program: numbers in slices, strings, and what the form's own reach gives of them.
  What the leaf functions of package cursor do, for every input: the first error is kept, a size is one of four, a number fits, bytes are copied, bytes are appended.
-/
import Derived.Test.YtfljignkjmabpaaGreatRows
import Derived.WalkKit
import Derived.Lib.Hide
import Derived.WalkSpells
import Derived.Maps.AppendAt
import Derived.Deep.AppendLies
import Derived.Deep.Draws
import Derived.Deep.QuietTactic
import Derived.BigQuiet
import Derived.Laws.Rows
import Derived.Laws.AppendOwnNone
import Derived.Lib.LazyBuf
import Derived.OneCell
import Derived.ProofKit
import Derived.OpenShut
import Derived.SliceStrings
import Derived.ChangeSlices
import Derived.ChangeSame
import Derived.Carry
import Derived.Deep.Slices
import Derived.Deep.Fields
import Derived.SizedLaws
import Derived.Lib.SmallJoins
namespace Go.Proofs.YtfljignkjmabpaaGreat
set_option maxRecDepth 100000
set_option linter.unusedSimpArgs false
set_option linter.unusedVariables false
open Go.RowKit

/-- A slice that reads as the cells xs; P holds of the block that they lie in. -/
structure Src (w : World) (P : Nat → Prop) (A : Option Addr) (n c : Nat) (xs : List Value) : Prop where
  len : xs.length = n
  nil : A = none → n = 0 ∧ c = 0
  cap : n ≤ c
  blk : ∀ ad, A = some ad → 0 < n → P ad.block
  at_ : ∀ ad, A = some ad → ∀ j u, xs[j]? = some u → w.cell? (ad.add j) = some u
theorem addBlock (a : Addr) (n : Nat) : (a.add n).block = a.block := by unfold Addr.add; split <;> rfl
section
variable {w w' : World} {P Q : Nat → Prop} {A : Option Addr} {n c : Nat} {xs : List Value}
theorem Src.keep (h : Src w P A n c xs) (hk : ∀ k, P k → k < w.heap.size → w'.heap[k]? = w.heap[k]?) : Src w' P A n c xs :=
  ⟨h.len, h.nil, h.cap, h.blk, fun ad hA j u hu => by
    have h1 := h.at_ ad hA j u hu
    have hj : j < xs.length := (List.getElem?_eq_some_iff.1 hu).1
    have hb := h.blk ad hA (by rw [← h.len]; omega)
    rw [World.cell?_of_block (hk _ (by rw [addBlock]; exact hb) (World.block_lt_of_cell? w _ h1))]
    exact h1⟩
theorem Src.weak (h : Src w P A n c xs) (hk : ∀ k, P k → Q k) : Src w Q A n c xs := ⟨h.len, h.nil, h.cap, fun ad hA hn => hk _ (h.blk ad hA hn), h.at_⟩
theorem Src.of_own {base : Nat} {e : TypeId} (h : w.ownsRow base e 1 (.slice A n c) n xs) : Src w (fun k => (Value.slice A n c).ownBlock = some k ∧ base ≤ k ∧ k < w.heap.size) A n c xs := by
  refine ⟨by simpa using h.1, fun hA => ?_, ?_, fun ad hA _ => ?_, fun ad hA => ?_⟩
  · rcases h.2 with ⟨hv, h0⟩ | ⟨g, cap, cur, hv, _⟩
    · injection hv with _ _ hc
      exact ⟨h0, hc⟩
    · subst hA; injection hv with h1; cases h1
  · rcases h.2 with ⟨hv, h0⟩ | ⟨g, cap, cur, hv, _, _, hle, _⟩
    · omega
    · injection hv with _ _ hc; subst hc; exact hle
  · subst hA
    exact ⟨rfl, h.lt ad.block rfl⟩
  · subst hA
    rcases h.2 with ⟨hv, h0⟩ | ⟨g, cap, cur, hv, _⟩
    · cases hv
    · have := h.cells (g := ad.block) rfl
      injection hv with h1
      injection h1 with h1
      subst h1
      exact this
/-- Whatever owns a row is a slice. -/
theorem own_slice {base : Nat} {e : TypeId} {v : Value} (h : w.ownsRow base e 1 v n xs) : ∃ A c, v = .slice A n c := by
  rcases h.2 with ⟨rfl, rfl⟩ | ⟨g, cap, cur, rfl, _⟩
  · exact ⟨_, _, rfl⟩
  · exact ⟨_, _, rfl⟩
end

/-- An append of whatever can be read, nil or not, onto a row of the call's own. -/
theorem wpList_append_src {Pr : Program} {w : World} {ops : Array Oper} {rest : List Oper} {o : Oper} {a : Act} {Q : Exit → Act → World → Prop} (hgd : o.guard = none) (s x : Operand) (t : TypeId)
    (ho : o.op = .call { callee := .builtin .append, args := #[s, x], argTypes := #[t, t] })
    (base : Nat) (e : TypeId) (i : TypeInfo) (z : Value) (bytes : Nat) (ht : Pr.underlying t = some (.slice e)) (hi : Pr.info? e = some i) (hz : i.zero = some z)
    (hsize : i.size = 1) (hby : i.bytes = bytes) (hzs : z.cells.size = 1)
    (v : Value) (n : Nat) (xs : List Value) (hs : a.eval s = v) (hown : w.ownsRow base e 1 v n xs)
    (P : Nat → Prop) (A : Option Addr) (m c : Nat) (news : List Value) (hx : a.eval x = .slice A m c) (hr : Src w P A m c news) (h1 : ∀ u ∈ news, u.oneCell' = true)
    (h63 : n + m ≤ maxLen) (hbytes : (n + m) * bytes ≤ 140737488355328) (hbase : base ≤ w.heap.size)
    (h : ∀ v' w', w'.ownsRow base e 1 v' (n + m) (xs ++ news) → w.grownBy w' v.ownBlock → (v'.ownBlock = v.ownBlock ∨ v'.ownBlock = some w.heap.size) → wpList Pr ops Q rest (a.put o.dst v') w') : wpList Pr ops Q (o :: rest) a w := by
  cases A with
  | none =>
    obtain ⟨rfl, rfl⟩ := hr.nil rfl
    have hn : news = [] := List.eq_nil_of_length_eq_zero hr.len
    subst hn
    exact wpList_append_own_none hgd s x t ho base e i 1 ht hi v n xs hs hown hx (h v w (by simpa using hown) (World.grownBy.refl w _) (.inl rfl))
  | some ad =>
    exact wpList_append_own_at w hgd s x t ho base e i z 1 bytes ht hi hz hsize hby hzs (by omega) v n xs hs hown ad m c news hx (by simpa using hr.len) (hr.at_ ad rfl) h1 h63 hbytes hbase fun v' w' a1 a2 _ a3 => h v' w' a1 a2 a3

def row (A : Option Addr) : Option Nat := A.map (·.block)
theorem row_own (A : Option Addr) (n c : Nat) : (Value.slice A n c).ownBlock = row A := by cases A <;> rfl

theorem own_more {w : World} {B B' : Nat} {e : TypeId} {sz : Nat} {v : Value} {n : Nat} {xs : List Value} (h : w.ownsRow B e sz v n xs) (hB : B' ≤ B) : w.ownsRow B' e sz v n xs := by
  refine ⟨h.1, ?_⟩
  rcases h.2 with h1 | ⟨g', cap, cur, hv, hb, hh, hx⟩
  · exact .inl h1
  · exact .inr ⟨g', cap, cur, hv, Nat.le_trans hB hb, hh, hx⟩
theorem drew_below (w : World) : Below w.heap.size w w.drew := ⟨rfl, rfl, rfl, Nat.le_refl _, fun _ _ => rfl⟩
theorem drewN_below (w : World) (n : Nat) : Below w.heap.size w (w.drewN n) := ⟨rfl, rfl, rfl, Nat.le_refl _, fun _ _ => rfl⟩
theorem below_drewN {B : Nat} {a w : World} (h : Below B a w) (n : Nat) : Below B a (w.drewN n) := ⟨h.os, h.tape, h.output, h.size, h.block⟩
theorem Src.below {w w' : World} {P : Nat → Prop} {A : Option Addr} {n c : Nat} {xs : List Value} {B : Nat} (h : Src w P A n c xs) (hb : Below B w w') (hP : ∀ k, P k → k < B) : Src w' P A n c xs :=
  h.keep fun k hk _ => hb.block k (hP k hk)
theorem Src.lt {w : World} {P : Nat → Prop} {A : Option Addr} {n c : Nat} {xs : List Value} (h : Src w P A n c xs) : Src w (fun k => k < w.heap.size) A n c xs :=
  ⟨h.len, h.nil, h.cap, fun ad hA hn => (by
    have hl : 0 < xs.length := by rw [h.len]; exact hn
    have h1 := h.at_ ad hA 0 _ (List.getElem?_eq_getElem hl)
    have h2 := World.block_lt_of_cell? w _ h1
    rw [addBlock] at h2
    exact h2), h.at_⟩
end Go.Proofs.YtfljignkjmabpaaGreat

namespace Go.Proofs.YtfljignkjmabpaaGreat
set_option maxRecDepth 100000
set_option linter.unusedSimpArgs false
set_option linter.unusedVariables false
open Go.ChangeShapes Go.WideShapes Go.ChangeAt Go.RowKit Go.Deep

theorem Tryz.own : ownKnob Tryz.prog.godebug = none := by kernel_rfl
theorem Tryz.laidOut : laidOutB Tryz.prog = true := by kernel_rfl
/-- An int. -/
def I64 (n : Int) : Prop := -9223372036854775808 ≤ n ∧ n ≤ 9223372036854775807
theorem i64_of_wf {n : Int} (h : (Lit.int .i64 n).wf = true) : I64 n := by
  unfold I64
  simp [Lit.wf, IntKind.min, IntKind.max, IntKind.signed, IntKind.bits] at h
  omega
theorem u8_of_wf {n : Int} (h : (Lit.int .u8 n).wf = true) : n = ((UInt8.ofNat n.toNat).toNat : Int) := by
  simp [Lit.wf, IntKind.min, IntKind.max, IntKind.signed, IntKind.bits] at h
  rw [UInt8.toNat_ofNat', Nat.mod_eq_of_lt (by omega)]
  omega
theorem u64_of_wf {n : Int} (h : (Lit.int .u64 n).wf = true) : n = ((UInt64.ofNat n.toNat).toNat : Int) := by
  simp [Lit.wf, IntKind.min, IntKind.max, IntKind.signed, IntKind.bits] at h
  rw [UInt64.toNat_ofNat', Nat.mod_eq_of_lt (by omega)]
  omega

section
variable {H : Type}
/-- Within the form's own reach. -/
def Sized (t : TypeId) (d : DataW H) : Prop := ∀ x ∈ d.weights Tryz.prog t, x ≤ reachBytes
theorem sized_arg {ts : List TypeId} {ds : List (DataW H)} (h : (DataW.weightsEach Tryz.prog ts ds).all (· ≤ reachBytes) = true) {j : Nat} {t : TypeId} {d : DataW H} (ht : ts[j]? = some t) (hd : ds[j]? = some d) : Sized t d := fun x hx => by
  have := List.all_eq_true.1 h _ (DataW.weights_mem_each ht hd x hx)
  simpa using this
theorem weights_mem_all {e : TypeId} {ds : List (DataW H)} {d : DataW H} (hd : d ∈ ds) {x : Nat} (hx : x ∈ d.weights Tryz.prog e) : x ∈ DataW.weightsAll Tryz.prog e ds := by
  induction ds with
  | nil => cases hd
  | cons d0 ds ih =>
    simp only [DataW.weightsAll, List.mem_append]
    rcases List.mem_cons.1 hd with rfl | hd
    · exact .inl hx
    · exact .inr (ih hd)
theorem Sized.elem {t e : TypeId} {es sp : List (DataW H)} (h : Sized t (.slice es sp)) (hu : Tryz.prog.underlying t = some (.slice e)) {d : DataW H} (hd : d ∈ es) : Sized e d := fun x hx => by
  refine h x ?_
  simp only [DataW.weights, hu, List.mem_cons, List.mem_append]
  exact .inr (.inl (weights_mem_all hd hx))
theorem Sized.len {t e : TypeId} {es sp : List (DataW H)} (h : Sized t (.slice es sp)) (hu : Tryz.prog.underlying t = some (.slice e)) : (es.length + sp.length) * Tryz.prog.bytesOf e ≤ reachBytes := by
  refine h _ ?_
  simp [DataW.weights, hu]
theorem Sized.part {t : TypeId} {fs : Array Field} {ps : List (DataW H)} (h : Sized t (.agg ps)) (hu : Tryz.prog.underlying t = some (.struct fs)) {j : Nat} {f : TypeId} {d : DataW H} (hf : (fs.toList.map (·.type))[j]? = some f) (hd : ps[j]? = some d) : Sized f d := fun x hx => by
  refine h x ?_
  simp only [DataW.weights, hu]
  exact DataW.weights_mem_each hf hd x hx
theorem Sized.str {t : TypeId} {b : List UInt8} (h : Sized (H := H) t (.lit (.string b))) : b.length ≤ 140737488351232 := by
  have := h b.length (by simp [DataW.weights])
  simpa [reachBytes] using this
end

section
variable {H : Type} {enc : TypeId × Value → H} {W : World}
/-- A slice of numbers. -/
theorem open_nums {k : IntKind} {t e : TypeId} (ht : Tryz.prog.underlying t = some (.slice e)) (he : Tryz.prog.underlying e = some (.int k)) (hc : Tryz.prog.cellsOf e = 1) {a : Option Addr} {n c : Nat} {d : DataW H} {p : List MemPlace}
    (h : DataW.Trod enc Tryz.prog W 0 (fun _ => true) true t (.slice a n c) d p) :
    ∃ zs : List Int, Src W (fun k => k < W.heap.size) a n c (zs.map (Value.int k)) ∧ (∀ z ∈ zs, (Lit.int k z).wf = true) ∧ (n = 0 ∨ ∃ es sp, d = .slice es sp ∧ es.length = n) ∧ c ≤ 9223372036854775807 := by
  obtain ⟨fuel, hf⟩ := h
  rcases open_ints ht he hc hf with ⟨hcs, hx⟩ | ⟨a0, len, cap, zs, hcs, _, hl, hm, hz, hx, hcell, hw⟩
  · simp [Value.cells] at hcs
    obtain ⟨rfl, rfl, rfl⟩ := hcs
    exact ⟨[], ⟨rfl, fun _ => ⟨rfl, rfl⟩, Nat.le_refl _, (by intro ad h; cases h), (by intro ad h; cases h)⟩, (by intro z hz; cases hz), .inl rfl, by omega⟩
  · simp [Value.cells] at hcs
    obtain ⟨rfl, rfl, rfl⟩ := hcs
    simp only [if_true] at hz
    have hlz : (zs.take n).length = n := by rw [List.length_take]; omega
    have hx' : d = .slice (lits k (zs.take n)) (lits k (zs.drop n)) := by injection hx
    refine ⟨zs.take n, ⟨by simp; omega, (by intro h; cases h), hl, ?_, ?_⟩, fun z hz => hw z (List.mem_of_mem_take hz), .inr ⟨_, _, hx', by simp [lits]; omega⟩, by simpa [maxLen] using hm⟩
    · intro ad h h0
      cases h
      have := World.block_lt_of_cell? W _ (hcell 0 (by omega))
      rw [addBlock] at this
      exact this
    · intro ad h j u hu
      cases h
      have hj : j < n := by have := (List.getElem?_eq_some_iff.1 hu).1; simp at this; omega
      have hjz : j < zs.length := by omega
      rw [hcell j hjz, ← hu]
      simp [hj, List.getD, hjz]
theorem slice_of_trod {t e : TypeId} {fuel : Nat} {v : Value} {d : DataW H} {p : List MemPlace} (ht : Tryz.prog.underlying t = some (.slice e)) (h : DataW.trod enc Tryz.prog W 0 (fun _ => true) true fuel t [v] = some (d, p)) :
    ∃ a n c, v = .slice a n c ∧ DataW.Trod enc Tryz.prog W 0 (fun _ => true) true t (.slice a n c) d p := by
  rcases open_slice ht h with ⟨hcs, _⟩ | ⟨a, len, cap, m, n, D, Pl, hcs, _⟩
  · have hv : v = .slice none 0 0 := by simpa using hcs
    subst hv
    exact ⟨_, _, _, rfl, fuel, h⟩
  · have hv : v = .slice (some a) len cap := by simpa using hcs
    subst hv
    exact ⟨_, _, _, rfl, fuel, h⟩
theorem sized_len {t e : TypeId} {n b : Nat} {d : DataW H} (hs : Sized t d) (hu : Tryz.prog.underlying t = some (.slice e)) (hb : Tryz.prog.bytesOf e = b) (hl : n = 0 ∨ ∃ es sp, d = .slice es sp ∧ es.length = n) : n * b ≤ 140737488351232 := by
  rcases hl with rfl | ⟨es, sp, rfl, rfl⟩
  · omega
  · have h1 := hs.len hu
    rw [hb] at h1
    simp only [reachBytes] at h1
    have : es.length * b ≤ (es.length + sp.length) * b := Nat.mul_le_mul_right _ (by omega)
    omega
theorem addAdd (a : Addr) (i j : Nat) : (a.add i).add j = a.add (i + j) := by
  unfold Addr.add
  by_cases hi : i = 0 <;> by_cases hj : j = 0 <;> simp [hi, hj, Nat.add_assoc]
end
end Go.Proofs.YtfljignkjmabpaaGreat

namespace Go.Proofs.YtfljignkjmabpaaGreat
set_option maxRecDepth 100000
set_option linter.unusedSimpArgs false
set_option linter.unusedVariables false
open Go.RowKit

/-- A byte as the model has it. -/
def u8 (b : UInt8) : Value := .int .u8 (b.toNat : Int)
def cells (l : List UInt8) : List Value := l.map u8
theorem cells_len (l : List UInt8) : (cells l).length = l.length := by simp [cells]
theorem cells_app (a b : List UInt8) : cells (a ++ b) = cells a ++ cells b := by simp [cells]
theorem cells_one (l : List UInt8) : ∀ u ∈ cells l, u.oneCell' = true := by
  intro u hu
  simp only [cells, List.mem_map] at hu
  obtain ⟨b, _, rfl⟩ := hu
  rfl

theorem Tryz.info_byte : (Tryz.prog.info? 5).map (fun i => (i.zero, i.size, i.bytes)) = some (some (.int .u8 0), 1, 1) := by kernel_rfl

theorem fail_first (g : Nat) (cs : Array Value) (t : TypeId) (k : Int) (w : World) (h : w.heap[g]? = some (.cells cs t (0, 0))) (h0 : cs[0]? = some (.int .i64 0)) :
    Calls Tryz.prog 127 #[.pointer (some ⟨g, 0, none⟩), .int .i64 k] w fun e w' => e = .returned (.tuple #[]) ∧ w' = w.setCell ⟨g, 0, none⟩ (.int .i64 k) := by
  have hc : w.cell? ⟨g, 0, none⟩ = some (.int .i64 0) := (cell_of_row w g 0 cs t (0, 0) h).trans h0
  have hf : w.frozen? ⟨g, 0, none⟩ = false := frozen_of_row w g 0 cs t h
  clear h h0
  go_enter Tryz.func127, Tryz.ntmps127
  go_wp2
  go_end0
  exact ⟨rfl, rfl⟩

theorem fail_again (g : Nat) (cs : Array Value) (t : TypeId) (e k : Int) (w : World) (h : w.heap[g]? = some (.cells cs t (0, 0))) (h0 : cs[0]? = some (.int .i64 e)) (he : e ≠ 0) :
    Calls Tryz.prog 127 #[.pointer (some ⟨g, 0, none⟩), .int .i64 k] w fun e w' => e = .returned (.tuple #[]) ∧ w = w' := by
  have hc : w.cell? ⟨g, 0, none⟩ = some (.int .i64 e) := (cell_of_row w g 0 cs t (0, 0) h).trans h0
  have hb : (e == 0) = false := by simpa using he
  clear h h0
  go_enter Tryz.func127, Tryz.ntmps127
  go_wp2
  go_end0
  exact ⟨rfl, rfl⟩

theorem failed_any (g : Nat) (cs : Array Value) (t : TypeId) (e : Int) (w : World) (h : w.heap[g]? = some (.cells cs t (0, 0))) (h0 : cs[0]? = some (.int .i64 e)) :
    Calls Tryz.prog 54 #[.pointer (some ⟨g, 0, none⟩)] w fun en w' => en = .returned (.bool (e != 0)) ∧ w = w' := by
  have hc : w.cell? ⟨g, 0, none⟩ = some (.int .i64 e) := (cell_of_row w g 0 cs t (0, 0) h).trans h0
  clear h h0
  go_enter Tryz.func54, Tryz.ntmps54
  go_wp2
  go_ret
  exact ⟨rfl, rfl⟩

def sized (size : Int) : Bool := decide (size = 1 ∨ size = 2 ∨ size = 4 ∨ size = 8)

theorem isSize_any (size : Int) (w : World) : Calls Tryz.prog 126 #[.int .i64 size] w fun e w' => e = .returned (.bool (sized size)) ∧ w = w' := by
  by_cases h1 : size = 1
  · subst h1
    go_enter Tryz.func126, Tryz.ntmps126
    go_wp2
    go_ret
    exact ⟨rfl, rfl⟩
  by_cases h2 : size = 2
  · subst h2
    go_enter Tryz.func126, Tryz.ntmps126
    go_wp2
    go_ret
    exact ⟨rfl, rfl⟩
  by_cases h3 : size = 4
  · subst h3
    go_enter Tryz.func126, Tryz.ntmps126
    go_wp2
    go_ret
    exact ⟨rfl, rfl⟩
  by_cases h4 : size = 8
  · subst h4
    go_enter Tryz.func126, Tryz.ntmps126
    go_wp2
    go_ret
    exact ⟨rfl, rfl⟩
  have b1 : (size == 1) = false := by simpa using h1
  have b2 : (size == 2) = false := by simpa using h2
  have b3 : (size == 4) = false := by simpa using h3
  have b4 : (size == 8) = false := by simpa using h4
  have hs : sized size = false := by simp [sized, h1, h2, h3, h4]
  have HS := Lib.hid hs
  clear hs h1 h2 h3 h4
  go_enter Tryz.func126, Tryz.ntmps126
  go_wp2
  go_ret
  rw [HS.out]
  exact ⟨rfl, rfl⟩

/-- Does the number fit into so many bytes? -/
def fitB (size n : Int) : Bool := if size = 1 then decide (0 ≤ n ∧ n < 256) else if size = 2 then decide (0 ≤ n ∧ n < 65536) else if size = 4 then decide (0 ≤ n ∧ n < 4294967296) else true
theorem fit1 (n : Int) (h : I64 n) : (IntKind.u64.wrap n / 256 == 0) = fitB 1 n := by
  unfold I64 at h
  rw [Bool.eq_iff_iff]
  simp [fitB, IntKind.wrap, IntKind.bits, IntKind.signed]
  omega
theorem fit2 (n : Int) (h : I64 n) : (IntKind.u64.wrap n / 65536 == 0) = fitB 2 n := by
  unfold I64 at h
  rw [Bool.eq_iff_iff]
  simp [fitB, IntKind.wrap, IntKind.bits, IntKind.signed]
  omega
theorem fit4 (n : Int) (h : I64 n) : (IntKind.u64.wrap n / 4294967296 == 0) = fitB 4 n := by
  unfold I64 at h
  rw [Bool.eq_iff_iff]
  simp [fitB, IntKind.wrap, IntKind.bits, IntKind.signed]
  omega
theorem fit8 (n : Int) : (IntKind.u64.wrap n / 18446744073709551616 == 0) = fitB 8 n := by
  rw [Bool.eq_iff_iff]
  simp [fitB, IntKind.wrap, IntKind.bits, IntKind.signed]
  omega

theorem fits_any (size n : Int) (w : World) (hs : sized size = true) (hn : I64 n) :
    Calls Tryz.prog 193 #[.int .i64 size, .int .i64 n] w fun e w' => e = .returned (.bool (fitB size n)) ∧ w = w' := by
  simp only [sized, decide_eq_true_eq] at hs
  have h1 := Lib.hid (fit1 n hn)
  have h2 := Lib.hid (fit2 n hn)
  have h4 := Lib.hid (fit4 n hn)
  have h8 := Lib.hid (fit8 n)
  clear hn
  rcases hs with rfl | rfl | rfl | rfl
  all_goals
    go_enter Tryz.func193, Tryz.ntmps193
    go_wp2
    go_ret
  · rw [← h1.out]; exact ⟨rfl, rfl⟩
  · rw [← h2.out]; exact ⟨rfl, rfl⟩
  · rw [← h4.out]; exact ⟨rfl, rfl⟩
  · rw [← h8.out]; exact ⟨rfl, rfl⟩

section
variable {w w' : World} {P Q : Nat → Prop} {A : Option Addr} {n c : Nat} {xs : List Value}
end

/-- A new row with these bytes; all else is as it was. -/
def Cloned (w : World) (n : Nat) (l : List UInt8) (e : Ending) (w' : World) : Prop :=
  ∃ A' c', e = .returned (.slice A' n c') ∧ w'.ownsRow w.heap.size 5 1 (.slice A' n c') n (cells l) ∧ Below w.heap.size w w'

set_option maxHeartbeats 400000 in
/-- slices.Clone, of bytes. -/
theorem clone_any (P : Nat → Prop) (A : Option Addr) (n c : Nat) (l : List UInt8) (w : World) (h : Src w P A n c (cells l)) (hn : n ≤ 140737488355328) :
    Calls Tryz.prog 36 #[.slice A n c] w (Cloned w n l) := by
  obtain ⟨i0, hi, hz0, hz1, hz2⟩ := info_parts Tryz.info_byte
  have hq := @Lib.run_eql_slice_nil Tryz.prog
  cases A with
  | none =>
    obtain ⟨rfl, rfl⟩ := h.nil rfl
    have h0 := h.len
    go_enter Tryz.func36, Tryz.ntmps36
    go_wp2
    go_ret
    exact ⟨none, 0, rfl, ⟨by simpa using h0, .inl ⟨rfl, rfl⟩⟩, Below.refl _ _⟩
  | some ad =>
    have hs : Src (w.alloc (.cells #[] 5)) (fun k => k < w.heap.size) (some ad) n c (cells l) :=
      ⟨h.len, h.nil, h.cap, fun ad' ha hn' => (by
        cases ha
        have hl : 0 < (cells l).length := by rw [h.len]; exact hn'
        have h1 := h.at_ ad rfl 0 _ (List.getElem?_eq_getElem hl)
        have h2 := World.block_lt_of_cell? w _ h1
        rw [addBlock] at h2
        exact h2), fun ad' ha j u hu => (by
        have h1 := h.at_ ad' ha j u hu
        rw [World.cell?_alloc_lt w _ _ (World.block_lt_of_cell? w _ h1)]
        exact h1)⟩
    have ho : (w.alloc (.cells #[] 5)).ownsRow w.heap.size 5 1 (.slice (some ⟨w.heap.size, 0, none⟩) 0 0) 0 [] :=
      ⟨rfl, .inr ⟨w.heap.size, 0, #[], rfl, Nat.le_refl _, heap_alloc_new _ _, Nat.le_refl _, Nat.zero_le _, rfl, rfl⟩⟩
    have h1 := cells_one l
    have m1 : 0 + n ≤ maxLen := by simp only [maxLen]; omega
    have m2 : (0 + n) * 1 ≤ 140737488355328 := by omega
    clear h
    go_enter Tryz.func36, Tryz.ntmps36
    go_wp2_with (at_builtin; refine wpList_append_src rfl (.tmp 5) (.tmp 6) _ rfl w.heap.size 5 i0 _ 1 Tryz.underlying22 hi hz0 hz1 hz2 rfl (.slice (some ⟨w.heap.size, 0, none⟩) 0 0) 0 [] rfl ho _ _ n c (cells l) rfl hs h1 m1 m2 (by simp) ?_; intro v' w1 hown hg hat; obtain ⟨A', c', rfl⟩ := own_slice hown)
    have hb : Below w.heap.size w w1 := ((Below.refl _ _).alloc (Nat.le_refl _) _).grown hg (by simp) (fun k hk => by cases hk; exact Nat.le_refl _)
    go_ret
    simp only [Nat.zero_add, List.nil_append] at hown ⊢
    exact ⟨A', c', rfl, hown, hb⟩

/-- What a writer has in memory: its first error, and its bytes. -/
structure Wr (w : World) (B g : Nat) (e : Int) (A : Option Addr) (c : Nat) (bs : List UInt8) : Prop where
  blk : w.heap[g]? = some (.cells #[.int .i64 e, .slice A bs.length c] 132 (0, 0))
  own : w.ownsRow B 5 1 (.slice A bs.length c) bs.length (cells bs)
  base : B ≤ w.heap.size

/-- A step that turns a writer's struct g, and its row, alone; the row is the same, or new. -/
structure Step (g : Nat) (w : World) (r : Option Nat) (w' : World) (r' : Option Nat) : Prop where
  os : w'.os = w.os
  tape : w'.tape = w.tape
  output : w'.output = w.output
  size : w.heap.size ≤ w'.heap.size
  block : ∀ k, k < w.heap.size → k ≠ g → r ≠ some k → w'.heap[k]? = w.heap[k]?
  row : r' = r ∨ ∃ k, w.heap.size ≤ k ∧ r' = some k
theorem Step.refl (g : Nat) (w : World) (r : Option Nat) : Step g w r w r := ⟨rfl, rfl, rfl, Nat.le_refl _, fun _ _ _ _ => rfl, .inl rfl⟩
theorem Step.trans {g : Nat} {a b c : World} {r s t : Option Nat} (h : Step g a r b s) (k : Step g b s c t) : Step g a r c t := by
  refine ⟨k.os.trans h.os, k.tape.trans h.tape, k.output.trans h.output, Nat.le_trans h.size k.size, fun i hi hg hr => ?_, ?_⟩
  · refine (k.block i (Nat.lt_of_lt_of_le hi h.size) hg ?_).trans (h.block i hi hg hr)
    rcases h.row with h1 | ⟨j, hj, h1⟩
    · rw [h1]; exact hr
    · rw [h1]; intro e; injection e with e; omega
  · rcases k.row with h1 | ⟨j, hj, h1⟩
    · rw [h1]; exact h.row
    · exact .inr ⟨j, Nat.le_trans h.size hj, h1⟩
theorem Step.below {g : Nat} {w w' : World} (h : Below w.heap.size w w') (r : Option Nat) : Step g w r w' r := ⟨h.os, h.tape, h.output, h.size, fun k hk _ _ => h.block k hk, .inl rfl⟩
theorem Step.alloc (g : Nat) (w : World) (r : Option Nat) (o : Obj) : Step g w r (w.alloc o) r := Step.below ((Below.refl _ _).alloc (Nat.le_refl _) _) r
section
variable {w w' : World} {B g : Nat} {e : Int} {A : Option Addr} {c : Nat} {bs : List UInt8}
theorem Wr.ne (h : Wr w B g e A c bs) : row A ≠ some g := by
  intro hr
  rcases h.own.2 with ⟨hv, _⟩ | ⟨g', cap, cur, hv, _, hh, _⟩
  · injection hv with h1; subst h1; cases hr
  · injection hv with h1
    subst h1
    injection hr with hr
    have hr' : g' = g := hr
    subst hr'
    rw [h.blk] at hh
    injection hh with hh
    injection hh with _ ht
    cases ht
theorem Wr.lt (h : Wr w B g e A c bs) : g < w.heap.size := by
  rcases Nat.lt_or_ge g w.heap.size with hlt | hge
  · exact hlt
  · have := h.blk; rw [Array.getElem?_eq_none hge] at this; cases this
theorem Wr.rowLt (h : Wr w B g e A c bs) : ∀ k, row A = some k → B ≤ k ∧ k < w.heap.size := by
  intro k hk; exact h.own.lt k (by rw [row_own]; exact hk)
theorem Wr.keep (h : Wr w B g e A c bs) (hs : w.heap.size ≤ w'.heap.size) (hg : w'.heap[g]? = w.heap[g]?) (hr : ∀ k, row A = some k → w'.heap[k]? = w.heap[k]?) : Wr w' B g e A c bs := by
  refine ⟨hg.trans h.blk, ⟨h.own.1, ?_⟩, Nat.le_trans h.base hs⟩
  rcases h.own.2 with h1 | ⟨g', cap, cur, hv, hb, hh, hx⟩
  · exact .inl h1
  · refine .inr ⟨g', cap, cur, hv, hb, (hr g' ?_).trans hh, hx⟩
    injection hv with h1
    subst h1
    rfl
theorem Wr.below (h : Wr w B g e A c bs) (hb : Below w.heap.size w w') : Wr w' B g e A c bs :=
  h.keep hb.size (hb.block g h.lt) fun k hk => hb.block k (h.rowLt k hk).2
theorem Wr.alloc (h : Wr w B g e A c bs) (o : Obj) : Wr (w.alloc o) B g e A c bs := h.below ((Below.refl _ _).alloc (Nat.le_refl _) _)
theorem Wr.more (h : Wr w B g e A c bs) {B' : Nat} (hB : B' ≤ B) : Wr w B' g e A c bs := by
  refine ⟨h.blk, ⟨h.own.1, ?_⟩, Nat.le_trans hB h.base⟩
  rcases h.own.2 with h1 | ⟨g', cap, cur, hv, hb, hh, hx⟩
  · exact .inl h1
  · exact .inr ⟨g', cap, cur, hv, Nat.le_trans hB hb, hh, hx⟩
end

/-- The writer at g, which had the row A in w, has in w' that error and those bytes; nothing else has turned. -/
def At (w : World) (B g : Nat) (A : Option Addr) (e' : Int) (bs' : List UInt8) (w' : World) : Prop := ∃ A' c', Wr w' B g e' A' c' bs' ∧ Step g w (row A) w' (row A')
/-- Behind a call of a writer. -/
def Wrote (w : World) (B g : Nat) (A : Option Addr) (e' : Int) (bs' : List UInt8) (e : Ending) (w' : World) : Prop :=
  e = .returned (.tuple #[]) ∧ At w B g A e' bs' w'

set_option maxHeartbeats 400000 in
theorem raw_ok (B g : Nat) (A : Option Addr) (c : Nat) (bs : List UInt8) (P : Nat → Prop) (Ax : Option Addr) (n cx : Nat) (l : List UInt8) (w : World) (h : Wr w B g 0 A c bs) (hx : Src w P Ax n cx (cells l))
    (hn : bs.length + n ≤ 140737488355328) :
    Calls Tryz.prog 192 #[.pointer (some ⟨g, 0, none⟩), .slice Ax n cx] w (Wrote w B g A 0 (bs ++ l)) := by
  obtain ⟨i0, hi, hz0, hz1, hz2⟩ := info_parts Tryz.info_byte
  have h1 := cells_one l
  have hc0 : w.cell? ⟨g, 0, none⟩ = some (.int .i64 0) := cell_of_row w g 0 _ _ _ h.blk
  have hc1 : w.cell? ⟨g, 1, none⟩ = some (.slice A bs.length c) := cell_of_row w g 1 _ _ _ h.blk
  have m1 : bs.length + n ≤ maxLen := by simp only [maxLen]; omega
  have m2 : (bs.length + n) * 1 ≤ 140737488355328 := by omega
  have hgf : ∀ w1, w.grownBy w1 (row A) → w1.cell? ⟨g, 1, none⟩ = some (.slice A bs.length c) ∧ w1.frozen? ⟨g, 1, none⟩ = false := by
    intro w1 hg
    have hb := (hg.block g h.lt (fun e => h.ne e.symm)).trans h.blk
    exact ⟨cell_of_row _ _ 1 _ _ _ hb, frozen_of_row _ _ 1 _ _ hb⟩
  have H := Lib.hid h
  have HX := Lib.hid hx
  clear h hx
  go_enter Tryz.func192, Tryz.ntmps192
  go_wp2_with (first
    | (go_at_call 54; refine (failed_any g _ _ 0 _ H.out.blk rfl).mono ?_; rintro e w' ⟨rfl, rfl⟩)
    | (at_builtin; refine wpList_append_src rfl (.tmp 13) (.tmp 14) _ rfl B 5 i0 _ 1 Tryz.underlying22 hi hz0 hz1 hz2 rfl (.slice A bs.length c) bs.length (cells bs) rfl H.out.own _ _ n cx (cells l) rfl HX.out h1 m1 m2 H.out.base ?_; intro v' w1 hown hg hat; obtain ⟨A', c', rfl⟩ := own_slice hown; rw [row_own] at hg; rw [row_own, row_own] at hat; obtain ⟨g1, g2⟩ := hgf _ hg))
  go_end0
  have h := H.out
  obtain rfl : n = l.length := by have := HX.out.len; simpa [cells_len] using this.symm
  have hg0 := h.lt
  have hb := (hg.block g hg0 (fun e => h.ne e.symm)).trans h.blk
  have hne : row A' ≠ some g := by
    rcases hat with e | e
    · rw [e]; exact h.ne
    · rw [e]; intro e'; injection e' with e'; omega
  refine ⟨rfl, A', c', ⟨?_, ?_, ?_⟩, ?_⟩
  · have := heap_setCell_same w1 g 1 _ _ (.slice A' (bs.length + l.length) c') hb
    rw [this, List.length_append]
    rfl
  · rw [List.length_append, cells_app]
    exact ownsRow_setCell_other hown (by rw [row_own]; exact hne) _
  · have := hg.size
    have := h.base
    simp [World.setCell]
    omega
  · refine ⟨hg.os, hg.tape, hg.output, by have := hg.size; simp [World.setCell]; omega, fun k hk hk1 hk2 => ?_, ?_⟩
    · rw [heap_setCell_other _ _ _ _ hk1]
      exact hg.block k hk (fun e => hk2 e.symm)
    · rcases hat with e | e
      · exact .inl e
      · exact .inr ⟨_, Nat.le_refl _, e⟩

theorem raw_err (g : Nat) (cs : Array Value) (t : TypeId) (e : Int) (x : Value) (w : World) (h : w.heap[g]? = some (.cells cs t (0, 0))) (h0 : cs[0]? = some (.int .i64 e)) (he : (e != 0) = true) :
    Calls Tryz.prog 192 #[.pointer (some ⟨g, 0, none⟩), x] w fun en w' => en = .returned (.tuple #[]) ∧ w = w' := by
  have HH := Lib.hid h
  have HE := Lib.hid h0
  clear h h0
  go_enter Tryz.func192, Tryz.ntmps192
  go_wp2_with (go_at_call 54; refine (failed_any g _ _ e _ HH.out HE.out).mono ?_; rw [he]; rintro e w' ⟨rfl, rfl⟩)
  go_end0
  exact ⟨rfl, rfl⟩

/-- Bytes behind bytes, where nothing was wrong. -/
def putIf (e : Int) (bs l : List UInt8) : List UInt8 := if e = 0 then bs ++ l else bs

theorem raw_any (B g : Nat) (e : Int) (A : Option Addr) (c : Nat) (bs : List UInt8) (P : Nat → Prop) (Ax : Option Addr) (n cx : Nat) (l : List UInt8) (w : World) (h : Wr w B g e A c bs) (hx : Src w P Ax n cx (cells l))
    (hn : bs.length + n ≤ 140737488355328) :
    Calls Tryz.prog 192 #[.pointer (some ⟨g, 0, none⟩), .slice Ax n cx] w (Wrote w B g A e (putIf e bs l)) := by
  by_cases he : e = 0
  · subst he
    exact raw_ok B g A c bs P Ax n cx l w h hx hn
  · refine (raw_err g _ _ e _ w h.blk rfl (by simpa using he)).mono ?_
    rintro en w' ⟨rfl, rfl⟩
    refine ⟨rfl, A, c, ?_, Step.refl _ _ _⟩
    rw [putIf, if_neg he]
    exact h

/-- The byte of a number at place i, the lowest first. -/
def dig (n : Int) (i : Nat) : UInt8 := UInt8.ofNat (n / 2 ^ (8 * i) % 256).toNat
def digs (n : Int) (k : Nat) : List UInt8 := (List.range k).map (dig n)
theorem digs_succ (n : Int) (k : Nat) : digs n (k + 1) = digs n k ++ [dig n k] := by simp [digs, List.range_succ]
theorem digs_len (n : Int) (k : Nat) : (digs n k).length = k := by simp [digs]

theorem dig_val (n : Int) (i : Nat) : n / 2 ^ (8 * i) % 256 = ((dig n i).toNat : Int) := by
  unfold dig
  rw [UInt8.toNat_ofNat']
  omega
/-- A new block of one byte. -/
theorem src_one (w : World) (b : UInt8) (x : Int) (hx : x = (b.toNat : Int)) : Src (w.alloc (.cells #[.int .u8 x] 5)) (fun k => k = w.heap.size) (some ⟨w.heap.size, 0, none⟩) 1 1 (cells [b]) := by
  subst hx
  refine ⟨rfl, (by intro h; cases h), Nat.le_refl _, (by intro ad h _; cases h; rfl), ?_⟩
  intro ad h j u hj
  cases h
  exact cell_one_new w _ 5 j u hj

set_option maxHeartbeats 400000 in
theorem number_ok (B g : Nat) (e : Int) (A : Option Addr) (c : Nat) (bs : List UInt8) (size : Nat) (n : Int) (w : World) (h : Wr w B g e A c bs) (hs : sized size = true) (hi : I64 n) (hf : fitB size n = true)
    (hn : bs.length + 8 ≤ 140737488355328) :
    Calls Tryz.prog 154 #[.pointer (some ⟨g, 0, none⟩), .int .i64 size, .int .i64 n] w (Wrote w B g A e (putIf e bs (digs n size))) := by
  have h8 : size ≤ 8 := by simp only [sized, decide_eq_true_eq] at hs; omega
  have H := Lib.hid h
  have HI := Lib.hid hi
  have HS := Lib.hid hs
  have HF := Lib.hid hf
  clear h hi hs hf
  go_enter Tryz.func154, Tryz.ntmps154
  go_wp2_with (go_at_call 193; refine (fits_any size n _ HS.out HI.out).mono ?_; rw [HF.out]; rintro e w' ⟨rfl, rfl⟩)
  go_loopw [6, 16] (fun _ i wr => ∃ k : Nat, k ≤ size ∧ i = .int .i64 k ∧ At w B g A e (putIf e bs (digs n k)) wr) (fun _ i _ => size - (intOf i).toNat)
  case atStart =>
    refine ⟨0, Nat.zero_le _, rfl, A, c, ?_, Step.refl _ _ _⟩
    have : putIf e bs (digs n 0) = bs := by simp [putIf, digs]
    rw [this]
    exact H.out
  case round =>
    obtain ⟨k, hk, rfl, A', c', hw, hst⟩ := hrel
    have hl : (putIf e bs (digs n k)).length ≤ bs.length + k := by unfold putIf; split <;> simp [digs_len]
    have HW := Lib.hid hw
    have HST := Lib.hid hst
    have HSR := Lib.hid (src_one wr (dig n k) _ (dig_val n k))
    have hp : putIf e (putIf e bs (digs n k)) [dig n k] = putIf e bs (digs n (k + 1)) := by
      unfold putIf
      split
      · rw [digs_succ, List.append_assoc]
      · rfl
    have HP := Lib.hid hp
    clear hw hst hp
    by_cases hlt : k < size
    · have hl1 : (putIf e bs (digs n k)).length + 1 ≤ 140737488355328 := by omega
      clear hl
      go_wp2_with (go_at_call 192; refine (raw_any B g e A' c' _ _ _ 1 1 [dig n k] _ (HW.out.alloc _) HSR.out hl1).mono ?_; rw [HP.out]; rintro en w' ⟨rfl, A2, c2, hw2, hs2⟩; have HW2 := Lib.hid hw2; have HS2 := Lib.hid hs2; clear hw2 hs2)
      go_roundw
      case rel => exact ⟨k + 1, by omega, by go_num, A2, c2, HW2.out, (HST.out.trans (Step.alloc g wr _ _)).trans HS2.out⟩
      case measure => simp [intOf]; omega
    · obtain rfl : k = size := by omega
      go_wp2
      go_end0
      exact ⟨rfl, A', c', HW.out, HST.out⟩

theorem Wr.fail {w : World} {B g : Nat} {e : Int} {A : Option Addr} {c : Nat} {bs : List UInt8} (h : Wr w B g e A c bs) (k : Int) : At w B g A k bs (w.setCell ⟨g, 0, none⟩ (.int .i64 k)) := by
  refine ⟨A, c, ⟨?_, ?_, by have := h.base; simpa [World.setCell] using this⟩, rfl, rfl, rfl, by simp [World.setCell], fun i _ h1 _ => heap_setCell_other _ _ _ _ h1, .inl rfl⟩
  · have := heap_setCell_same w g 0 _ _ (.int .i64 k) h.blk
    rw [this]
    rfl
  · exact ownsRow_setCell_other h.own (by rw [row_own]; exact h.ne) _

theorem number_no (B g : Nat) (A : Option Addr) (c : Nat) (bs : List UInt8) (size n : Int) (w : World) (h : Wr w B g 0 A c bs) (hs : sized size = true) (hi : I64 n) (hf : fitB size n = false) :
    Calls Tryz.prog 154 #[.pointer (some ⟨g, 0, none⟩), .int .i64 size, .int .i64 n] w (Wrote w B g A 10 bs) := by
  have H := Lib.hid h
  have HI := Lib.hid hi
  have HS := Lib.hid hs
  have HF := Lib.hid hf
  clear h hi hs hf
  go_enter Tryz.func154, Tryz.ntmps154
  go_wp2_with (first
    | (go_at_call 193; refine (fits_any size n _ HS.out HI.out).mono ?_; rw [HF.out]; rintro e w' ⟨rfl, rfl⟩)
    | (go_at_call 127; refine (fail_first g _ _ 10 _ H.out.blk rfl).mono ?_; rintro e w' ⟨rfl, rfl⟩))
  go_end0
  exact ⟨rfl, H.out.fail 10⟩

theorem number_again (B g : Nat) (e : Int) (A : Option Addr) (c : Nat) (bs : List UInt8) (size n : Int) (w : World) (h : Wr w B g e A c bs) (he : e ≠ 0) (hs : sized size = true) (hi : I64 n) (hf : fitB size n = false) :
    Calls Tryz.prog 154 #[.pointer (some ⟨g, 0, none⟩), .int .i64 size, .int .i64 n] w (Wrote w B g A e bs) := by
  have H := Lib.hid h
  have HE := Lib.hid he
  have HI := Lib.hid hi
  have HS := Lib.hid hs
  have HF := Lib.hid hf
  clear h hi hs hf he
  go_enter Tryz.func154, Tryz.ntmps154
  go_wp2_with (first
    | (go_at_call 193; refine (fits_any size n _ HS.out HI.out).mono ?_; rw [HF.out]; rintro e w' ⟨rfl, rfl⟩)
    | (go_at_call 127; refine (fail_again g _ _ e 10 _ H.out.blk rfl HE.out).mono ?_; rintro e w' ⟨rfl, rfl⟩))
  go_end0
  exact ⟨rfl, A, c, H.out, Step.refl _ _ _⟩

/-- A writer's state: its first error, its bytes. -/
abbrev St := Int × List UInt8
def wNum1 (size : Nat) (n : Int) (s : St) : St := if s.1 = 0 then (if fitB size n = true then (0, s.2 ++ digs n size) else (10, s.2)) else s

theorem number_any (B g : Nat) (s : St) (A : Option Addr) (c : Nat) (size : Nat) (n : Int) (w : World) (h : Wr w B g s.1 A c s.2) (hs : sized size = true) (hi : I64 n)
    (hn : s.2.length + 8 ≤ 140737488355328) :
    Calls Tryz.prog 154 #[.pointer (some ⟨g, 0, none⟩), .int .i64 size, .int .i64 n] w (Wrote w B g A (wNum1 size n s).1 (wNum1 size n s).2) := by
  by_cases hf : fitB size n = true
  · refine (number_ok B g s.1 A c s.2 size n w h hs hi hf hn).mono ?_
    intro e w' hw
    have : wNum1 size n s = (s.1, putIf s.1 s.2 (digs n size)) := by
      unfold wNum1 putIf
      split
      · simp_all
      · rfl
    rw [this]
    exact hw
  · have hf' : fitB size n = false := by simpa using hf
    obtain ⟨e, bs⟩ := s
    by_cases he : e = 0
    · subst he
      refine (number_no B g A c bs size n w h hs hi hf').mono ?_
      intro e w' hw
      have : wNum1 size n (0, bs) = (10, bs) := by simp [wNum1, hf]
      rw [this]
      exact hw
    · refine (number_again B g e A c bs size n w h he hs hi hf').mono ?_
      intro e' w' hw
      have : wNum1 size n (e, bs) = (e, bs) := by simp [wNum1, he]
      rw [this]
      exact hw
end Go.Proofs.YtfljignkjmabpaaGreat
