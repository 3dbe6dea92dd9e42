/-
  Images: what they are, and how they lie in memory.
-/
import Derived.Test.YtpcgedngikpnoaaTF
import Derived.Test.YtpcgedngikpnoaaCD
import Derived.Deep.Cut
namespace Go.Proofs.Ytpcgedngikpnoaa
set_option maxRecDepth 100000
set_option linter.unusedSimpArgs false
set_option linter.unusedVariables false
open Go.RowKit

/-- A segment, a needed library, a relocation, a slot, an image. -/
structure Sg where
  at_ : Int
  size : Int
  bs : Str
  perm : Int
structure Nd where
  name : Str
  vers : List Str
structure Rl where
  at_ : Int
  kind : Int
  sym : Int
  add : Int
structure Sl where
  at_ : Int
  sym : Int
  stub : Int
structure Im where
  name : Str
  flags : Int
  segs : List Sg
  needed : List Nd
  run : List Str
  syms : List Sym
  rows : List (List Int)
  words : List UInt64
  shift : Int
  relocs : List Rl
  slots : List Sl
  init : List Int
  fini : List Int
  tls : Str
  tlsSize : Int
def noSg : Sg := ⟨0, 0, [], 0⟩
def noNd : Nd := ⟨[], []⟩
def noRl : Rl := ⟨0, 0, 0, 0⟩
def noSl : Sl := ⟨0, 0, 0⟩

abbrev sgA (s : Sg) (p : Option Addr × Nat) : Array Value := #[.int .i64 s.at_, .int .i64 s.size, .slice p.1 s.bs.length p.2, .int .i64 s.perm]
abbrev ndA (s : Nd) (p : Option Addr × Nat) : Array Value := #[str s.name, .slice p.1 s.vers.length p.2]
abbrev rlA (r : Rl) : Array Value := #[.int .i64 r.at_, .int .i64 r.kind, .int .i64 r.sym, .int .i64 r.add]
abbrev slA (r : Sl) : Array Value := #[.int .i64 r.at_, .int .i64 r.sym, .int .i64 r.stub]

/-- Elements of sz cells in memory, one behind the other. -/
structure Els (w : World) (P : Nat → Prop) (A : Option Addr) (n c sz : Nat) (E : Nat → Array Value) : Prop where
  nil : A = none → n = 0 ∧ c = 0
  cap : n ≤ c
  blk : ∀ ad, A = some ad → 0 < n → P ad.block
  at_ : ∀ ad, A = some ad → ∀ k, k < n → ∀ j u, (E k)[j]? = some u → w.cell? (ad.add (k * sz + j)) = some u
section
variable {w w' : World} {P Q : Nat → Prop} {A : Option Addr} {n c sz : Nat} {E : Nat → Array Value}
theorem Els.keep (h : Els w P A n c sz E) (hk : ∀ k, P k → k < w.heap.size → w'.heap[k]? = w.heap[k]?) : Els w' P A n c sz E :=
  ⟨h.nil, h.cap, h.blk, fun ad hA k hk' j u hu => by
    have h0 := h.at_ ad hA k hk' j u hu
    have hb := h.blk ad hA (by omega)
    have hh := World.block_lt_of_cell? w _ h0
    rw [addBlock] at hh
    exact (World.cell?_of_block (w := w) (w' := w') (by rw [addBlock]; exact hk _ hb hh)).trans h0⟩
theorem Els.weak (h : Els w P A n c sz E) (hk : ∀ k, P k → Q k) : Els w Q A n c sz E := ⟨h.nil, h.cap, fun ad hA hn => hk _ (h.blk ad hA hn), h.at_⟩
theorem Els.below {B : Nat} (h : Els w P A n c sz E) (hb : Below B w w') (hP : ∀ k, P k → k < B) : Els w' P A n c sz E :=
  h.keep fun k hk _ => hb.block k (hP k hk)
theorem Els.lt (h : Els w (fun k => k < w.heap.size) A n c sz E) (hb : Below w.heap.size w w') : Els w' (fun k => k < w'.heap.size) A n c sz E :=
  (h.keep fun k hk _ => hb.block k hk).weak fun _ hk => Nat.lt_of_lt_of_le hk hb.size
theorem Els.plain {ad : Addr} (h : Els w P (some ad) n c sz E) (h0 : 0 < n) {u : Value} (hu : (E 0)[0]? = some u) : ∃ b o, ad = ⟨b, o, none⟩ := by
  obtain ⟨b, o, spot⟩ := ad
  have hs : spot = none := by
    have h0 := World.cell?_spot (h.at_ _ rfl 0 h0 0 _ hu)
    simpa [Addr.add] using h0
  subst hs
  exact ⟨b, o, rfl⟩
theorem Els.get {b o : Nat} (h : Els w P (some ⟨b, o, none⟩) n c sz E) (k : Nat) (hk : k < n) (j : Nat) (u : Value) (hu : (E k)[j]? = some u) : w.cell? ⟨b, o + k * sz + j, none⟩ = some u := by
  have := h.at_ _ rfl k hk j u hu
  rwa [plainAdd, ← Nat.add_assoc] at this
end

/-- Segments: their places, and their bytes. -/
structure Sgs (w : World) (P : Nat → Prop) (A : Option Addr) (n c : Nat) (ss : List Sg) : Prop where
  len : ss.length = n
  ex : ∃ B : Nat → Option Addr × Nat, Els w P A n c 4 (fun k => sgA (ss.getD k noSg) (B k)) ∧ ∀ k, k < n → Src w P (B k).1 (ss.getD k noSg).bs.length (B k).2 (cells (ss.getD k noSg).bs)
/-- Needed libraries: their names and versions. -/
structure Nds (w : World) (P : Nat → Prop) (A : Option Addr) (n c : Nat) (ss : List Nd) : Prop where
  len : ss.length = n
  ex : ∃ B : Nat → Option Addr × Nat, Els w P A n c 2 (fun k => ndA (ss.getD k noNd) (B k)) ∧ ∀ k, k < n → Src w P (B k).1 (ss.getD k noNd).vers.length (B k).2 (strs (ss.getD k noNd).vers)
structure Rls (w : World) (P : Nat → Prop) (A : Option Addr) (n c : Nat) (ss : List Rl) : Prop where
  len : ss.length = n
  els : Els w P A n c 4 (fun k => rlA (ss.getD k noRl))
structure Sls (w : World) (P : Nat → Prop) (A : Option Addr) (n c : Nat) (ss : List Sl) : Prop where
  len : ss.length = n
  els : Els w P A n c 3 (fun k => slA (ss.getD k noSl))
section
variable {w w' : World} {P Q : Nat → Prop} {A : Option Addr} {n c : Nat}
theorem Sgs.keep {ss : List Sg} (h : Sgs w P A n c ss) (hk : ∀ k, P k → k < w.heap.size → w'.heap[k]? = w.heap[k]?) : Sgs w' P A n c ss := by
  obtain ⟨hl, B, h1, h2⟩ := h
  exact ⟨hl, B, h1.keep hk, fun k hk' => (h2 k hk').keep hk⟩
theorem Sgs.weak {ss : List Sg} (h : Sgs w P A n c ss) (hk : ∀ k, P k → Q k) : Sgs w Q A n c ss := by
  obtain ⟨hl, B, h1, h2⟩ := h
  exact ⟨hl, B, h1.weak hk, fun k hk' => (h2 k hk').weak hk⟩
theorem Nds.keep {ss : List Nd} (h : Nds w P A n c ss) (hk : ∀ k, P k → k < w.heap.size → w'.heap[k]? = w.heap[k]?) : Nds w' P A n c ss := by
  obtain ⟨hl, B, h1, h2⟩ := h
  exact ⟨hl, B, h1.keep hk, fun k hk' => (h2 k hk').keep hk⟩
theorem Nds.weak {ss : List Nd} (h : Nds w P A n c ss) (hk : ∀ k, P k → Q k) : Nds w Q A n c ss := by
  obtain ⟨hl, B, h1, h2⟩ := h
  exact ⟨hl, B, h1.weak hk, fun k hk' => (h2 k hk').weak hk⟩
theorem Rls.keep {ss : List Rl} (h : Rls w P A n c ss) (hk : ∀ k, P k → k < w.heap.size → w'.heap[k]? = w.heap[k]?) : Rls w' P A n c ss := ⟨h.len, h.els.keep hk⟩
theorem Rls.weak {ss : List Rl} (h : Rls w P A n c ss) (hk : ∀ k, P k → Q k) : Rls w Q A n c ss := ⟨h.len, h.els.weak hk⟩
theorem Sls.keep {ss : List Sl} (h : Sls w P A n c ss) (hk : ∀ k, P k → k < w.heap.size → w'.heap[k]? = w.heap[k]?) : Sls w' P A n c ss := ⟨h.len, h.els.keep hk⟩
theorem Sls.weak {ss : List Sl} (h : Sls w P A n c ss) (hk : ∀ k, P k → Q k) : Sls w Q A n c ss := ⟨h.len, h.els.weak hk⟩
theorem Syl.weak {ss : List Sym} (h : Syl w P A n c ss) (hk : ∀ k, P k → Q k) : Syl w Q A n c ss := ⟨h.len, h.nil, h.cap, fun ad hA hn => hk _ (h.blk ad hA hn), h.at_⟩
end

/-- Where an image's lists lie. -/
structure Pl where
  sg : Option Addr × Nat
  nd : Option Addr × Nat
  rp : Option Addr × Nat
  sy : Option Addr × Nat
  bk : Option Addr × Nat
  fw : Option Addr × Nat
  rl : Option Addr × Nat
  sl : Option Addr × Nat
  ini : Option Addr × Nat
  fin : Option Addr × Nat
  tl : Option Addr × Nat
abbrev imA (p : Pl) (x : Im) : Array Value := #[str x.name, .int .i64 x.flags, .slice p.sg.1 x.segs.length p.sg.2, .slice p.nd.1 x.needed.length p.nd.2, .slice p.rp.1 x.run.length p.rp.2, .slice p.sy.1 x.syms.length p.sy.2,
  .slice p.bk.1 x.rows.length p.bk.2, .slice p.fw.1 x.words.length p.fw.2, .int .i64 x.shift, .slice p.rl.1 x.relocs.length p.rl.2, .slice p.sl.1 x.slots.length p.sl.2, .slice p.ini.1 x.init.length p.ini.2, .slice p.fin.1 x.fini.length p.fin.2,
  .slice p.tl.1 x.tls.length p.tl.2, .int .i64 x.tlsSize]
abbrev imV (p : Pl) (x : Im) : Value := .agg (imA p x)
def rowF (rows : List (List Int)) (k : Nat) : List Int := rows.getD k []
/-- An image that can be read. -/
structure ImIn (w : World) (P : Nat → Prop) (p : Pl) (x : Im) : Prop where
  segs : Sgs w P p.sg.1 x.segs.length p.sg.2 x.segs
  needed : Nds w P p.nd.1 x.needed.length p.nd.2 x.needed
  run : Src w P p.rp.1 x.run.length p.rp.2 (strs x.run)
  syms : Syl w P p.sy.1 x.syms.length p.sy.2 x.syms
  tab : TabV w P p.bk.1 x.rows.length p.bk.2 p.fw.1 p.fw.2 (rowF x.rows) x.words
  relocs : Rls w P p.rl.1 x.relocs.length p.rl.2 x.relocs
  slots : Sls w P p.sl.1 x.slots.length p.sl.2 x.slots
  init : Src w P p.ini.1 x.init.length p.ini.2 (ints x.init)
  fini : Src w P p.fin.1 x.fini.length p.fin.2 (ints x.fini)
  tls : Src w P p.tl.1 x.tls.length p.tl.2 (cells x.tls)
theorem ImIn.keep {w w' : World} {P : Nat → Prop} {p : Pl} {x : Im} (h : ImIn w P p x) (hk : ∀ k, P k → k < w.heap.size → w'.heap[k]? = w.heap[k]?) : ImIn w' P p x :=
  ⟨h.segs.keep hk, h.needed.keep hk, h.run.keep hk, h.syms.keep hk, h.tab.keep hk, h.relocs.keep hk, h.slots.keep hk, h.init.keep hk, h.fini.keep hk, h.tls.keep hk⟩
theorem ImIn.weak {w : World} {P Q : Nat → Prop} {p : Pl} {x : Im} (h : ImIn w P p x) (hk : ∀ k, P k → Q k) : ImIn w Q p x :=
  ⟨h.segs.weak hk, h.needed.weak hk, h.run.weak hk, h.syms.weak hk, h.tab.weak hk, h.relocs.weak hk, h.slots.weak hk, h.init.weak hk, h.fini.weak hk, h.tls.weak hk⟩
theorem ImIn.lt {w w' : World} {p : Pl} {x : Im} (h : ImIn w (fun k => k < w.heap.size) p x) (hb : Below w.heap.size w w') : ImIn w' (fun k => k < w'.heap.size) p x :=
  (h.keep fun k hk _ => hb.block k hk).weak fun _ hk => Nat.lt_of_lt_of_le hk hb.size
/-- What every image that comes in keeps: each number is an int, no list is longer than what may come in. -/
def Long (n : Nat) : Prop := n ≤ 140737488351232
structure Fit (x : Im) : Prop where
  name : Long x.name.length
  flags : I64 x.flags
  segs : Long x.segs.length
  seg : ∀ s ∈ x.segs, I64 s.at_ ∧ I64 s.size ∧ I64 s.perm ∧ Long s.bs.length
  needed : Long x.needed.length
  need : ∀ s ∈ x.needed, Long s.name.length ∧ Long s.vers.length ∧ ∀ v ∈ s.vers, Long v.length
  run : Long x.run.length
  runs : ∀ s ∈ x.run, Long s.length
  syms : Long x.syms.length
  sym : ∀ s ∈ x.syms, Long s.name.length ∧ Long s.ver.length ∧ I64 s.kind ∧ I64 s.vis ∧ I64 s.val ∧ I64 s.size
  rows : Long x.rows.length
  row : ∀ r ∈ x.rows, Long r.length ∧ ∀ i ∈ r, I64 i
  words : Long x.words.length
  shift : I64 x.shift
  relocs : Long x.relocs.length
  reloc : ∀ r ∈ x.relocs, I64 r.at_ ∧ I64 r.kind ∧ I64 r.sym ∧ I64 r.add
  slots : Long x.slots.length
  slot : ∀ s ∈ x.slots, I64 s.at_ ∧ I64 s.sym ∧ I64 s.stub
  init : Long x.init.length
  inits : ∀ i ∈ x.init, I64 i
  fini : Long x.fini.length
  finis : ∀ i ∈ x.fini, I64 i
  tls : Long x.tls.length
  tlsSize : I64 x.tlsSize

/-- An image's box. -/
structure Ix (w : World) (g : Nat) (p : Pl) (x : Im) : Prop where
  bx : Bx w g (imA p x) 62
section
variable {w w' : World} {g : Nat} {p : Pl} {x : Im}
theorem Ix.new (w : World) (p : Pl) (x : Im) : Ix (w.alloc (.cells (imA p x) 62)) w.heap.size p x := ⟨Bx.new _ _ _⟩
theorem Ix.below (h : Ix w g p x) (hb : Below w.heap.size w w') : Ix w' g p x := ⟨h.bx.below hb⟩
theorem Ix.below' {B : Nat} (h : Ix w g p x) (hb : Below B w w') (hg : g < B) : Ix w' g p x := ⟨h.bx.below' hb hg⟩
theorem Ix.lt (h : Ix w g p x) : g < w.heap.size := h.bx.lt
theorem ibox_below (w : World) (p : Pl) (x : Im) : Below w.heap.size w (w.alloc (.cells (imA p x) 62)) := (Below.refl _ _).alloc (Nat.le_refl _) _
theorem Try.info_img : (Try.prog.info? 62).map (·.size) = some 15 := by kernel_rfl
theorem Ix.load (h : Ix w g p x) : (Instr.loadAt 62 (.pointer (some ⟨g, 0, none⟩))).run Try.prog w = .ok (imV p x) w := by
  simp only [Instr.loadAt, Instr.sureAddr, Sem.run_bind, Sem.run_pure, Result.andThen_ok]
  exact run_loadVar_row w g 62 62 _ (0, 0) _ h.bx Try.underlying62 rfl Try.info_img
theorem Ix.cells (h : Ix w g p x) : w.cell? ⟨g, 0, none⟩ = some (str x.name) ∧ w.cell? ⟨g, 1, none⟩ = some (.int .i64 x.flags) ∧ w.cell? ⟨g, 2, none⟩ = some (.slice p.sg.1 x.segs.length p.sg.2) ∧ w.cell? ⟨g, 3, none⟩ = some (.slice p.nd.1 x.needed.length p.nd.2) ∧
    w.cell? ⟨g, 4, none⟩ = some (.slice p.rp.1 x.run.length p.rp.2) ∧ w.cell? ⟨g, 5, none⟩ = some (.slice p.sy.1 x.syms.length p.sy.2) ∧ w.cell? ⟨g, 6, none⟩ = some (.slice p.bk.1 x.rows.length p.bk.2) ∧ w.cell? ⟨g, 7, none⟩ = some (.slice p.fw.1 x.words.length p.fw.2) ∧
    w.cell? ⟨g, 8, none⟩ = some (.int .i64 x.shift) ∧ w.cell? ⟨g, 9, none⟩ = some (.slice p.rl.1 x.relocs.length p.rl.2) ∧ w.cell? ⟨g, 10, none⟩ = some (.slice p.sl.1 x.slots.length p.sl.2) ∧ w.cell? ⟨g, 11, none⟩ = some (.slice p.ini.1 x.init.length p.ini.2) ∧
    w.cell? ⟨g, 12, none⟩ = some (.slice p.fin.1 x.fini.length p.fin.2) ∧ w.cell? ⟨g, 13, none⟩ = some (.slice p.tl.1 x.tls.length p.tl.2) ∧ w.cell? ⟨g, 14, none⟩ = some (.int .i64 x.tlsSize) :=
  ⟨h.bx.c 0, h.bx.c 1, h.bx.c 2, h.bx.c 3, h.bx.c 4, h.bx.c 5, h.bx.c 6, h.bx.c 7, h.bx.c 8, h.bx.c 9, h.bx.c 10, h.bx.c 11, h.bx.c 12, h.bx.c 13, h.bx.c 14⟩
end

def withB (n a b : Int) : Bool := decide (a ≤ n) && decide (n ≤ b)
end Go.Proofs.Ytpcgedngikpnoaa
