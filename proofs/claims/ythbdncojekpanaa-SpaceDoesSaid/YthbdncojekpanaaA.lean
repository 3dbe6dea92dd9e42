/-
  Blocks, as plain things and in memory.
-/
import Derived.Test.YthbdncojekpanaaCom
import Derived.IntWalk
import Derived.Deep.MidRow
namespace Go.Proofs.Ythbdncojekpanaa
open Go.RowKit

abbrev Str := List UInt8
/-- An int. -/
def I64 (n : Int) : Prop := -9223372036854775808 ≤ n ∧ n ≤ 9223372036854775807
def cells (l : Str) : List Value := l.map fun b => .int .u8 (b.toNat : Int)
theorem cells_len (l : Str) : (cells l).length = l.length := by simp [cells]

/-- A region, and the bytes of it that are kept. -/
structure Blk where
  at_ : Int
  size : Int
  perm : Int
  bytes : Str
def Blk.fin (b : Blk) : Int := b.at_ + b.size
/-- What may lie in a space: regions in increasing order, none of which reaches into the next one. -/
def Fits (b : Blk) : Prop := 4096 ≤ b.at_ ∧ b.at_ % 64 = 0 ∧ 64 ≤ b.size ∧ b.size % 64 = 0 ∧ b.size ≤ 1048576 ∧ b.at_ + b.size ≤ 4294967296 ∧ 0 ≤ b.perm ∧ b.perm ≤ 7 ∧ (b.bytes.length : Int) ≤ b.size
structure Laid (bs : List Blk) : Prop where
  fits : ∀ b ∈ bs, Fits b
  order : bs.Pairwise fun a b => a.at_ + a.size ≤ b.at_

/-- A block as it lies: where its bytes are. -/
structure Raw where
  b : Blk
  A : Option Addr
  c : Nat
abbrev rawC (r : Raw) : List Value := [.int .i64 r.b.at_, .int .i64 r.b.size, .int .i64 r.b.perm, .slice r.A r.b.bytes.length r.c]
def rcells (rs : List Raw) : List Value := rs.flatMap rawC
theorem rcells_len (rs : List Raw) : (rcells rs).length = rs.length * 4 := by
  induction rs with
  | nil => rfl
  | cons r rs ih =>
    have : rcells (r :: rs) = rawC r ++ rcells rs := rfl
    have h4 : (rawC r).length = 4 := rfl
    rw [this, List.length_append, h4, ih, List.length_cons]
    omega
theorem rcells_at (rs : List Raw) : ∀ (k : Nat) (hk : k < rs.length) (j : Nat), j < 4 → (rcells rs)[k * 4 + j]? = (rawC rs[k])[j]? := by
  induction rs with
  | nil => intro k hk; simp at hk
  | cons r rs ih =>
    intro k hk j hj
    have e : rcells (r :: rs) = rawC r ++ rcells rs := rfl
    rw [e]
    cases k with
    | zero => rw [Nat.zero_mul, Nat.zero_add, List.getElem?_append_left (by show j < 4; exact hj)]; rfl
    | succ k =>
      rw [List.getElem?_append_right (by show 4 ≤ _; omega)]
      have : (k + 1) * 4 + j - (rawC r).length = k * 4 + j := by show (k + 1) * 4 + j - 4 = _; omega
      rw [this]
      exact ih k (by simpa using hk) j hj

/-! Below. -/
theorem cell_below {w w' : World} (hb : Below w.heap.size w w') {a : Addr} {u : Value} (h : w.cell? a = some u) : w'.cell? a = some u := (hb.cell (World.block_lt_of_cell? w _ h)).trans h
theorem plainAdd (b o k : Nat) : (⟨b, o, none⟩ : Addr).add k = ⟨b, o + k, none⟩ := by unfold Addr.add; split <;> simp_all
theorem below_drew {B : Nat} {w w' : World} (h : Below B w w') : Below B w w'.drew := ⟨h.os, h.tape, h.output, h.size, h.block⟩
/-- A block that holds just these cells. -/
def Bx (w : World) (g : Nat) (cs : Array Value) (t : TypeId) : Prop := w.heap[g]? = some (.cells cs t (0, 0))
section
variable {w w' : World} {g : Nat} {cs : Array Value} {t : TypeId}
theorem Bx.new (w : World) (cs : Array Value) (t : TypeId) : Bx (w.alloc (.cells cs t)) w.heap.size cs t := heap_alloc_new _ _
theorem Bx.c (h : Bx w g cs t) (j : Nat) : w.cell? ⟨g, j, none⟩ = cs[j]? := cell_of_row w g j _ _ _ h
theorem Bx.f (h : Bx w g cs t) (j : Nat) : w.frozen? ⟨g, j, none⟩ = false := frozen_of_row w g j _ _ h
theorem Bx.lt (h : Bx w g cs t) : g < w.heap.size := by
  rcases Nat.lt_or_ge g w.heap.size with hlt | hge
  · exact hlt
  · have h' : w.heap[g]? = _ := h
    rw [Array.getElem?_eq_none hge] at h'; cases h'
theorem Bx.below (h : Bx w g cs t) (hb : Below w.heap.size w w') : Bx w' g cs t := (hb.block g h.lt).trans h
theorem Bx.alloc (h : Bx w g cs t) (o : Obj) : Bx (w.alloc o) g cs t := (Below.heap_alloc w o g h.lt).trans h
theorem Bx.other (h : Bx w g cs t) {a : Addr} (ha : g ≠ a.block) (u : Value) : Bx (w.setCell a u) g cs t := (Below.heap_setCell w a u g ha).trans h
end

/-- A slice of blocks that reads as this list. -/
structure Bls (w : World) (A : Option Addr) (n c : Nat) (rs : List Raw) : Prop where
  len : rs.length = n
  nil : A = none → n = 0 ∧ c = 0
  cap : n ≤ c
  at_ : ∀ b o j, A = some ⟨b, o, none⟩ → ∀ (hj : j < rs.length), w.cell? ⟨b, o + j * 4, none⟩ = some (.int .i64 rs[j].b.at_) ∧ w.cell? ⟨b, o + j * 4 + 1, none⟩ = some (.int .i64 rs[j].b.size) ∧ w.cell? ⟨b, o + j * 4 + 2, none⟩ = some (.int .i64 rs[j].b.perm) ∧ w.cell? ⟨b, o + j * 4 + 3, none⟩ = some (.slice rs[j].A rs[j].b.bytes.length rs[j].c)
  plain : ∀ ad, A = some ad → ∃ b o, ad = ⟨b, o, none⟩
theorem Bls.below {w w' : World} {A : Option Addr} {n c : Nat} {rs : List Raw} (h : Bls w A n c rs) (hb : Below w.heap.size w w') : Bls w' A n c rs :=
  ⟨h.len, h.nil, h.cap, fun b o j hA hj => by
    obtain ⟨h0, h1, h2, h3⟩ := h.at_ b o j hA hj
    exact ⟨cell_below hb h0, cell_below hb h1, cell_below hb h2, cell_below hb h3⟩, h.plain⟩
theorem Bls.of_own {w : World} {B : Nat} {A : Option Addr} {c : Nat} {rs : List Raw} (h : w.ownsRow B 69 4 (.slice A rs.length c) rs.length (rcells rs)) : Bls w A rs.length c rs := by
  rcases h.2 with ⟨hv, h0⟩ | ⟨g, cap, cur, hv, _, _, hle, _⟩
  · injection hv with h1 _ h2
    subst h1 h2
    exact ⟨rfl, fun _ => ⟨h0, rfl⟩, by omega, (by intro b o j hA; cases hA), (by intro ad hA; cases hA)⟩
  · injection hv with h1 _ h2
    subst h1 h2
    refine ⟨rfl, (by intro hA; cases hA), hle, ?_, (by intro ad hA; cases hA; exact ⟨_, _, rfl⟩)⟩
    intro b o j hA hj
    cases hA
    have hc := h.cells (g := g) rfl
    have e := fun i hi => rcells_at rs j hj i hi
    have k := fun i u (hu : (rcells rs)[j * 4 + i]? = some u) => hc (j * 4 + i) u hu
    have k0 := k 0 _ (e 0 (by omega))
    have k1 := k 1 _ (e 1 (by omega))
    have k2 := k 2 _ (e 2 (by omega))
    have k3 := k 3 _ (e 3 (by omega))
    rw [plainAdd] at k0 k1 k2 k3
    simp only [Nat.zero_add, Nat.add_zero, ← Nat.add_assoc] at k0 k1 k2 k3 ⊢
    exact ⟨k0, k1, k2, k3⟩
end Go.Proofs.Ythbdncojekpanaa
