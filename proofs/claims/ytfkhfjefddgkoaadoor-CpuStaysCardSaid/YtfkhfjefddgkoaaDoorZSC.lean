/-
  What is said of slices in memory, whatever the program: a slice that reads as a list of cells, and what a row of the call's own is.
  Blocks, as plain things and in memory.
  The small functions; where an address stands among the blocks.
  Where an address stands among the blocks: the library's search, and position.
-/
import Derived.Test.YtfkhfjefddgkoaaDoorRows
import Derived.WalkKit
import Derived.Lib.Hide
import Derived.WalkSpells
import Derived.Maps.AppendAt
import Derived.Deep.AppendLies
import Derived.Deep.Draws
import Derived.Deep.QuietTactic
import Derived.BigQuiet
import Derived.Laws.Rows
import Derived.Laws.AppendOwnNone
import Derived.Lib.LazyBuf
import Derived.OneCell
import Derived.IntWalk
import Derived.Deep.MidRow
namespace Go.Proofs.YtfkhfjefddgkoaaDoor
open Go.RowKit

/-- A slice that reads as the cells xs; P holds of the block that they lie in. -/
structure Src (w : World) (P : Nat → Prop) (A : Option Addr) (n c : Nat) (xs : List Value) : Prop where
  len : xs.length = n
  nil : A = none → n = 0 ∧ c = 0
  cap : n ≤ c
  blk : ∀ ad, A = some ad → 0 < n → P ad.block
  at_ : ∀ ad, A = some ad → ∀ j u, xs[j]? = some u → w.cell? (ad.add j) = some u
theorem addBlock (a : Addr) (n : Nat) : (a.add n).block = a.block := by unfold Addr.add; split <;> rfl
section
variable {w w' : World} {P Q : Nat → Prop} {A : Option Addr} {n c : Nat} {xs : List Value}
theorem Src.keep (h : Src w P A n c xs) (hk : ∀ k, P k → k < w.heap.size → w'.heap[k]? = w.heap[k]?) : Src w' P A n c xs :=
  ⟨h.len, h.nil, h.cap, h.blk, fun ad hA j u hu => by
    have h1 := h.at_ ad hA j u hu
    have hj : j < xs.length := (List.getElem?_eq_some_iff.1 hu).1
    have hb := h.blk ad hA (by rw [← h.len]; omega)
    rw [World.cell?_of_block (hk _ (by rw [addBlock]; exact hb) (World.block_lt_of_cell? w _ h1))]
    exact h1⟩
theorem Src.weak (h : Src w P A n c xs) (hk : ∀ k, P k → Q k) : Src w Q A n c xs := ⟨h.len, h.nil, h.cap, fun ad hA hn => hk _ (h.blk ad hA hn), h.at_⟩
theorem Src.of_own {base : Nat} {e : TypeId} (h : w.ownsRow base e 1 (.slice A n c) n xs) : Src w (fun k => (Value.slice A n c).ownBlock = some k ∧ base ≤ k ∧ k < w.heap.size) A n c xs := by
  refine ⟨by simpa using h.1, fun hA => ?_, ?_, fun ad hA _ => ?_, fun ad hA => ?_⟩
  · rcases h.2 with ⟨hv, h0⟩ | ⟨g, cap, cur, hv, _⟩
    · injection hv with _ _ hc
      exact ⟨h0, hc⟩
    · subst hA; injection hv with h1; cases h1
  · rcases h.2 with ⟨hv, h0⟩ | ⟨g, cap, cur, hv, _, _, hle, _⟩
    · omega
    · injection hv with _ _ hc; subst hc; exact hle
  · subst hA
    exact ⟨rfl, h.lt ad.block rfl⟩
  · subst hA
    rcases h.2 with ⟨hv, h0⟩ | ⟨g, cap, cur, hv, _⟩
    · cases hv
    · have := h.cells (g := ad.block) rfl
      injection hv with h1
      injection h1 with h1
      subst h1
      exact this
/-- Whatever owns a row is a slice. -/
theorem own_slice {base : Nat} {e : TypeId} {v : Value} (h : w.ownsRow base e 1 v n xs) : ∃ A c, v = .slice A n c := by
  rcases h.2 with ⟨rfl, rfl⟩ | ⟨g, cap, cur, rfl, _⟩
  · exact ⟨_, _, rfl⟩
  · exact ⟨_, _, rfl⟩
end

/-- An append of whatever can be read, nil or not, onto a row of the call's own. -/
theorem wpList_append_src {Pr : Program} {w : World} {ops : Array Oper} {rest : List Oper} {o : Oper} {a : Act} {Q : Exit → Act → World → Prop} (hgd : o.guard = none) (s x : Operand) (t : TypeId)
    (ho : o.op = .call { callee := .builtin .append, args := #[s, x], argTypes := #[t, t] })
    (base : Nat) (e : TypeId) (i : TypeInfo) (z : Value) (bytes : Nat) (ht : Pr.underlying t = some (.slice e)) (hi : Pr.info? e = some i) (hz : i.zero = some z)
    (hsize : i.size = 1) (hby : i.bytes = bytes) (hzs : z.cells.size = 1)
    (v : Value) (n : Nat) (xs : List Value) (hs : a.eval s = v) (hown : w.ownsRow base e 1 v n xs)
    (P : Nat → Prop) (A : Option Addr) (m c : Nat) (news : List Value) (hx : a.eval x = .slice A m c) (hr : Src w P A m c news) (h1 : ∀ u ∈ news, u.oneCell' = true)
    (h63 : n + m ≤ maxLen) (hbytes : (n + m) * bytes ≤ 140737488355328) (hbase : base ≤ w.heap.size)
    (h : ∀ v' w', w'.ownsRow base e 1 v' (n + m) (xs ++ news) → w.grownBy w' v.ownBlock → (v'.ownBlock = v.ownBlock ∨ v'.ownBlock = some w.heap.size) → wpList Pr ops Q rest (a.put o.dst v') w') : wpList Pr ops Q (o :: rest) a w := by
  cases A with
  | none =>
    obtain ⟨rfl, rfl⟩ := hr.nil rfl
    have hn : news = [] := List.eq_nil_of_length_eq_zero hr.len
    subst hn
    exact wpList_append_own_none hgd s x t ho base e i 1 ht hi v n xs hs hown hx (h v w (by simpa using hown) (World.grownBy.refl w _) (.inl rfl))
  | some ad =>
    exact wpList_append_own_at w hgd s x t ho base e i z 1 bytes ht hi hz hsize hby hzs (by omega) v n xs hs hown ad m c news hx (by simpa using hr.len) (hr.at_ ad rfl) h1 h63 hbytes hbase fun v' w' a1 a2 _ a3 => h v' w' a1 a2 a3

def row (A : Option Addr) : Option Nat := A.map (·.block)
theorem row_own (A : Option Addr) (n c : Nat) : (Value.slice A n c).ownBlock = row A := by cases A <;> rfl

theorem own_more {w : World} {B B' : Nat} {e : TypeId} {sz : Nat} {v : Value} {n : Nat} {xs : List Value} (h : w.ownsRow B e sz v n xs) (hB : B' ≤ B) : w.ownsRow B' e sz v n xs := by
  refine ⟨h.1, ?_⟩
  rcases h.2 with h1 | ⟨g', cap, cur, hv, hb, hh, hx⟩
  · exact .inl h1
  · exact .inr ⟨g', cap, cur, hv, Nat.le_trans hB hb, hh, hx⟩
theorem drew_below (w : World) : Below w.heap.size w w.drew := ⟨rfl, rfl, rfl, Nat.le_refl _, fun _ _ => rfl⟩
theorem drewN_below (w : World) (n : Nat) : Below w.heap.size w (w.drewN n) := ⟨rfl, rfl, rfl, Nat.le_refl _, fun _ _ => rfl⟩
theorem below_drewN {B : Nat} {a w : World} (h : Below B a w) (n : Nat) : Below B a (w.drewN n) := ⟨h.os, h.tape, h.output, h.size, h.block⟩
theorem Src.below {w w' : World} {P : Nat → Prop} {A : Option Addr} {n c : Nat} {xs : List Value} {B : Nat} (h : Src w P A n c xs) (hb : Below B w w') (hP : ∀ k, P k → k < B) : Src w' P A n c xs :=
  h.keep fun k hk _ => hb.block k (hP k hk)
theorem Src.lt {w : World} {P : Nat → Prop} {A : Option Addr} {n c : Nat} {xs : List Value} (h : Src w P A n c xs) : Src w (fun k => k < w.heap.size) A n c xs :=
  ⟨h.len, h.nil, h.cap, fun ad hA hn => (by
    have hl : 0 < xs.length := by rw [h.len]; exact hn
    have h1 := h.at_ ad hA 0 _ (List.getElem?_eq_getElem hl)
    have h2 := World.block_lt_of_cell? w _ h1
    rw [addBlock] at h2
    exact h2), h.at_⟩
end Go.Proofs.YtfkhfjefddgkoaaDoor

namespace Go.Proofs.YtfkhfjefddgkoaaDoor
open Go.RowKit

abbrev Str := List UInt8
/-- An int. -/
def I64 (n : Int) : Prop := -9223372036854775808 ≤ n ∧ n ≤ 9223372036854775807
def cells (l : Str) : List Value := l.map fun b => .int .u8 (b.toNat : Int)
theorem cells_len (l : Str) : (cells l).length = l.length := by simp [cells]

/-- A region, and the bytes of it that are kept. -/
structure Blk where
  at_ : Int
  size : Int
  perm : Int
  bytes : Str
def Blk.fin (b : Blk) : Int := b.at_ + b.size
/-- What may lie in a space: regions in increasing order, none of which reaches into the next one. -/
def Fits (b : Blk) : Prop := 4096 ≤ b.at_ ∧ b.at_ % 64 = 0 ∧ 64 ≤ b.size ∧ b.size % 64 = 0 ∧ b.size ≤ 1048576 ∧ b.at_ + b.size ≤ 4294967296 ∧ 0 ≤ b.perm ∧ b.perm ≤ 7 ∧ (b.bytes.length : Int) ≤ b.size
structure Laid (bs : List Blk) : Prop where
  fits : ∀ b ∈ bs, Fits b
  order : bs.Pairwise fun a b => a.at_ + a.size ≤ b.at_

/-- A block as it lies: where its bytes are. -/
structure Raw where
  b : Blk
  A : Option Addr
  c : Nat
abbrev rawC (r : Raw) : List Value := [.int .i64 r.b.at_, .int .i64 r.b.size, .int .i64 r.b.perm, .slice r.A r.b.bytes.length r.c]
def rcells (rs : List Raw) : List Value := rs.flatMap rawC
theorem rcells_len (rs : List Raw) : (rcells rs).length = rs.length * 4 := by
  induction rs with
  | nil => rfl
  | cons r rs ih =>
    have : rcells (r :: rs) = rawC r ++ rcells rs := rfl
    have h4 : (rawC r).length = 4 := rfl
    rw [this, List.length_append, h4, ih, List.length_cons]
    omega
theorem rcells_at (rs : List Raw) : ∀ (k : Nat) (hk : k < rs.length) (j : Nat), j < 4 → (rcells rs)[k * 4 + j]? = (rawC rs[k])[j]? := by
  induction rs with
  | nil => intro k hk; simp at hk
  | cons r rs ih =>
    intro k hk j hj
    have e : rcells (r :: rs) = rawC r ++ rcells rs := rfl
    rw [e]
    cases k with
    | zero => rw [Nat.zero_mul, Nat.zero_add, List.getElem?_append_left (by show j < 4; exact hj)]; rfl
    | succ k =>
      rw [List.getElem?_append_right (by show 4 ≤ _; omega)]
      have : (k + 1) * 4 + j - (rawC r).length = k * 4 + j := by show (k + 1) * 4 + j - 4 = _; omega
      rw [this]
      exact ih k (by simpa using hk) j hj

/-! Below. -/
theorem cell_below {w w' : World} (hb : Below w.heap.size w w') {a : Addr} {u : Value} (h : w.cell? a = some u) : w'.cell? a = some u := (hb.cell (World.block_lt_of_cell? w _ h)).trans h
theorem plainAdd (b o k : Nat) : (⟨b, o, none⟩ : Addr).add k = ⟨b, o + k, none⟩ := by unfold Addr.add; split <;> simp_all
theorem below_drew {B : Nat} {w w' : World} (h : Below B w w') : Below B w w'.drew := ⟨h.os, h.tape, h.output, h.size, h.block⟩
/-- A block that holds just these cells. -/
def Bx (w : World) (g : Nat) (cs : Array Value) (t : TypeId) : Prop := w.heap[g]? = some (.cells cs t (0, 0))
section
variable {w w' : World} {g : Nat} {cs : Array Value} {t : TypeId}
theorem Bx.new (w : World) (cs : Array Value) (t : TypeId) : Bx (w.alloc (.cells cs t)) w.heap.size cs t := heap_alloc_new _ _
theorem Bx.c (h : Bx w g cs t) (j : Nat) : w.cell? ⟨g, j, none⟩ = cs[j]? := cell_of_row w g j _ _ _ h
theorem Bx.f (h : Bx w g cs t) (j : Nat) : w.frozen? ⟨g, j, none⟩ = false := frozen_of_row w g j _ _ h
theorem Bx.lt (h : Bx w g cs t) : g < w.heap.size := by
  rcases Nat.lt_or_ge g w.heap.size with hlt | hge
  · exact hlt
  · have h' : w.heap[g]? = _ := h
    rw [Array.getElem?_eq_none hge] at h'; cases h'
theorem Bx.below (h : Bx w g cs t) (hb : Below w.heap.size w w') : Bx w' g cs t := (hb.block g h.lt).trans h
theorem Bx.alloc (h : Bx w g cs t) (o : Obj) : Bx (w.alloc o) g cs t := (Below.heap_alloc w o g h.lt).trans h
theorem Bx.other (h : Bx w g cs t) {a : Addr} (ha : g ≠ a.block) (u : Value) : Bx (w.setCell a u) g cs t := (Below.heap_setCell w a u g ha).trans h
end

/-- A slice of blocks that reads as this list. -/
structure Bls (w : World) (A : Option Addr) (n c : Nat) (rs : List Raw) : Prop where
  len : rs.length = n
  nil : A = none → n = 0 ∧ c = 0
  cap : n ≤ c
  at_ : ∀ b o j, A = some ⟨b, o, none⟩ → ∀ (hj : j < rs.length), w.cell? ⟨b, o + j * 4, none⟩ = some (.int .i64 rs[j].b.at_) ∧ w.cell? ⟨b, o + j * 4 + 1, none⟩ = some (.int .i64 rs[j].b.size) ∧ w.cell? ⟨b, o + j * 4 + 2, none⟩ = some (.int .i64 rs[j].b.perm) ∧ w.cell? ⟨b, o + j * 4 + 3, none⟩ = some (.slice rs[j].A rs[j].b.bytes.length rs[j].c)
  plain : ∀ ad, A = some ad → ∃ b o, ad = ⟨b, o, none⟩
theorem Bls.below {w w' : World} {A : Option Addr} {n c : Nat} {rs : List Raw} (h : Bls w A n c rs) (hb : Below w.heap.size w w') : Bls w' A n c rs :=
  ⟨h.len, h.nil, h.cap, fun b o j hA hj => by
    obtain ⟨h0, h1, h2, h3⟩ := h.at_ b o j hA hj
    exact ⟨cell_below hb h0, cell_below hb h1, cell_below hb h2, cell_below hb h3⟩, h.plain⟩
theorem Bls.of_own {w : World} {B : Nat} {A : Option Addr} {c : Nat} {rs : List Raw} (h : w.ownsRow B 122 4 (.slice A rs.length c) rs.length (rcells rs)) : Bls w A rs.length c rs := by
  rcases h.2 with ⟨hv, h0⟩ | ⟨g, cap, cur, hv, _, _, hle, _⟩
  · injection hv with h1 _ h2
    subst h1 h2
    exact ⟨rfl, fun _ => ⟨h0, rfl⟩, by omega, (by intro b o j hA; cases hA), (by intro ad hA; cases hA)⟩
  · injection hv with h1 _ h2
    subst h1 h2
    refine ⟨rfl, (by intro hA; cases hA), hle, ?_, (by intro ad hA; cases hA; exact ⟨_, _, rfl⟩)⟩
    intro b o j hA hj
    cases hA
    have hc := h.cells (g := g) rfl
    have e := fun i hi => rcells_at rs j hj i hi
    have k := fun i u (hu : (rcells rs)[j * 4 + i]? = some u) => hc (j * 4 + i) u hu
    have k0 := k 0 _ (e 0 (by omega))
    have k1 := k 1 _ (e 1 (by omega))
    have k2 := k 2 _ (e 2 (by omega))
    have k3 := k 3 _ (e 3 (by omega))
    rw [plainAdd] at k0 k1 k2 k3
    simp only [Nat.zero_add, Nat.add_zero, ← Nat.add_assoc] at k0 k1 k2 k3 ⊢
    exact ⟨k0, k1, k2, k3⟩
end Go.Proofs.YtfkhfjefddgkoaaDoor

namespace Go.Proofs.YtfkhfjefddgkoaaDoor
open Go.RowKit

def sizeB (n : Int) : Bool := decide (1 ≤ n) && decide (n ≤ 1048576)
def permB (p : Int) : Bool := decide (0 ≤ p) && decide (p ≤ 7)
theorem isSize_any (n : Int) (w : World) : Calls Tryd.prog 40 #[.int .i64 n] w fun e w' => e = .returned (.bool (sizeB n)) ∧ w = w' := by
  have hm := Lib.hid (show sizeB n = (decide (1 ≤ n) && decide (n ≤ 1048576)) from rfl)
  go_enter Tryd.func40, Tryd.ntmps40
  go_wp2
  all_goals
    go_ret
    refine ⟨?_, rfl⟩
    refine congrArg (fun b => Ending.returned (Value.bool b)) ?_
    rw [hm.out, Bool.eq_iff_iff]
    simp
    try omega
theorem isPerm_any (p : Int) (w : World) : Calls Tryd.prog 41 #[.int .i64 p] w fun e w' => e = .returned (.bool (permB p)) ∧ w = w' := by
  have hm := Lib.hid (show permB p = (decide (0 ≤ p) && decide (p ≤ 7)) from rfl)
  go_enter Tryd.func41, Tryd.ntmps41
  go_wp2
  all_goals
    go_ret
    refine ⟨?_, rfl⟩
    refine congrArg (fun b => Ending.returned (Value.bool b)) ?_
    rw [hm.out, Bool.eq_iff_iff]
    simp
    try omega
/-- A size, rounded up. -/
def up (n : Int) : Int := (n + 63) / 64 * 64
theorem rounded_any (n : Int) (h1 : 1 ≤ n) (h2 : n ≤ 1048576) (w : World) : Calls Tryd.prog 73 #[.int .i64 n] w fun e w' => e = .returned (.int .i64 (up n)) ∧ w = w' := by
  have e1 : wrap64 (n + 64) = n + 64 := IntWalk.wrap64_in _ (by omega)
  have e2 : wrap64 (n + 64 - 1) = n + 64 - 1 := IntWalk.wrap64_in _ (by omega)
  have e3 : (n + 64 - 1).tdiv 64 = (n + 64 - 1) / 64 := Int.tdiv_eq_ediv_of_nonneg (by omega)
  have e4 : wrap64 ((n + 64 - 1) / 64) = (n + 64 - 1) / 64 := IntWalk.wrap64_in _ (by omega)
  have e5 : wrap64 ((n + 64 - 1) / 64 * 64) = (n + 64 - 1) / 64 * 64 := IntWalk.wrap64_in _ (by omega)
  have hu := Lib.hid (show up n = (n + 64 - 1) / 64 * 64 by unfold up; rw [show n + 64 - 1 = n + 63 by omega])
  go_enter Tryd.func73, Tryd.ntmps73
  go_wp2
  go_ret
  exact ⟨by rw [hu.out]; simp [*], rfl⟩
def cmp3 (a b : Int) : Int := if a < b then -1 else if b < a then 1 else 0
theorem compare_any (a b : Int) (w : World) : Calls Tryd.prog 91 #[.int .i64 a, .int .i64 b] w fun e w' => e = .returned (.int .i64 (cmp3 a b)) ∧ w = w' := by
  have hn : ∀ x : Int, (x != x) = false := by intro x; simp
  have na := hn a
  have nb := hn b
  clear hn
  by_cases h1 : a < b
  · have hc := Lib.hid (show cmp3 a b = -1 by unfold cmp3; rw [if_pos h1])
    go_enter Tryd.func91, Tryd.ntmps91
    go_wp2
    go_ret
    exact ⟨by rw [hc.out]; rfl, rfl⟩
  · by_cases h2 : b < a
    · have hc := Lib.hid (show cmp3 a b = 1 by unfold cmp3; rw [if_neg h1, if_pos h2])
      go_enter Tryd.func91, Tryd.ntmps91
      go_wp2
      go_ret
      exact ⟨by rw [hc.out]; rfl, rfl⟩
    · have hc := Lib.hid (show cmp3 a b = 0 by unfold cmp3; rw [if_neg h1, if_neg h2])
      go_enter Tryd.func91, Tryd.ntmps91
      go_wp2
      go_ret
      exact ⟨by rw [hc.out]; rfl, rfl⟩
abbrev rawV (r : Raw) : Value := .agg #[.int .i64 r.b.at_, .int .i64 r.b.size, .int .i64 r.b.perm, .slice r.A r.b.bytes.length r.c]
theorem position1_any (a s p : Int) (v : Value) (at_ : Int) (w : World) : Calls Tryd.prog 90 #[.agg #[.int .i64 a, .int .i64 s, .int .i64 p, v], .int .i64 at_] w fun e w' => e = .returned (.int .i64 (cmp3 a at_)) ∧ Below w.heap.size w w' := by
  have HC := Lib.hid (fun w1 => compare_any a at_ w1)
  have hb := Lib.hid ((Below.refl w.heap.size w).alloc (Nat.le_refl _) (.cells #[.int .i64 a, .int .i64 s, .int .i64 p, v] 122))
  go_enter Tryd.func90, Tryd.ntmps90
  go_wp2_with fail
  refine (HC.out _).mono ?_
  rintro e w1 ⟨rfl, rfl⟩
  go_wp2_with fail
  go_ret
  exact ⟨rfl, hb.out⟩
end Go.Proofs.YtfkhfjefddgkoaaDoor

namespace Go.Proofs.YtfkhfjefddgkoaaDoor
open Go.RowKit

/-- Where an address stands: all regions ahead begin below it, all from there on do not. -/
structure Pos (rs : List Raw) (a : Int) (i : Nat) (f : Bool) : Prop where
  le : i ≤ rs.length
  lo : ∀ (k : Nat) (hk : k < rs.length), k < i → rs[k].b.at_ < a
  hi : ∀ (k : Nat) (hk : k < rs.length), i ≤ k → a ≤ rs[k].b.at_
  hit : f = true ↔ ∃ hk : i < rs.length, rs[i].b.at_ = a
/-- In order by their beginnings. -/
def Asc (rs : List Raw) : Prop := ∀ (j k : Nat) (hj : j < rs.length) (hk : k < rs.length), j < k → rs[j].b.at_ < rs[k].b.at_

set_option maxRecDepth 100000 in
set_option maxHeartbeats 2000000 in
theorem search_any (A : Option Addr) (n c : Nat) (rs : List Raw) (a : Int) (w : World) (h : Bls w A n c rs) (hs : Asc rs) (hn : n ≤ 1152921504606846976) :
    Calls Tryd.prog 89 #[.slice A n c, .int .i64 a, .func (.func 90) #[] #[]] w fun e w' => ∃ i f, e = .returned (.tuple #[.int .i64 (i : Nat), .bool f]) ∧ Below w.heap.size w w' ∧ Pos rs a i f := by
  have H := Lib.hid h
  have hl := h.len
  have HS := Lib.hid hs
  clear h hs
  go_enter Tryd.func89, Tryd.ntmps89
  go_wp2_with fail
  go_loopw [9, 10] (fun t9 t10 wr => ∃ i j : Nat, i ≤ j ∧ j ≤ n ∧ t9 = .int .i64 i ∧ t10 = .int .i64 j ∧ (∀ (k : Nat) (hk : k < rs.length), k < i → rs[k].b.at_ < a) ∧ (∀ (k : Nat) (hk : k < rs.length), j ≤ k → a ≤ rs[k].b.at_) ∧ Below w.heap.size w wr) (fun t9 t10 _ => (intOf t10 - intOf t9).toNat)
  case atStart => exact ⟨0, n, Nat.zero_le _, Nat.le_refl _, rfl, rfl, by intro k _ h; omega, by intro k hk h; omega, Below.refl _ _⟩
  case round =>
    obtain ⟨i, j, hij, hjn, rfl, rfl, hlo, hhi, hb⟩ := hrel
    have HLO := Lib.hid hlo
    have HHI := Lib.hid hhi
    have HB := Lib.hid hb
    clear hlo hhi hb
    by_cases hlt : i < j
    · obtain ⟨m, hm⟩ : ∃ m : Nat, m = (i + j) / 2 := ⟨_, rfl⟩
      have hmid : ((i : Int) + (j : Int)) / 2 = (m : Int) := by omega
      have hm1 : i ≤ m := by omega
      have hm2 : m < j := by omega
      have hmr : m < rs.length := by omega
      obtain ⟨ad, rfl⟩ : ∃ ad, A = some ad := by
        cases A with
        | none => have := (H.out.nil rfl).1; omega
        | some ad => exact ⟨ad, rfl⟩
      obtain ⟨b, o, rfl⟩ := H.out.plain ad rfl
      obtain ⟨c0, c1, c2, c3⟩ := (H.out.below HB.out).at_ b o m rfl hmr
      have HM1 := Lib.hid (fun (h : rs[m].b.at_ < a) (k : Nat) (hk : k < rs.length) (hkm : k < m + 1) => (show rs[k].b.at_ < a by
        by_cases e : k = m
        · subst e; exact h
        · have := HS.out k m hk hmr (by omega); omega))
      have HM2 := Lib.hid (fun (h : a ≤ rs[m].b.at_) (k : Nat) (hk : k < rs.length) (hkm : m ≤ k) => (show a ≤ rs[k].b.at_ by
        by_cases e : k = m
        · subst e; exact h
        · have := HS.out m k hmr hk (by omega); omega))
      generalize hsz : rs[m].b.size = s0 at *
      generalize hpm : rs[m].b.perm = p0 at *
      generalize (Value.slice rs[m].A rs[m].b.bytes.length rs[m].c) = v0 at *
      generalize rs[m].b.at_ = a0 at *
      have HP := Lib.hid (position1_any a0 s0 p0 v0 a wr)
      clear hm hsz hpm
      by_cases hlt2 : a0 < a
      · have HLO2 := Lib.hid (HM1.out hlt2)
        have hc : cmp3 a0 a = -1 := by unfold cmp3; rw [if_pos hlt2]
        rw [hc] at HP
        clear hc HM1 HM2 HLO
        go_wp2_with fail
        refine HP.out.mono ?_
        rintro e w1 ⟨rfl, hb1⟩
        have HB1 := Lib.hid (HB.out.trans (hb1.mono HB.out.size))
        clear hb1 HP HB c0 c1 c2 c3
        go_wp2_with fail
        exact ⟨⟨m + 1, j, by omega, hjn, by go_num, rfl, HLO2.out, HHI.out, HB1.out⟩, by simp [intOf]; omega⟩
      · have HHI2 := Lib.hid (HM2.out (by omega))
        have hc0 : ¬ cmp3 a0 a < 0 := by unfold cmp3; split; omega; split <;> omega
        generalize cmp3 a0 a = cc at *
        clear HM1 HM2 HHI hlt2
        go_wp2_with fail
        refine HP.out.mono ?_
        rintro e w1 ⟨rfl, hb1⟩
        have HB1 := Lib.hid (HB.out.trans (hb1.mono HB.out.size))
        clear hb1 HP HB c0 c1 c2 c3
        go_wp2_with fail
        exact ⟨⟨i, m, hm1, by omega, rfl, by go_num, HLO.out, HHI2.out, HB1.out⟩, by simp [intOf]; omega⟩
    · obtain rfl : i = j := by omega
      by_cases hin : i < n
      · have hir : i < rs.length := by omega
        obtain ⟨ad, rfl⟩ : ∃ ad, A = some ad := by
          cases A with
          | none => have := (H.out.nil rfl).1; omega
          | some ad => exact ⟨ad, rfl⟩
        obtain ⟨b, o, rfl⟩ := H.out.plain ad rfl
        obtain ⟨c0, c1, c2, c3⟩ := (H.out.below HB.out).at_ b o i rfl hir
        have HPO := Lib.hid (fun (f : Bool) (hf : f = true ↔ rs[i].b.at_ = a) => (show Pos rs a i f from ⟨by omega, HLO.out, HHI.out, ⟨fun h => ⟨hir, hf.1 h⟩, fun ⟨_, h⟩ => hf.2 h⟩⟩))
        generalize hsz : rs[i].b.size = s0 at *
        generalize hpm : rs[i].b.perm = p0 at *
        generalize (Value.slice rs[i].A rs[i].b.bytes.length rs[i].c) = v0 at *
        generalize rs[i].b.at_ = a0 at *
        have HP := Lib.hid (position1_any a0 s0 p0 v0 a wr)
        have HC := Lib.hid (show (cmp3 a0 a == 0) = decide (a0 = a) by
          unfold cmp3
          by_cases h1 : a0 < a
          · rw [if_pos h1, decide_eq_false (by omega)]; rfl
          · by_cases h2 : a < a0
            · rw [if_neg h1, if_pos h2, decide_eq_false (by omega)]; rfl
            · rw [if_neg h1, if_neg h2, decide_eq_true (by omega)]; rfl)
        generalize cmp3 a0 a = cc at *
        clear hsz hpm HLO HHI
        go_wp2_with fail
        refine HP.out.mono ?_
        rintro e w1 ⟨rfl, hb1⟩
        have HB1 := Lib.hid (HB.out.trans (hb1.mono HB.out.size))
        clear hb1 HP HB c0 c1 c2 c3
        go_wp2_with fail
        go_ret2
        exact ⟨i, cc == 0, rfl, HB1.out, HPO.out _ (by rw [HC.out]; exact decide_eq_true_iff)⟩
      · have HPO := Lib.hid (show Pos rs a i false from ⟨by omega, HLO.out, HHI.out, ⟨(fun h => by cases h), (fun ⟨h, _⟩ => absurd h (by omega))⟩⟩)
        clear HLO HHI
        go_wp2_with fail
        go_ret2
        exact ⟨i, false, rfl, HB.out, HPO.out⟩

theorem position_any (A : Option Addr) (n c g : Nat) (rs : List Raw) (a : Int) (w : World) (hc : w.cell? ⟨g, 0, none⟩ = some (.slice A n c)) (h : Bls w A n c rs) (hs : Asc rs) (hn : n ≤ 1152921504606846976) :
    Calls Tryd.prog 71 #[.pointer (some ⟨g, 0, none⟩), .int .i64 a] w fun e w' => ∃ i f, e = .returned (.tuple #[.int .i64 (i : Nat), .bool f]) ∧ Below w.heap.size w w' ∧ Pos rs a i f := by
  have HSE := Lib.hid (search_any A n c rs a w h hs hn)
  clear h hs
  go_enter Tryd.func71, Tryd.ntmps71
  go_wp2_with fail
  refine HSE.out.mono ?_
  rintro e w1 ⟨i, f, rfl, hb, hp⟩
  have HB := Lib.hid hb
  have HP := Lib.hid hp
  clear hb hp HSE
  go_wp2_with fail
  go_ret2
  exact ⟨i, f, rfl, HB.out, HP.out⟩
end Go.Proofs.YtfkhfjefddgkoaaDoor
