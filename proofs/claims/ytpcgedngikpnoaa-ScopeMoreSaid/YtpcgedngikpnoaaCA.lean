/-
  What the leaf functions of package cursor do, for every input: the first error is kept, a size is one of four, a number fits, bytes are copied, bytes are appended.
-/
import Derived.Test.YtpcgedngikpnoaaCom
import Derived.Test.YtpcgedngikpnoaaOp
import Derived.WalkKit
import Derived.Lib.Hide
import Derived.WalkSpells
import Derived.Maps.AppendAt
import Derived.Deep.AppendLies
import Derived.Deep.Draws
import Derived.Deep.QuietTactic
import Derived.BigQuiet
import Derived.Laws.Rows
import Derived.Laws.AppendOwnNone
import Derived.Lib.LazyBuf
import Derived.OneCell
namespace Go.Proofs.Ytpcgedngikpnoaa
set_option maxRecDepth 100000
set_option linter.unusedSimpArgs false
set_option linter.unusedVariables false
open Go.RowKit

/-- A byte as the model has it. -/
def u8 (b : UInt8) : Value := .int .u8 (b.toNat : Int)
def cells (l : List UInt8) : List Value := l.map u8
theorem cells_len (l : List UInt8) : (cells l).length = l.length := by simp [cells]
theorem cells_app (a b : List UInt8) : cells (a ++ b) = cells a ++ cells b := by simp [cells]
theorem cells_one (l : List UInt8) : ∀ u ∈ cells l, u.oneCell' = true := by
  intro u hu
  simp only [cells, List.mem_map] at hu
  obtain ⟨b, _, rfl⟩ := hu
  rfl

theorem Try.info_byte : (Try.prog.info? 5).map (fun i => (i.zero, i.size, i.bytes)) = some (some (.int .u8 0), 1, 1) := by kernel_rfl

def sized (size : Int) : Bool := decide (size = 1 ∨ size = 2 ∨ size = 4 ∨ size = 8)

/-- Does the number fit into so many bytes? -/
def fitB (size n : Int) : Bool := if size = 1 then decide (0 ≤ n ∧ n < 256) else if size = 2 then decide (0 ≤ n ∧ n < 65536) else if size = 4 then decide (0 ≤ n ∧ n < 4294967296) else true
theorem fit1 (n : Int) (h : I64 n) : (IntKind.u64.wrap n / 256 == 0) = fitB 1 n := by
  unfold I64 at h
  rw [Bool.eq_iff_iff]
  simp [fitB, IntKind.wrap, IntKind.bits, IntKind.signed]
  omega
theorem fit2 (n : Int) (h : I64 n) : (IntKind.u64.wrap n / 65536 == 0) = fitB 2 n := by
  unfold I64 at h
  rw [Bool.eq_iff_iff]
  simp [fitB, IntKind.wrap, IntKind.bits, IntKind.signed]
  omega
theorem fit4 (n : Int) (h : I64 n) : (IntKind.u64.wrap n / 4294967296 == 0) = fitB 4 n := by
  unfold I64 at h
  rw [Bool.eq_iff_iff]
  simp [fitB, IntKind.wrap, IntKind.bits, IntKind.signed]
  omega
theorem fit8 (n : Int) : (IntKind.u64.wrap n / 18446744073709551616 == 0) = fitB 8 n := by
  rw [Bool.eq_iff_iff]
  simp [fitB, IntKind.wrap, IntKind.bits, IntKind.signed]
  omega

section
variable {w w' : World} {P Q : Nat → Prop} {A : Option Addr} {n c : Nat} {xs : List Value}
end

/-- A new row with these bytes; all else is as it was. -/
def Cloned (w : World) (n : Nat) (l : List UInt8) (e : Ending) (w' : World) : Prop :=
  ∃ A' c', e = .returned (.slice A' n c') ∧ w'.ownsRow w.heap.size 5 1 (.slice A' n c') n (cells l) ∧ Below w.heap.size w w'

/-- A step that turns a writer's struct g, and its row, alone; the row is the same, or new. -/
structure Step (g : Nat) (w : World) (r : Option Nat) (w' : World) (r' : Option Nat) : Prop where
  os : w'.os = w.os
  tape : w'.tape = w.tape
  output : w'.output = w.output
  size : w.heap.size ≤ w'.heap.size
  block : ∀ k, k < w.heap.size → k ≠ g → r ≠ some k → w'.heap[k]? = w.heap[k]?
  row : r' = r ∨ ∃ k, w.heap.size ≤ k ∧ r' = some k
theorem Step.refl (g : Nat) (w : World) (r : Option Nat) : Step g w r w r := ⟨rfl, rfl, rfl, Nat.le_refl _, fun _ _ _ _ => rfl, .inl rfl⟩
theorem Step.trans {g : Nat} {a b c : World} {r s t : Option Nat} (h : Step g a r b s) (k : Step g b s c t) : Step g a r c t := by
  refine ⟨k.os.trans h.os, k.tape.trans h.tape, k.output.trans h.output, Nat.le_trans h.size k.size, fun i hi hg hr => ?_, ?_⟩
  · refine (k.block i (Nat.lt_of_lt_of_le hi h.size) hg ?_).trans (h.block i hi hg hr)
    rcases h.row with h1 | ⟨j, hj, h1⟩
    · rw [h1]; exact hr
    · rw [h1]; intro e; injection e with e; omega
  · rcases k.row with h1 | ⟨j, hj, h1⟩
    · rw [h1]; exact h.row
    · exact .inr ⟨j, Nat.le_trans h.size hj, h1⟩
theorem Step.below {g : Nat} {w w' : World} (h : Below w.heap.size w w') (r : Option Nat) : Step g w r w' r := ⟨h.os, h.tape, h.output, h.size, fun k hk _ _ => h.block k hk, .inl rfl⟩
theorem Step.alloc (g : Nat) (w : World) (r : Option Nat) (o : Obj) : Step g w r (w.alloc o) r := Step.below ((Below.refl _ _).alloc (Nat.le_refl _) _) r
section
variable {w w' : World} {B g : Nat} {e : Int} {A : Option Addr} {c : Nat} {bs : List UInt8}
end

/-- Bytes behind bytes, where nothing was wrong. -/
def putIf (e : Int) (bs l : List UInt8) : List UInt8 := if e = 0 then bs ++ l else bs

/-- The byte of a number at place i, the lowest first. -/
def dig (n : Int) (i : Nat) : UInt8 := UInt8.ofNat (n / 2 ^ (8 * i) % 256).toNat
def digs (n : Int) (k : Nat) : List UInt8 := (List.range k).map (dig n)
theorem digs_succ (n : Int) (k : Nat) : digs n (k + 1) = digs n k ++ [dig n k] := by simp [digs, List.range_succ]
theorem digs_len (n : Int) (k : Nat) : (digs n k).length = k := by simp [digs]

theorem dig_val (n : Int) (i : Nat) : n / 2 ^ (8 * i) % 256 = ((dig n i).toNat : Int) := by
  unfold dig
  rw [UInt8.toNat_ofNat']
  omega
/-- A new block of one byte. -/
theorem src_one (w : World) (b : UInt8) (x : Int) (hx : x = (b.toNat : Int)) : Src (w.alloc (.cells #[.int .u8 x] 5)) (fun k => k = w.heap.size) (some ⟨w.heap.size, 0, none⟩) 1 1 (cells [b]) := by
  subst hx
  refine ⟨rfl, (by intro h; cases h), Nat.le_refl _, (by intro ad h _; cases h; rfl), ?_⟩
  intro ad h j u hj
  cases h
  exact cell_one_new w _ 5 j u hj

/-- A writer's state: its first error, its bytes. -/
abbrev St := Int × List UInt8
def wNum1 (size : Nat) (n : Int) (s : St) : St := if s.1 = 0 then (if fitB size n = true then (0, s.2 ++ digs n size) else (10, s.2)) else s

end Go.Proofs.Ytpcgedngikpnoaa
