/-
  Filters that are written: set, spoil, and what filters are the same.
-/
import Derived.Test.YtpcgedngikpnoaaFB
namespace Go.Proofs.Ytpcgedngikpnoaa.Siv
set_option maxRecDepth 100000
set_option linter.unusedSimpArgs false
set_option linter.unusedVariables false
open Go.RowKit

def setW (s : Nat) (l : List UInt64) (h : UInt32) : List UInt64 := l.set (idx l.length h) (wd l (idx l.length h) ||| msk s h)
def setAll (s : Nat) (l : List UInt64) (hs : List UInt32) : List UInt64 := hs.foldl (setW s) l
theorem setW_len (s : Nat) (l : List UInt64) (h : UInt32) : (setW s l h).length = l.length := by simp [setW]
theorem setAll_len (s : Nat) (l : List UInt64) (hs : List UInt32) : (setAll s l hs).length = l.length := by
  induction hs generalizing l with
  | nil => rfl
  | cons h hs ih => exact (ih (setW s l h)).trans (setW_len s l h)
theorem setAll_take (s : Nat) (l : List UInt64) (hs : List UInt32) (k : Nat) (hk : k < hs.length) : setAll s l (hs.take (k + 1)) = setW s (setAll s l (hs.take k)) hs[k] := by
  unfold setAll
  rw [List.take_succ_eq_append_getElem hk, List.foldl_append]
  rfl
theorem wds_set (l : List UInt64) (i : Nat) (x : UInt64) : wds (l.set i x) = (wds l).set i (u64v x) := by simp [wds]
theorem or_words (x m : UInt64) : bits .or .u64 (x.toNat : Int) (m.toNat : Int) = ((x.toNat ||| m.toNat : Nat) : Int) := bits_or_u64_nat _ _ x.toNat_lt m.toNat_lt
theorem hsh_get (hs : List UInt32) (k : Nat) (hk : k < hs.length) : (hsh hs)[k]? = some (u32v hs[k]) := by simp [hsh, hk]

theorem own_some {w : World} {B : Nat} {e : TypeId} {A : Option Addr} {n c : Nat} {xs : List Value} (h : w.ownsRow B e 1 (.slice A n c) n xs) (h0 : 0 < n) : ∃ g, A = some ⟨g, 0, none⟩ ∧ B ≤ g ∧ g < w.heap.size := by
  rcases h.2 with ⟨_, hn⟩ | ⟨g, cap, cur, hv, hb, hg, _⟩
  · omega
  · injection hv with h1
    exact ⟨g, h1, hb, (Array.getElem?_eq_some_iff.1 hg).1⟩
theorem own_below {w w' : World} {B : Nat} {e : TypeId} {v : Value} {n : Nat} {xs : List Value} (h : w.ownsRow B e 1 v n xs) (hb : Below w.heap.size w w') : w'.ownsRow B e 1 v n xs :=
  h.kept (row := none) ⟨hb.os, hb.tape, hb.output, hb.size, fun k hk _ => hb.block k hk⟩ (by cases v.ownBlock <;> simp)
theorem Bx.setCell {w : World} {g : Nat} {A : Option Addr} {n c : Nat} {s : Int} (h : Bx w g A n c s) {a : Addr} (ha : g ≠ a.block) (u : Value) : Bx (w.setCell a u) g A n c s := (Below.heap_setCell w a u g ha).trans h

theorem grow_trans {a b c : World} {r : Option Nat} (h : a.grownBy b r) (k : b.grownBy c r) : a.grownBy c r :=
  ⟨k.os.trans h.os, k.tape.trans h.tape, k.output.trans h.output, Nat.le_trans h.size k.size, fun i hi hr => (k.block i (Nat.lt_of_lt_of_le hi h.size) hr).trans (h.block i hi hr)⟩
theorem grow_below {a b : World} (h : Below a.heap.size a b) (r : Option Nat) : a.grownBy b r := ⟨h.os, h.tape, h.output, h.size, fun k hk _ => h.block k hk⟩
theorem Bx.grown {w w' : World} {g : Nat} {A : Option Addr} {n c : Nat} {s : Int} {r : Option Nat} (h : Bx w g A n c s) (hg : w.grownBy w' r) (hr : some g ≠ r) : Bx w' g A n c s := (hg.block g h.lt hr).trans h
theorem Bx.over {w : World} {g : Nat} {A : Option Addr} {n c : Nat} {s : Int} (h : Bx w g A n c s) (A' : Option Addr) (n' c' : Nat) (s' : Int) : Bx ((w.setCell ⟨g, 0, none⟩ (.slice A' n' c')).setCell ⟨g, 1, none⟩ (.int .i64 s')) g A' n' c' s' := by
  have h1 := heap_setCell_same w g 0 _ _ (.slice A' n' c') h
  exact heap_setCell_same _ g 1 _ _ (.int .i64 s') h1
/-- Are the filters the same? -/
def sameB (l m : List UInt64) (s t : Int) : Bool := decide (s = t ∧ l = m)
end Go.Proofs.Ytpcgedngikpnoaa.Siv
