/-
  Several writers at once, and how long what is written may be.
-/
import Derived.Test.YtkgkgagnpmhoiaaD
namespace Go.Proofs.Ytkgkgagnpmhoiaa
open Go.RowKit

theorem Wr.other {w w' : World} {B g g' : Nat} {e : Int} {A : Option Addr} {c : Nat} {bs : List UInt8} {r r' : Option Nat} (h : Wr w B g e A c bs) (hs : Step g' w r w' r') (h1 : g ≠ g') (h2 : r ≠ some g) (h3 : row A ≠ some g')
    (h4 : ∀ k, row A = some k → r ≠ some k) : Wr w' B g e A c bs :=
  h.keep hs.size (hs.block g h.lt h1 h2) fun k hk => hs.block k (h.rowLt k hk).2 (fun e => h3 (by rw [hk, e])) (h4 k hk)
theorem Wr.anew {w : World} {B g : Nat} {e : Int} {c : Nat} (h : Wr w B g e none c []) : Wr w w.heap.size g e none c [] := by
  refine ⟨h.blk, ?_, Nat.le_refl _⟩
  rcases h.own.2 with ⟨h1, _⟩ | ⟨g', cap, cur, hv, _⟩
  · refine ⟨rfl, .inl ⟨h1, rfl⟩⟩
  · injection hv with hv; cases hv
theorem wNumsA_snoc (size : Int) (ns : List Int) (k : Nat) (h : k < ns.length) : wNumsA size (ns.take (k + 1)) (0, []) = wNumsA size [ns[k]] (wNumsA size (ns.take k) (0, [])) := by
  unfold wNumsA
  by_cases hs : sized size = true
  · rw [if_pos hs, if_pos hs, if_pos hs, wNums_snoc _ _ _ h]
    rfl
  · rw [if_neg hs, if_neg hs, if_neg hs]
    rfl
theorem wNumsA_len (size : Int) (ns : List Int) (s : St) : (wNumsA size ns s).2.length ≤ s.2.length + 8 * ns.length := by
  unfold wNumsA
  split
  · rename_i h
    exact wNums_len _ _ (by simp only [sized, decide_eq_true_eq] at h; omega) s
  · split <;> simp
theorem room_one (l : List UInt8) : room [l] = l.length + 8 := by simp [room]
theorem At.len {w w' : World} {B g : Nat} {A : Option Addr} {e : Int} {bs : List UInt8} (h : At w B g A e bs w') : w.heap.size ≤ w'.heap.size := by
  obtain ⟨_, _, _, h⟩ := h
  exact h.size

end Go.Proofs.Ytkgkgagnpmhoiaa
