/-
  Noughts appended to a row of bytes: within its room, or onto a new one.
-/
import Derived.Test.YthbdncojekpanaaG
import Derived.Lib.AppendZerosOnto
import Derived.Laws.AppendOwn
namespace Go.Proofs.Ythbdncojekpanaa
open Go.RowKit

theorem zero_cells (k : Nat) : (Builtin.zeroCells (Value.int .u8 0).cells k).toList = cells (zeros k) := by
  apply List.ext_getElem
  · simp [Builtin.zeroCells, cells, zeros, Value.cells]
  · intro i h1 h2
    simp [Builtin.zeroCells, cells, zeros, Value.cells, Nat.mod_one]
theorem zeros_len (k : Nat) : (zeros k).length = k := by simp [zeros]
theorem run_room_zeros {P : Program} (w : World) (t tn ty e : TypeId) (i : TypeInfo) (kn : IntKind) (ht : P.underlying t = some (.slice e)) (htn : P.underlying tn = some (.int kn)) (hi : P.info? e = some i) (hz : i.zero = some (.int .u8 0)) (h1 : i.size = 1) (hb : i.bytes = 1)
    (g n c k : Nat) (cur : Array Value) (hg : w.heap[g]? = some (.cells cur e (0, 0))) (hk : 0 < k) (hk2 : k ≤ 1048576) (hroom : n + k ≤ c) (hfit : n + k ≤ cur.size) :
    (Builtin.append_ #[t, tn] ty #[.slice (some ⟨g, 0, none⟩) n c, .int .i64 k]).run P w =
      .ok (.slice (some ⟨g, 0, none⟩) (n + k) c) (w.setRow g (cur.toList.take n ++ cells (zeros k) ++ cur.toList.drop (n + k)).toArray) := by
  have hw : IntKind.i64.wrap (k : Int) = k := by rw [IntKind.wrap_i64]; omega
  have hneg : ¬ ((k : Int) < 0) := by omega
  have h48 : ¬ (281474976710656 < (k : Int) * ((1 : Nat) : Int)) := by omega
  have h48' : ¬ (281474976710656 < (k : Int)) := by omega
  have hk0 : ¬ k = 0 := by omega
  have hst := run_storeCells_at P g n e (cells (zeros k)) 0 cur w hg (by rw [cells_len, zeros_len]; omega) (cells_one _)
  simp only [Nat.add_zero, cells_len, zeros_len] at hst
  have hzc := zero_cells k
  simp [Builtin.append_, run_underlying ht, run_underlying htn, sizeOf, typeInfo, zeroValue, hi, hz, h1, hb, asInt, asIntOf, hw, hneg, h48', hk0, hroom, Addr.add_lit, hzc, hst]
theorem append_zeros {w : World} (B : Nat) (A : Option Addr) (n c : Nat) (xs : Str) (k : Nat) (ty : TypeId) (hown : w.ownsRow B 5 1 (.slice A n c) n (cells xs)) (hk : 0 < k) (hn : n + k ≤ 1048576) (hB : B ≤ w.heap.size) :
    ∃ A' c' w', (Builtin.append_ #[31, 3] ty #[.slice A n c, .int .i64 (k : Nat)]).run Try.prog w = .ok (.slice A' (n + k) c') w' ∧ w'.ownsRow B 5 1 (.slice A' (n + k) c') (n + k) (cells (xs ++ zeros k)) ∧
      w.grownBy w' (Value.slice A n c).ownBlock ∧ (row A' = row A ∨ ∃ q, w.heap.size ≤ q ∧ row A' = some q) := by
  obtain ⟨i0, hi, hz0, hz1, hz2⟩ := info_parts Try.info_u8
  have hxl : xs.length = n := by have := hown.1; rw [cells_len] at this; omega
  have hlen : (cells (xs ++ zeros k)).length = (n + k) * 1 := by rw [cells_len, List.length_append, zeros_len, hxl, Nat.mul_one]
  have grown : ∀ (old : Nat), old < n + k →
      (w.drew.alloc (.cells ((cells xs).toArray ++ Builtin.zeroCells (Value.int .u8 0).cells k ++ Builtin.zeroCells (Value.int .u8 0).cells (grownCap w (n + k) old 5 - (n + k))) 5)).ownsRow B 5 1 (.slice (some ⟨w.heap.size, 0, none⟩) (n + k) (grownCap w (n + k) old 5)) (n + k) (cells (xs ++ zeros k)) := by
    intro old ho
    have hge := grownCap_ge w (n + k) old 5
    have hcm : grownCap w (n + k) old 5 ≤ maxLen := grownCap_le_maxLen w (n + k) old 5 (by simp only [maxLen]; omega)
    refine ⟨hlen, .inr ⟨w.heap.size, _, _, rfl, hB, heap_alloc_new w.drew _, hge, hcm, ?_, ?_⟩⟩
    · simp only [Array.size_append, List.size_toArray, cells_len, hxl, Builtin.zeroCells, Array.size_map, Array.size_range, Value.cells]
      simp
      omega
    · rw [Nat.mul_one]
      simp only [Array.toList_append, zero_cells, List.append_assoc]
      rw [← List.append_assoc, ← cells_app]
      exact List.take_left' (by rw [hlen, Nat.mul_one])
  have hgrw : ∀ (old : Nat) (rw_ : Option Nat), w.grownBy (w.drew.alloc (.cells ((cells xs).toArray ++ Builtin.zeroCells (Value.int .u8 0).cells k ++ Builtin.zeroCells (Value.int .u8 0).cells (grownCap w (n + k) old 5 - (n + k))) 5)) rw_ :=
    fun old rw_ => ⟨rfl, rfl, rfl, by simp, fun q hq _ => heap_alloc_old w.drew _ hq⟩
  rcases hown.2 with ⟨hv, h0⟩ | ⟨g, cap, cur, hv, hbg, hg, hnc, hcm, hcs, htake⟩
  · injection hv with h1 h2 h3
    subst h1 h3
    have hr := Lib.run_append_grow_zeros (P := Try.prog) w 31 3 ty 5 i0 (.int .u8 0) .i64 .i64 Try.underlying31 Try.underlying3 hi hz0 none n 0 (cells xs) (by
      have : xs = [] := List.eq_nil_of_length_eq_zero (by omega)
      subst this
      subst h0
      rfl) k hk (by omega) (by omega) (by omega) (by rw [hz2]; omega) (by rw [hz2]; exact growslice_fits (by omega) (by omega))
    exact ⟨_, _, _, hr, grown 0 (by omega), hgrw 0 _, .inr ⟨w.heap.size, Nat.le_refl _, rfl⟩⟩
  · injection hv with h1 h2 h3
    subst h1 h3
    by_cases hroom : n + k ≤ c
    · have hr := run_room_zeros (P := Try.prog) w 31 3 ty 5 i0 .i64 Try.underlying31 Try.underlying3 hi hz0 hz1 hz2 g n c k cur hg hk (by omega) hroom (by omega)
      refine ⟨_, _, _, hr, ⟨hlen, .inr ⟨g, c, _, rfl, hbg, setRow_heap w g cur _ 5 _ hg, hroom, hcm, ?_, ?_⟩⟩, ⟨rfl, rfl, rfl, by simp, fun q _ hq => setRow_other w g q _ (fun e => hq (by simp [Value.ownBlock, e]))⟩, .inl rfl⟩
      · simp only [List.size_toArray, List.length_append, List.length_take, List.length_drop, Array.length_toList, cells_len, zeros_len]
        omega
      · rw [Nat.mul_one] at htake
        rw [htake, ← cells_app]
        exact List.take_left' hlen
    · have holds : ∀ j u, (cells xs)[j]? = some u → w.cell? ((⟨g, 0, none⟩ : Addr).add j) = some u := hown.cells (g := g) rfl
      have hr := Lib.run_append_grow_zeros (P := Try.prog) w 31 3 ty 5 i0 (.int .u8 0) .i64 .i64 Try.underlying31 Try.underlying3 hi hz0 (some ⟨g, 0, none⟩) n c (cells xs)
        (by rw [hz1]; exact run_firstCells_some w.drew 1 n ⟨g, 0, none⟩ n c (cells xs) (by rw [cells_len]; omega) holds) k hk (by omega) (by omega) (by omega) (by rw [hz2]; omega) (by rw [hz2]; exact growslice_fits (by omega) (by omega))
      exact ⟨_, _, _, hr, grown c (by omega), hgrw c _, .inr ⟨w.heap.size, Nat.le_refl _, rfl⟩⟩
end Go.Proofs.Ythbdncojekpanaa
