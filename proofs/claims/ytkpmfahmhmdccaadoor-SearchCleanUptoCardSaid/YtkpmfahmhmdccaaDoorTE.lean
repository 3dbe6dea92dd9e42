/-
  A text cut at each sign, the pieces of what it becomes, and what it becomes.
-/
import Derived.Test.YtkpmfahmhmdccaaDoorTD
namespace Go.Proofs.YtkpmfahmhmdccaaDoor
open Go.RowKit

theorem splitK_spl (c : UInt8) (l : Str) : Lib.splitK [c] 0 (Lib.count l [c]) l = spl c l := by
  induction l with
  | nil => simp [Lib.count_one, Lib.splitK, spl]
  | cons d l ih =>
    by_cases h : d = c
    · subst h
      have hix : Lib.index (d :: l) [d] = 0 := by rw [Lib.index]; simp [List.isPrefixOf]
      rw [Lib.count_cons_eq, Nat.add_comm, Lib.splitK, hix, spl, if_pos rfl, ← ih]
      simp
    · have hp : ([c] : List UInt8).isPrefixOf (d :: l) = false := by simp [List.isPrefixOf, Ne.symm h]
      have hix : Lib.index (d :: l) [c] = if Lib.index l [c] == -1 then -1 else Lib.index l [c] + 1 := by rw [Lib.index, hp]; simp
      rw [Lib.count_cons_ne _ _ _ h, spl, if_neg h, ← ih]
      cases hn : Lib.count l [c] with
      | zero => simp [Lib.splitK]
      | succ k =>
        have hge : Lib.index l [c] = -1 ∨ 0 ≤ Lib.index l [c] := by
          have := Lib.indexByte_ge l c
          rw [Lib.index_one]
          omega
        rcases hge with hm | hm
        · exfalso
          rw [Lib.count_miss hm] at hn
          omega
        · have h1 : ¬ (Lib.index l [c] == -1) = true := fun e => by have := beq_iff_eq.1 e; omega
          have h2 : ¬ (Lib.index l [c] + 1 == -1) = true := fun e => by have := beq_iff_eq.1 e; omega
          rw [Lib.splitK, Lib.splitK, hix, if_neg h1, if_neg h2]
          simp only [if_neg h1]
          obtain ⟨i, hi⟩ : ∃ i : Nat, Lib.index l [c] = i := ⟨(Lib.index l [c]).toNat, by omega⟩
          rw [hi, show (((i : Int) + 1).toNat) = i + 1 by omega]
          simp
theorem splitB_spl (c : UInt8) (l : Str) : (Lib.splitB ⟨#[c]⟩ 0 (Lib.countB ⟨l.toArray⟩ ⟨#[c]⟩) ⟨l.toArray⟩).map Value.string = strs (spl c l) := by
  have h := Lib.splitB_data ⟨#[c]⟩ 0 (Lib.countB ⟨l.toArray⟩ ⟨#[c]⟩) ⟨l.toArray⟩
  have h3 : Lib.splitK (ByteArray.mk #[c]).data.toList 0 (Lib.countB ⟨l.toArray⟩ ⟨#[c]⟩) (ByteArray.mk l.toArray).data.toList = spl c l := splitK_spl c l
  rw [h3] at h
  rw [strs, ← h, List.map_map]
  refine List.map_congr_left fun s _ => ?_
  exact str_of s
theorem splitB_slen (c : UInt8) (l : Str) : Lib.countB ⟨l.toArray⟩ ⟨#[c]⟩ + 1 = (spl c l).length := by
  have h := congrArg List.length (splitB_spl c l)
  rw [List.length_map, Lib.splitB_all ⟨#[c]⟩ (by simp [ByteArray.size]) 0 _ _ rfl, strs_length] at h
  exact h
/-- The library's own variable of a number. -/
def Ml (w : World) : Prop := ∃ m, w.cell? ⟨0, 0, none⟩ = some (.int .i64 m)
theorem Ml.below {w w' : World} (h : Ml w) (hb : Below w.heap.size w w') : Ml w' := by
  obtain ⟨m, hm⟩ := h
  exact ⟨m, (hb.cell (World.block_lt_of_cell? w _ hm)).trans hm⟩
theorem split_any (c : UInt8) (l : Str) (w : World) (hs : l.length < 4294967281) (hm : Ml w) :
    Calls Tryd.prog 42 #[str l, .string ⟨#[c]⟩] w fun e w' => e = .returned (.slice (some ⟨w.heap.size, 0, none⟩) (spl c l).length (spl c l).length) ∧ w' = w.alloc (.cells (strs (spl c l)).toArray 9) := by
  obtain ⟨m, hm⟩ := hm
  have h := Tryd.strings_Split ⟨l.toArray⟩ ⟨#[c]⟩ m w (by simpa [ByteArray.size] using hs) hm (by simp [ByteArray.size])
  rw [splitB_spl, splitB_slen] at h
  exact h

/-! The pieces, one part more. -/
theorem pcs_bad (o : Str) : ∀ (ps : List Str) (p : Str), p ∈ ps → cutW o p = none → pcs o ps = none
  | q :: ps, p, h, hc => by
    rw [pcs]
    rcases List.mem_cons.1 h with rfl | h
    · rw [hc]
    · rw [pcs_bad o ps p h hc]
      split <;> rfl
theorem pcs_snoc (o : Str) (p : Str) (x : Str × Str) (hx : cutW o p = some x) : ∀ (ps acc : List Str), pcs o ps = some acc → pcs o (ps ++ [p]) = some (acc ++ [x.1, x.2])
  | [], acc, h => by
    rw [pcs] at h
    injection h with h
    subst h
    rw [List.nil_append, pcs, hx, pcs]
    rfl
  | q :: ps, acc, h => by
    rw [List.cons_append, pcs]
    rw [pcs] at h
    split at h
    · cases h
    · rename_i v r hv
      cases hp : pcs o ps with
      | none => rw [hp] at h; cases h
      | some a2 =>
        rw [hp] at h
        injection h with h
        subst h
        have := pcs_snoc o p x hx ps a2 hp
        simp [this]
theorem pcs_len (o : Str) : ∀ (ps acc : List Str), pcs o ps = some acc → acc.length = 2 * ps.length
  | [], acc, h => by rw [pcs] at h; injection h with h; subst h; rfl
  | q :: ps, acc, h => by
    rw [pcs] at h
    split at h
    · cases h
    · cases hp : pcs o ps with
      | none => rw [hp] at h; cases h
      | some a2 =>
        rw [hp] at h
        injection h with h
        subst h
        have := pcs_len o ps a2 hp
        simp; omega
theorem cutW_len {o p : Str} {x : Str × Str} (h : cutW o p = some x) (n : Nat) (ho : o.length ≤ n) (hp : p.length ≤ n) (h3 : 3 ≤ n) : x.1.length ≤ n ∧ x.2.length ≤ n := by
  unfold cutW at h
  split at h
  · injection h with h; subst h; exact ⟨ho, by simp; omega⟩
  · split at h
    · injection h with h; subst h; exact ⟨by simpa [lV] using h3, by simp; omega⟩
    · cases h
theorem pcs_mem (o : Str) (n : Nat) (ho : o.length ≤ n) (h3 : 3 ≤ n) : ∀ (ps acc : List Str), pcs o ps = some acc → (∀ p ∈ ps, p.length ≤ n) → ∀ y ∈ acc, y.length ≤ n
  | [], acc, h, _, y, hy => by rw [pcs] at h; injection h with h; subst h; cases hy
  | q :: ps, acc, h, hps, y, hy => by
    rw [pcs] at h
    split at h
    · cases h
    · rename_i v r hv
      cases hp : pcs o ps with
      | none => rw [hp] at h; cases h
      | some a2 =>
        rw [hp] at h
        injection h with h
        subst h
        have h2 := cutW_len hv n ho (hps q (by simp)) h3
        rcases List.mem_append.1 hy with hy | hy
        · simp only [List.mem_cons, List.not_mem_nil, or_false] at hy
          rcases hy with rfl | rfl
          · exact h2.1
          · exact h2.2
        · exact pcs_mem o n ho h3 ps a2 hp (fun p hp => hps p (by simp [hp])) y hy
theorem spl_len_mem (c : UInt8) : ∀ (l p : Str), p ∈ spl c l → p.length ≤ l.length
  | [], p, h => by simp [spl] at h; subst h; simp
  | d :: l, p, h => by
    rw [spl] at h
    split at h
    · rcases List.mem_cons.1 h with rfl | h
      · simp
      · have := spl_len_mem c l p h; simp; omega
    · obtain ⟨q, qs, hq⟩ := spl_ne c l
      rw [hq] at h
      rcases List.mem_cons.1 h with rfl | h
      · have := spl_len_mem c l q (by rw [hq]; simp); simp; omega
      · have := spl_len_mem c l p (by rw [hq]; simp [h]); simp; omega
end Go.Proofs.YtkpmfahmhmdccaaDoor
