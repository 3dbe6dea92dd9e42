/-
  The way that parts lead.
-/
import Derived.Test.YtkpmfahmhmdccaaDoorLD
namespace Go.Proofs.YtkpmfahmhmdccaaDoor.Fil
open Go.RowKit Go.Maps

def lenOf : Value → Nat
  | .slice _ n _ => n
  | _ => 0
/-- A slice that reads as texts, and lies plainly. -/
structure Txt (w : World) (A : Option Addr) (c : Nat) (ps : List Str) : Prop where
  src : Src w (fun k => k < w.heap.size) A ps.length c (strs ps)
  plain : ∀ ad, A = some ad → ∃ b o, ad = ⟨b, o, none⟩
  lim : c ≤ 9223372036854775807
theorem Txt.nil (w : World) : Txt w none 0 [] := ⟨⟨rfl, fun _ => ⟨rfl, rfl⟩, Nat.le_refl _, (by intro ad h; cases h), (by intro ad h; cases h)⟩, (by intro ad h; cases h), by omega⟩
theorem Txt.below {w w' : World} {A : Option Addr} {c : Nat} {ps : List Str} (h : Txt w A c ps) (hb : Below w.heap.size w w') : Txt w' A c ps :=
  ⟨(h.src.below hb fun _ h => h).weak fun _ hk => Nat.lt_of_lt_of_le hk hb.size, h.plain, h.lim⟩
theorem own_lim {w : World} {B : Nat} {e : TypeId} {A : Option Addr} {n c : Nat} {xs : List Value} (h : w.ownsRow B e 1 (.slice A n c) n xs) : c ≤ 9223372036854775807 := by
  rcases h.2 with ⟨hv, hn⟩ | ⟨g, cap, cur, hv, hb, hg, h1, h2, h3, h4⟩
  · injection hv; omega
  · injection hv with _ _ hc
    subst hc
    have := h2
    simp only [maxLen] at *
    omega
theorem Txt.of_own {w : World} {B : Nat} {A : Option Addr} {c : Nat} {ps : List Str} (h : w.ownsRow B 9 1 (.slice A ps.length c) ps.length (strs ps)) : Txt w A c ps :=
  ⟨(Src.of_own h).weak fun _ hk => hk.2.2, fun ad hA => by
    rcases h.2 with ⟨hv, hn⟩ | ⟨g, cap, cur, hv, _⟩
    · injection hv with h1; rw [h1] at hA; cases hA
    · injection hv with h1; rw [h1] at hA; cases hA; exact ⟨_, _, rfl⟩, own_lim h⟩

theorem Txt.tail {w : World} {A : Option Addr} {c : Nat} {p : Str} {ps : List Str} (h : Txt w A c (p :: ps)) : ∃ b o, A = some ⟨b, o, none⟩ ∧ 1 ≤ c ∧ w.cell? ⟨b, o, none⟩ = some (str p) ∧ ∃ A', Txt w A' (c - 1) ps ∧
    ∀ w', (Instr.slice 22 (.slice (some ⟨b, o, none⟩) (ps.length + 1) c) (some (.int .i64 1)) none none).run Tryd.prog w' = .ok (.slice A' ps.length (c - 1)) w' := by
  have hc := h.src.cap
  simp only [List.length_cons] at hc
  obtain ⟨ad, rfl⟩ : ∃ ad, A = some ad := by
    cases A with
    | none => have := h.src.nil rfl; simp at this
    | some ad => exact ⟨ad, rfl⟩
  obtain ⟨b, o, rfl⟩ := h.plain ad rfl
  have hcell : w.cell? ((⟨b, o, none⟩ : Addr).add 0) = some (str p) := h.src.at_ _ rfl 0 _ rfl
  rw [show (⟨b, o, none⟩ : Addr).add 0 = ⟨b, o, none⟩ from rfl] at hcell
  refine ⟨b, o, rfl, by omega, hcell, if c = 1 then some ⟨b, o, none⟩ else some ⟨b, o + 1, none⟩, ⟨⟨by simp [strs], ?_, by omega, ?_, ?_⟩, ?_, ?_⟩, ?_⟩
  · intro hA; split at hA <;> cases hA
  · intro ad hA _
    have := World.block_lt_of_cell? w _ hcell
    split at hA <;> (cases hA; exact this)
  · intro ad hA j u hu
    have hj : j < ps.length := by have := (List.getElem?_eq_some_iff.1 hu).1; simpa [strs] using this
    have hne : ¬ c = 1 := by omega
    rw [if_neg hne] at hA
    cases hA
    have h1 := h.src.at_ _ rfl (j + 1) u (by simpa [strs] using hu)
    have e : (⟨b, o, none⟩ : Addr).add (j + 1) = (⟨b, o + 1, none⟩ : Addr).add j := by
      unfold Addr.add
      by_cases hj0 : j = 0
      · subst hj0; simp
      · simp [hj0]; omega
    rw [← e]; exact h1
  · intro ad hA; split at hA <;> (cases hA; exact ⟨_, _, rfl⟩)
  · have := h.lim; omega
  · intro w'
    have hz : (sizeOf (Tryd.prog.elem 22)).run Tryd.prog w' = .ok 1 w' := by kernel_rfl
    rw [run_slice_l (w := w') 22 (some ⟨b, o, none⟩) (ps.length + 1) c (by kernel_rfl) .i64 1 (by omega) (by omega), hz]
    simp only [Result.andThen, sliced]
    split
    · rename_i hc1
      rw [if_pos (by simpa using hc1)]
      simp
    · rename_i hc1
      rw [if_neg (by simpa using hc1)]
      simp [Addr.add]

theorem wayF_end (D : Dt) (f : Nat) (a : Str) (l : Nat) : wayF D f a l [] = (a, 0) := by cases f <;> rfl
theorem wayF_up (D : Dt) (f : Nat) (a : Str) (l : Nat) (ps : List Str) : wayF D (f + 1) a l (dots :: ps) = wayF D f (above a) l ps := by
  rw [wayF, if_pos rfl]
theorem wayF_none (D : Dt) (f : Nat) (a : Str) (l : Nat) (p : Str) (ps : List Str) (hp : p ≠ dots) (hk : (getD D (below a p)).kind = 0) : wayF D (f + 1) a l (p :: ps) = ([], 31) := by
  rw [wayF, if_neg hp]
  simp only
  rw [if_pos hk]
theorem wayF_loop (D : Dt) (f : Nat) (a : Str) (p : Str) (ps : List Str) (hp : p ≠ dots) (hk : (getD D (below a p)).kind = 3) : wayF D (f + 1) a 8 (p :: ps) = ([], 35) := by
  rw [wayF, if_neg hp]
  simp only
  rw [if_neg (by omega), if_pos hk]
  rfl
theorem wayF_link (D : Dt) (f : Nat) (a : Str) (l : Nat) (p : Str) (ps : List Str) (hp : p ≠ dots) (hk : (getD D (below a p)).kind = 3) (hl : l ≠ 8) :
    wayF D (f + 1) a l (p :: ps) = wayF D f (if isAbs (getD D (below a p)).text then rootS else a) (l + 1) ((partsOf (getD D (below a p)).text).getD [] ++ ps) := by
  rw [wayF, if_neg hp]
  simp only
  rw [if_neg (by omega), if_pos hk, if_neg hl]
theorem wayF_file (D : Dt) (f : Nat) (a : Str) (l : Nat) (p : Str) (ps : List Str) (hp : p ≠ dots) (hk : (getD D (below a p)).kind = 1) (hps : ps ≠ []) : wayF D (f + 1) a l (p :: ps) = ([], 34) := by
  rw [wayF, if_neg hp]
  simp only
  rw [if_neg (by omega), if_neg (by omega), if_pos ⟨hk, hps⟩]
theorem wayF_on (D : Dt) (f : Nat) (a : Str) (l : Nat) (p : Str) (ps : List Str) (hp : p ≠ dots) (h0 : (getD D (below a p)).kind ≠ 0) (h3 : (getD D (below a p)).kind ≠ 3) (h1 : (getD D (below a p)).kind = 1 → ps = []) :
    wayF D (f + 1) a l (p :: ps) = wayF D f (below a p) l ps := by
  rw [wayF, if_neg hp]
  simp only
  rw [if_neg h0, if_neg h3, if_neg (fun h => h.2 (h1 h.1))]

/-- The walk's state. -/
structure Way (w wr : World) (s : St) (ps0 : List Str) (a : Str) (l : Nat) (ps : List Str) (A : Option Addr) (c : Nat) (f : Nat) : Prop where
  txt : Txt wr A c ps
  parts : ∀ p ∈ ps, p.length ≤ 64
  links : l ≤ 8
  pos : 1 ≤ a.length
  len : a.length + 65 * ((8 - l) * 201 + ps.length) ≤ 117586
  fuel : (8 - l) * 201 + ps.length ≤ f
  eq : wayF s.d f a l ps = way s.d ps0
  below : Below w.heap.size w wr

end Go.Proofs.YtkpmfahmhmdccaaDoor.Fil
