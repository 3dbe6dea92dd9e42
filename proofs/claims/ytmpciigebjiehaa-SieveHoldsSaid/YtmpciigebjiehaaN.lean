/-
  Filters bit by bit.
-/
import Derived.Test.YtmpciigebjiehaaL
namespace Go.Proofs.Ytmpciigebjiehaa
open Go.RowKit

theorem words_ext (l m : List UInt64) (hl : l.length = m.length) (h : ∀ i, i < l.length → ∀ t, (wd l i).toNat.testBit t = (wd m i).toNat.testBit t) : l = m := by
  refine List.ext_getElem hl fun i h1 h2 => ?_
  apply UInt64.toNat_inj.1
  apply Nat.eq_of_testBit_eq
  intro t
  have := h i h1 t
  simpa [wd, h1, h2] using this
def hit (s n : Nat) (hs : List UInt32) (i t : Nat) : Bool := hs.any fun h => idx n h == i && (msk s h).toNat.testBit t
theorem setW_bit (s : Nat) (l : List UInt64) (h : UInt32) (i t : Nat) (hi : i < l.length) :
    (wd (setW s l h) i).toNat.testBit t = ((wd l i).toNat.testBit t || (idx l.length h == i && (msk s h).toNat.testBit t)) := by
  unfold setW
  by_cases e : idx l.length h = i
  · subst e
    have : wd (l.set (idx l.length h) (wd l (idx l.length h) ||| msk s h)) (idx l.length h) = wd l (idx l.length h) ||| msk s h := by simp [wd, hi]
    rw [this, UInt64.toNat_or, Nat.testBit_or]
    simp
  · have : wd (l.set (idx l.length h) (wd l (idx l.length h) ||| msk s h)) i = wd l i := by simp [wd, hi, e]
    rw [this]
    simp [e]
theorem setAll_bit (s : Nat) (hs : List UInt32) : ∀ (l : List UInt64) (i t : Nat), i < l.length → (wd (setAll s l hs) i).toNat.testBit t = ((wd l i).toNat.testBit t || hit s l.length hs i t) := by
  induction hs with
  | nil => intro l i t _; simp [setAll, hit]
  | cons h hs ih =>
    intro l i t hi
    have e : setAll s l (h :: hs) = setAll s (setW s l h) hs := rfl
    rw [e, ih (setW s l h) i t (by rw [setW_len]; exact hi), setW_bit s l h i t hi, setW_len]
    simp [hit, Bool.or_assoc]
theorem blank_bit (n i t : Nat) : (wd (blank n) i).toNat.testBit t = false := by
  have : wd (blank n) i = 0 := by
    unfold wd blank
    by_cases h : i < n <;> simp [h]
  rw [this]
  simp
theorem uni_bit (l m : List UInt64) (hm : m.length = l.length) (i t : Nat) (hi : i < l.length) : (wd (uni l m) i).toNat.testBit t = ((wd l i).toNat.testBit t || (wd m i).toNat.testBit t) := by
  have : wd (uni l m) i = (wd l i ||| wd m i) := by
    simp [wd, uni, hi, hm]
  rw [this, UInt64.toNat_or, Nat.testBit_or]
/-- What was put in, put in once more. -/
theorem setAll_again (s : Nat) (l : List UInt64) (hs : List UInt32) (h : UInt32) (hm : h ∈ hs) : setAll s (setAll s l hs) [h] = setAll s l hs := by
  refine words_ext _ _ (by rw [setAll_len]) fun i hi t => ?_
  rw [setAll_len] at hi
  rw [setAll_bit s [h] _ i t hi]
  rw [setAll_len] at hi
  rw [setAll_bit s hs l i t hi, setAll_len]
  cases hh : hit s l.length [h] i t
  · simp
  · have : hit s l.length hs i t = true := by
      simp only [hit, List.any_cons, List.any_nil, Bool.or_false, Bool.and_eq_true] at hh
      simp only [hit, List.any_eq_true, Bool.and_eq_true]
      exact ⟨h, hm, hh⟩
    simp [this]
theorem lacks_bits (x m : UInt64) : ((x &&& m) != m) = false ↔ ∀ t, m.toNat.testBit t = true → x.toNat.testBit t = true := by
  simp only [bne_eq_false_iff_eq, ← UInt64.toNat_inj, UInt64.toNat_and]
  constructor
  · intro h t ht
    have := congrArg (fun z => z.testBit t) h
    simp only [Nat.testBit_and, ht, Bool.and_true] at this
    exact this
  · intro h
    apply Nat.eq_of_testBit_eq
    intro t
    rw [Nat.testBit_and]
    cases ht : m.toNat.testBit t
    · simp
    · simp [h t ht]
theorem lacks_put (s : Nat) (l : List UInt64) (hs : List UInt32) (h : UInt32) (hm : h ∈ hs) (h0 : 0 < l.length) : lacksB (setAll s l hs) s h = false := by
  unfold lacksB
  have : ((wd (setAll s l hs) (idx (setAll s l hs).length h) &&& msk (s : Int).toNat h) != msk (s : Int).toNat h) = false := by
    rw [lacks_bits, setAll_len]
    intro t ht
    rw [setAll_bit s hs l _ t (idx_lt _ _ h0)]
    have : hit s l.length hs (idx l.length h) t = true := by
      simp only [hit, List.any_eq_true, Bool.and_eq_true]
      exact ⟨h, hm, by simp, ht⟩
    simp [this]
  rw [this, Bool.and_false]
theorem setAll_comm (s : Nat) (l : List UInt64) (a b : List UInt32) : setAll s (setAll s l a) b = setAll s (setAll s l b) a := by
  refine words_ext _ _ (by simp only [setAll_len]) fun i hi t => ?_
  simp only [setAll_len] at hi
  rw [setAll_bit s b (setAll s l a) i t (by rw [setAll_len]; exact hi), setAll_bit s a (setAll s l b) i t (by rw [setAll_len]; exact hi), setAll_bit s a l i t hi, setAll_bit s b l i t hi, setAll_len, setAll_len]
  cases (wd l i).toNat.testBit t <;> cases hit s l.length a i t <;> cases hit s l.length b i t <;> rfl
theorem uni_setAll (s n : Nat) (a b : List UInt32) : uni (setAll s (blank n) a) (setAll s (blank n) b) = setAll s (setAll s (blank n) a) b := by
  have hl : (setAll s (blank n) b).length = (setAll s (blank n) a).length := by simp only [setAll_len]
  refine words_ext _ _ (by rw [uni_len _ _ hl]; simp only [setAll_len]) fun i hi t => ?_
  rw [uni_len _ _ hl, setAll_len] at hi
  rw [uni_bit _ _ hl i t (by rw [setAll_len]; exact hi), setAll_bit s b (setAll s (blank n) a) i t (by rw [setAll_len]; exact hi), setAll_bit s b (blank n) i t hi, setAll_len, blank_bit]
  simp
/-- A union lacks only what both lack. -/
theorem uniAll_bits (r : List Fi) : ∀ (l : List UInt64), (∀ g ∈ r, g.ws.length = l.length) → ∀ i t, i < l.length → ((wd l i).toNat.testBit t = true ∨ ∃ g ∈ r, (wd g.ws i).toNat.testBit t = true) → (wd (uniAll l r) i).toNat.testBit t = true := by
  induction r with
  | nil =>
    intro l _ i t _ h
    rcases h with h | ⟨g, hg, _⟩
    · exact h
    · cases hg
  | cons g r ih =>
    intro l hl i t hi h
    have e : uniAll l (g :: r) = uniAll (uni l g.ws) r := rfl
    have hg := hl g (by simp)
    have hu := uni_len l g.ws hg
    rw [e]
    refine ih (uni l g.ws) (fun g' hg' => by rw [hu]; exact hl g' (by simp [hg'])) i t (by rw [hu]; exact hi) ?_
    rw [uni_bit l g.ws hg i t hi]
    rcases h with h | ⟨g', hg', h⟩
    · left; simp [h]
    · rcases List.mem_cons.1 hg' with rfl | hg'
      · left; simp [h]
      · right; exact ⟨g', hg', h⟩
theorem uni_lacks (f : Fi) (r : List Fi) (ha : alikeB (f :: r) = true) (h : UInt32) (hl : lacksB (uniAll f.ws r) f.s h = true) : ∀ g ∈ f :: r, lacksB g.ws g.s h = true := by
  have hfm : formB f.ws.length f.s = true ∧ ∀ g ∈ r, g.ws.length = f.ws.length ∧ g.s = f.s := by
    simpa [alikeB, likeB] using ha
  obtain ⟨hf, hlike⟩ := hfm
  obtain ⟨p0, _⟩ := form_pos hf
  have hlen := uniAll_len r f.ws (fun g hg => (hlike g hg).1)
  unfold lacksB at hl
  rw [hlen, hf, Bool.true_and] at hl
  have key : ∀ g, g ∈ f :: r → g.ws.length = f.ws.length ∧ g.s = f.s := by
    intro g hg
    rcases List.mem_cons.1 hg with rfl | hg
    · exact ⟨rfl, rfl⟩
    · exact hlike g hg
  intro g hg
  obtain ⟨e1, e2⟩ := key g hg
  unfold lacksB
  rw [e1, e2, hf, Bool.true_and]
  cases hx : ((wd g.ws (idx f.ws.length h) &&& msk f.s.toNat h) != msk f.s.toNat h)
  · exfalso
    rw [lacks_bits] at hx
    have : ((wd (uniAll f.ws r) (idx f.ws.length h) &&& msk f.s.toNat h) != msk f.s.toNat h) = false := by
      rw [lacks_bits]
      intro t ht
      refine uniAll_bits r f.ws (fun g hg => (hlike g hg).1) _ t (idx_lt _ _ p0) ?_
      rcases List.mem_cons.1 hg with rfl | hg'
      · exact .inl (hx t ht)
      · exact .inr ⟨g, hg', hx t ht⟩
    rw [this] at hl
    cases hl
  · rfl
end Go.Proofs.Ytmpciigebjiehaa
