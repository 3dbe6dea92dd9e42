/-
  Plain facts: how many stand in all buckets; what is found first; what is made is right.
-/
import Derived.Test.YtpcgedngikpnoaaTI
namespace Go.Proofs.Ytpcgedngikpnoaa.Siv
set_option maxRecDepth 100000
set_option linter.unusedSimpArgs false
set_option linter.unusedVariables false
open Go.RowKit

def hit (s n : Nat) (hs : List UInt32) (i t : Nat) : Bool := hs.any fun h => idx n h == i && (msk s h).toNat.testBit t
theorem setW_bit (s : Nat) (l : List UInt64) (h : UInt32) (i t : Nat) (hi : i < l.length) :
    (wd (setW s l h) i).toNat.testBit t = ((wd l i).toNat.testBit t || (idx l.length h == i && (msk s h).toNat.testBit t)) := by
  unfold setW
  by_cases e : idx l.length h = i
  · subst e
    have : wd (l.set (idx l.length h) (wd l (idx l.length h) ||| msk s h)) (idx l.length h) = wd l (idx l.length h) ||| msk s h := by simp [wd, hi]
    rw [this, UInt64.toNat_or, Nat.testBit_or]
    simp
  · have : wd (l.set (idx l.length h) (wd l (idx l.length h) ||| msk s h)) i = wd l i := by simp [wd, hi, e]
    rw [this]
    simp [e]
theorem setAll_bit (s : Nat) (hs : List UInt32) : ∀ (l : List UInt64) (i t : Nat), i < l.length → (wd (setAll s l hs) i).toNat.testBit t = ((wd l i).toNat.testBit t || hit s l.length hs i t) := by
  induction hs with
  | nil => intro l i t _; simp [setAll, hit]
  | cons h hs ih =>
    intro l i t hi
    have e : setAll s l (h :: hs) = setAll s (setW s l h) hs := rfl
    rw [e, ih (setW s l h) i t (by rw [setW_len]; exact hi), setW_bit s l h i t hi, setW_len]
    simp [hit, Bool.or_assoc]
theorem lacks_bits (x m : UInt64) : ((x &&& m) != m) = false ↔ ∀ t, m.toNat.testBit t = true → x.toNat.testBit t = true := by
  simp only [bne_eq_false_iff_eq, ← UInt64.toNat_inj, UInt64.toNat_and]
  constructor
  · intro h t ht
    have := congrArg (fun z => z.testBit t) h
    simp only [Nat.testBit_and, ht, Bool.and_true] at this
    exact this
  · intro h
    apply Nat.eq_of_testBit_eq
    intro t
    rw [Nat.testBit_and]
    cases ht : m.toNat.testBit t
    · simp
    · simp [h t ht]
theorem lacks_put (s : Nat) (l : List UInt64) (hs : List UInt32) (h : UInt32) (hm : h ∈ hs) (h0 : 0 < l.length) : lacksB (setAll s l hs) s h = false := by
  unfold lacksB
  have : ((wd (setAll s l hs) (idx (setAll s l hs).length h) &&& msk (s : Int).toNat h) != msk (s : Int).toNat h) = false := by
    rw [lacks_bits, setAll_len]
    intro t ht
    rw [setAll_bit s hs l _ t (idx_lt _ _ h0)]
    have : hit s l.length hs (idx l.length h) t = true := by
      simp only [hit, List.any_eq_true, Bool.and_eq_true]
      exact ⟨h, hm, by simp, ht⟩
    simp [this]
  rw [this, Bool.and_false]
end Go.Proofs.Ytpcgedngikpnoaa.Siv
namespace Go.Proofs.Ytpcgedngikpnoaa
open Go.RowKit

def sumF (f : Nat → List Int) : Nat → Nat
  | 0 => 0
  | m + 1 => sumF f m + (f m).length
theorem sum_le (f : Nat → List Int) (B : Nat) (h : ∀ k, (f k).length ≤ B) : ∀ m, sumF f m ≤ m * B
  | 0 => by simp [sumF]
  | m + 1 => by
    have h1 := sum_le f B h m
    have h2 := h m
    rw [sumF, Nat.add_mul]
    omega
theorem inB_at {ss : List Sym} {cnt b k : Nat} (hk : k < ss.length) : inB ss cnt b k = (seenB ss[k] && (bkt (hashS ss[k].name) cnt == b)) := by simp [inB, hk]
theorem sum_succ (ss : List Sym) (cnt k : Nat) (hk : k < ss.length) : ∀ m, sumF (fillS ss cnt (k + 1)) m = sumF (fillS ss cnt k) m + (if seenB ss[k] = true ∧ bkt (hashS ss[k].name) cnt < m then 1 else 0)
  | 0 => by simp [sumF]
  | m + 1 => by
    rw [sumF, sumF, sum_succ ss cnt k hk m, fill_succ, List.length_append, inB_at hk]
    generalize bkt (hashS ss[k].name) cnt = b
    cases hs : seenB ss[k]
    · simp
    · simp only [Bool.true_and, true_and, beq_iff_eq]
      by_cases h1 : b = m
      · subst h1
        simp
        omega
      · by_cases h2 : b < m
        · rw [if_pos h2, if_neg h1, if_pos (by omega)]
          simp
          omega
        · rw [if_neg h2, if_neg h1, if_neg (by omega)]
          simp
theorem sum_all (ss : List Sym) (cnt : Nat) (h0 : 0 < cnt) : ∀ k, k ≤ ss.length → sumF (fillS ss cnt k) cnt = (hashesS (ss.take k)).length
  | 0, _ => by
    have : ∀ m, sumF (fillS ss cnt 0) m = 0 := by
      intro m
      induction m with
      | zero => rfl
      | succ m ih => rw [sumF, ih]; rfl
    rw [this]
    rfl
  | k + 1, hk => by
    have hkl : k < ss.length := by omega
    rw [sum_succ ss cnt k hkl, sum_all ss cnt h0 k (by omega), hashes_take hkl, List.length_append]
    have hb := bkt_lt (hashS ss[k].name) h0
    cases hs : seenB ss[k]
    · simp
    · simp [hb]
def mAt (r : Sym) (ss : List Sym) (v : Bool) (x : Int) : Bool := match ss[x.toNat]? with
  | some d => matchB r d v
  | none => false
theorem mAt_nat {r : Sym} {ss : List Sym} {v : Bool} {k : Nat} (hk : k < ss.length) : mAt r ss v (k : Int) = matchB r ss[k] v := by simp [mAt, hk]
theorem goF_cons {r : Sym} {ss : List Sym} {v : Bool} {k e : Nat} {l : List Int} (hk : k < ss.length) : goF r ss v ((k : Int) :: l) e = if mAt r ss v (k : Int) = true then ((k : Int), e + 1) else goF r ss v l (e + 1) := by
  rw [goF, if_neg (by omega)]
  rfl
theorem goF_spec (r : Sym) (ss : List Sym) (v : Bool) : ∀ (l : List Int) (e : Nat), (∀ x ∈ l, ∃ k : Nat, x = (k : Int) ∧ k < ss.length) →
    (∃ (a : List Int) (k : Nat) (b : List Int), l = a ++ (k : Int) :: b ∧ (∀ x ∈ a, mAt r ss v x = false) ∧ k < ss.length ∧ mAt r ss v (k : Int) = true ∧ goF r ss v l e = ((k : Int), e + a.length + 1)) ∨ ((∀ x ∈ l, mAt r ss v x = false) ∧ goF r ss v l e = (-1, e + l.length))
  | [], e, _ => .inr ⟨by simp, rfl⟩
  | x :: l, e, h => by
    obtain ⟨k, rfl, hk⟩ := h x (by simp)
    cases hm : mAt r ss v (k : Int)
    · rcases goF_spec r ss v l (e + 1) (fun y hy => h y (by simp [hy])) with ⟨a, j, b, h1, h2, h3, h4, h5⟩ | ⟨h1, h2⟩
      · refine .inl ⟨(k : Int) :: a, j, b, by rw [h1]; rfl, ?_, h3, h4, ?_⟩
        · intro y hy
          rcases List.mem_cons.1 hy with rfl | hy
          · exact hm
          · exact h2 y hy
        · rw [goF_cons hk, hm, if_neg (by simp), h5, List.length_cons]
          congr 1
          omega
      · refine .inr ⟨?_, ?_⟩
        · intro y hy
          rcases List.mem_cons.1 hy with rfl | hy
          · exact hm
          · exact h1 y hy
        · rw [goF_cons hk, hm, if_neg (by simp), h2, List.length_cons]
          congr 1
          omega
    · exact .inl ⟨[], k, l, rfl, by simp, hk, hm, by rw [goF_cons hk, hm, if_pos rfl]; rfl⟩
theorem fill_mem {ss : List Sym} {cnt k b : Nat} {x : Int} : x ∈ fillS ss cnt k b ↔ ∃ j : Nat, x = (j : Int) ∧ j < k ∧ inB ss cnt b j = true := by
  unfold fillS
  simp only [List.mem_map, List.mem_filter, List.mem_range]
  constructor
  · rintro ⟨j, ⟨h1, h2⟩, rfl⟩
    exact ⟨j, rfl, h1, h2⟩
  · rintro ⟨j, rfl, h1, h2⟩
    exact ⟨j, ⟨h1, h2⟩, rfl⟩
theorem fill_sorted (ss : List Sym) (cnt k b : Nat) : (fillS ss cnt k b).Pairwise (· < ·) := by
  unfold fillS
  rw [List.pairwise_map]
  refine List.Pairwise.imp ?_ (List.pairwise_lt_range.filter (inB ss cnt b))
  intro a b h
  omega
theorem match_name {r d : Sym} {v : Bool} (h : matchB r d v = true) : seenB d = true ∧ d.name = r.name := by
  unfold matchB at h
  split at h
  · cases h
  · rename_i hn
    simp only [Bool.or_eq_true, Bool.not_eq_true', bne_iff_ne, ne_eq, not_or, Bool.not_eq_false, Decidable.not_not] at hn
    exact hn
/-- The first one of all symbols that matches. -/
def firstS (r : Sym) (ss : List Sym) : Int := match ss.findIdx? (fun d => matchB r d (ss.any vdB)) with
  | some i => (i : Int)
  | none => -1
theorem first_is {r : Sym} {ss : List Sym} {k : Nat} (hk : k < ss.length) (h : matchB r ss[k] (ss.any vdB) = true) (hlt : ∀ j (hj : j < ss.length), j < k → matchB r ss[j] (ss.any vdB) = false) : firstS r ss = (k : Int) := by
  have : ss.findIdx? (fun d => matchB r d (ss.any vdB)) = some k := by
    rw [List.findIdx?_eq_some_iff_getElem]
    exact ⟨hk, h, fun j hj => by rw [hlt j (by omega) hj]; simp⟩
  rw [firstS, this]
theorem first_none {r : Sym} {ss : List Sym} (h : ∀ j (hj : j < ss.length), matchB r ss[j] (ss.any vdB) = false) : firstS r ss = -1 := by
  have : ss.findIdx? (fun d => matchB r d (ss.any vdB)) = none := by
    rw [List.findIdx?_eq_none_iff]
    intro d hd
    obtain ⟨j, hj, rfl⟩ := List.getElem_of_mem hd
    exact h j hj
  rw [firstS, this]
theorem hash_mem {ss : List Sym} {j : Nat} (hj : j < ss.length) (h : seenB ss[j] = true) : hashS ss[j].name ∈ hashesS ss := by
  unfold hashesS
  exact List.mem_map.2 ⟨ss[j], List.mem_filter.2 ⟨List.getElem_mem hj, h⟩, rfl⟩
/-- By a bucket that holds what is seen of a name's hash the first one is found. -/
theorem bucket_first (r : Sym) (ss : List Sym) (n : Nat) : (goF r ss (ss.any vdB) (fillS ss n ss.length (bkt (hashS r.name) n)) 0).1 = firstS r ss ∧ ((goF r ss (ss.any vdB) (fillS ss n ss.length (bkt (hashS r.name) n)) 0).2 ≤ (fillS ss n ss.length (bkt (hashS r.name) n)).length ∧ (0 ≤ (goF r ss (ss.any vdB) (fillS ss n ss.length (bkt (hashS r.name) n)) 0).1 → 1 ≤ (goF r ss (ss.any vdB) (fillS ss n ss.length (bkt (hashS r.name) n)) 0).2) ∧ (0 ≤ (goF r ss (ss.any vdB) (fillS ss n ss.length (bkt (hashS r.name) n)) 0).1 ∨ (goF r ss (ss.any vdB) (fillS ss n ss.length (bkt (hashS r.name) n)) 0).2 = (fillS ss n ss.length (bkt (hashS r.name) n)).length)) := by
  have hval : ∀ x ∈ fillS ss n ss.length (bkt (hashS r.name) n), ∃ k : Nat, x = (k : Int) ∧ k < ss.length := by
    intro x hx
    obtain ⟨j, h1, h2, _⟩ := fill_mem.1 hx
    exact ⟨j, h1, h2⟩
  have hin : ∀ j (hj : j < ss.length), matchB r ss[j] (ss.any vdB) = true → (j : Int) ∈ fillS ss n ss.length (bkt (hashS r.name) n) := by
    intro j hj hm
    obtain ⟨h1, h2⟩ := match_name hm
    exact fill_mem.2 ⟨j, rfl, hj, by rw [inB_at hj, h1, h2]; simp⟩
  have hsort := fill_sorted ss n ss.length (bkt (hashS r.name) n)
  generalize fillS ss n ss.length (bkt (hashS r.name) n) = l at *
  rcases goF_spec r ss (ss.any vdB) l 0 hval with ⟨a, k, b, h1, h2, h3, h4, h5⟩ | ⟨h1, h2⟩
  · rw [h5]
    refine ⟨(first_is h3 (by rw [← mAt_nat h3]; exact h4) fun j hj hjk => ?_).symm, ?_, ?_, ?_⟩
    · cases hm : matchB r ss[j] (ss.any vdB)
      · rfl
      · have hmem := hin j hj hm
        rw [h1] at hmem
        rcases List.mem_append.1 hmem with h | h
        · have := h2 _ h
          rw [mAt_nat hj, hm] at this
          exact this
        · exfalso
          rw [h1, List.pairwise_append] at hsort
          have hs2 := hsort.2.1
          rw [List.pairwise_cons] at hs2
          rcases List.mem_cons.1 h with h | h
          · omega
          · have := hs2.1 _ h
            omega
    · rw [h1, List.length_append, List.length_cons]
      show 0 + a.length + 1 ≤ _
      omega
    · intro _
      show 1 ≤ 0 + a.length + 1
      omega
    · left
      show (0 : Int) ≤ (k : Int)
      omega
  · rw [h2]
    refine ⟨(first_none fun j hj => ?_).symm, ?_, ?_, ?_⟩
    · cases hm : matchB r ss[j] (ss.any vdB)
      · rfl
      · have := h1 _ (hin j hj hm)
        rw [mAt_nat hj, hm] at this
        exact this
    · show 0 + l.length ≤ _
      omega
    · intro h
      exfalso
      have : (0 : Int) ≤ -1 := h
      omega
    · right
      show 0 + l.length = _
      omega
theorem goF_rows {r : Sym} {ss : List Sym} {n : Nat} {f : Nat → List Int} (h0 : 0 < n) (h : ∀ k, k < n → f k = fillS ss n ss.length k) : f (bkt (hashS r.name) n) = fillS ss n ss.length (bkt (hashS r.name) n) := h _ (bkt_lt _ h0)
/-- By a right table the first one is found. -/
theorem find_first {n : Nat} {f : Nat → List Int} {L : List UInt64} {sh : Int} {r : Sym} {ss : List Sym} (h : rightT n f L sh ss = true) : (findT n f L sh r ss).1 = firstS r ss ∧ (0 ≤ (findT n f L sh r ss).1 → 1 ≤ (findT n f L sh r ss).2) := by
  unfold rightT formT rowsB at h
  simp only [Bool.and_eq_true, decide_eq_true_eq, Bool.not_eq_true', true_and] at h
  obtain ⟨⟨⟨_, h1, _⟩, _⟩, h2, h3⟩ := h
  unfold findT
  by_cases hl : Siv.lacksB L sh (hashS r.name) = true
  · rw [if_pos (.inr hl)]
    refine ⟨(first_none fun j hj => ?_).symm, fun h => ?_⟩
    · cases hm : matchB r ss[j] (ss.any vdB)
      · rfl
      · obtain ⟨q1, q2⟩ := match_name hm
        have hmem := hash_mem hj q1
        rw [q2] at hmem
        rw [List.any_eq_false] at h3
        exact absurd hl (h3 _ hmem)
    · exfalso
      have : (0 : Int) ≤ -1 := h
      omega
  · rw [if_neg (by rintro (h | h); omega; exact hl h), goF_rows (by omega) h2]
    obtain ⟨q1, _, q2, _⟩ := bucket_first r ss n
    exact ⟨q1, q2⟩
/-- What is made is right. -/
theorem made_right {ss : List Sym} (hn : ss.length ≤ 512) : rightT (cntS ss) (fillS ss (cntS ss) ss.length) (filS ss) 6 ss = true := by
  have hc := cntS_le hn
  unfold rightT formT rowsB
  simp only [Bool.and_eq_true, decide_eq_true_eq, Bool.not_eq_true', true_and]
  refine ⟨⟨⟨hn, by omega, by omega⟩, ?_⟩, fun _ _ => trivial, ?_⟩
  · rw [fil_len]
    exact wl_form _
  · rw [List.any_eq_false]
    intro h hm
    have h0 : 0 < (Siv.blank (wlS ss)).length := by
      have := fil_len ss
      unfold filS at this
      rw [Siv.setAll_len] at this
      rw [this]
      unfold wlS wcN
      repeat' split
      all_goals omega
    have := Siv.lacks_put 6 (Siv.blank (wlS ss)) (hashesS ss) h hm h0
    simpa [filS] using this
end Go.Proofs.Ytpcgedngikpnoaa
