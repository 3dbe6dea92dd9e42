/-
  Plain facts: when a table is right, by the document's conditions.
-/
import Derived.Test.YtpcgedngikpnoaaTS
namespace Go.Proofs.Ytpcgedngikpnoaa
set_option maxRecDepth 100000
set_option linter.unusedSimpArgs false
set_option linter.unusedVariables false
open Go.RowKit

theorem sorted_sub : ∀ (m l : List Int), l.Pairwise (· < ·) → m.Pairwise (· < ·) → (∀ x ∈ l, x ∈ m) → l.Sublist m
  | [], l, _, _, h => by
    cases l with
    | nil => exact List.Sublist.slnil
    | cons x l => exact absurd (h x (by simp)) (by simp)
  | y :: m, [], _, _, _ => List.nil_sublist _
  | y :: m, x :: l, hl, hm, h => by
    rw [List.pairwise_cons] at hl hm
    by_cases hxy : x = y
    · subst hxy
      refine List.Sublist.cons_cons x (sorted_sub m l hl.2 hm.2 fun z hz => ?_)
      rcases List.mem_cons.1 (h z (by simp [hz])) with rfl | hz'
      · exact absurd (hl.1 _ hz) (by omega)
      · exact hz'
    · have hxm : x ∈ m := by
        rcases List.mem_cons.1 (h x (by simp)) with e | e
        · exact absurd e hxy
        · exact e
      have hyx := hm.1 x hxm
      refine List.Sublist.cons y (sorted_sub m (x :: l) (List.pairwise_cons.2 hl) hm.2 fun z hz => ?_)
      rcases List.mem_cons.1 (h z hz) with e | e
      · subst e
        rcases List.mem_cons.1 hz with e | e
        · omega
        · have := hl.1 _ e
          omega
      · exact e
theorem sum_eq {f g : Nat → List Int} : ∀ n, (∀ k, k < n → (f k).length ≤ (g k).length) → sumF g n ≤ sumF f n → ∀ k, k < n → (f k).length = (g k).length
  | 0, _, _, k, hk => absurd hk (Nat.not_lt_zero _)
  | n + 1, h, hs, k, hk => by
    have hle : ∀ m, (∀ k, k < m → (f k).length ≤ (g k).length) → sumF f m ≤ sumF g m := by
      intro m
      induction m with
      | zero => intro _; exact Nat.le_refl _
      | succ m ih =>
        intro h
        have h1 := ih fun k hk => h k (by omega)
        have h2 := h m (by omega)
        rw [sumF, sumF]
        omega
    have h1 := hle n fun k hk => h k (by omega)
    have h2 := h n (by omega)
    rw [sumF, sumF] at hs
    by_cases hkn : k = n
    · subst hkn
      omega
    · exact sum_eq n (fun k hk => h k (by omega)) (by omega) k (by omega)
theorem sum_mono (f : Nat → List Int) {m n : Nat} (h : m ≤ n) : sumF f m ≤ sumF f n := by
  induction n with
  | zero => obtain rfl : m = 0 := by omega
            exact Nat.le_refl _
  | succ n ih =>
    by_cases e : m = n + 1
    · subst e; exact Nat.le_refl _
    · have := ih (by omega)
      rw [sumF]
      omega
theorem sum_same {f g : Nat → List Int} : ∀ n, (∀ k, k < n → f k = g k) → sumF f n = sumF g n
  | 0, _ => rfl
  | n + 1, h => by rw [sumF, sumF, sum_same n (fun k hk => h k (by omega)), h n (by omega)]
theorem cnt_mem {l : List Int} {x : Int} (h : cntL l x = 1) : x ∈ l := by
  unfold cntL at h
  have : (l.filter (· == x)) ≠ [] := by
    intro e
    rw [e] at h
    simp at h
  obtain ⟨y, hy⟩ := List.exists_mem_of_ne_nil _ this
  rw [List.mem_filter] at hy
  have : y = x := by simpa using hy.2
  rw [← this]
  exact hy.1
theorem cnt_one : ∀ {l : List Int} {x : Int}, l.Pairwise (· < ·) → x ∈ l → cntL l x = 1
  | y :: l, x, hl, hx => by
    rw [List.pairwise_cons] at hl
    by_cases e : y = x
    · subst e
      have : l.filter (· == y) = [] := by
        rw [List.filter_eq_nil_iff]
        intro z hz
        have := hl.1 z hz
        simp
        omega
      simp [cntL, this]
    · have hxl : x ∈ l := by
        rcases List.mem_cons.1 hx with h | h
        · exact absurd h.symm e
        · exact h
      have := cnt_one hl.2 hxl
      unfold cntL at *
      simp [e, this]
theorem seen_at {ss : List Sym} {k : Nat} (hk : k < (seenL ss ss.length).length) : ∃ j, ∃ hj : j < ss.length, (seenL ss ss.length)[k] = (j : Int) ∧ seenB ss[j] = true := by
  have hm := List.getElem_mem hk
  unfold seenL at hm
  simp only [List.mem_map, List.mem_filter, List.mem_range] at hm
  obtain ⟨j, ⟨h1, h2⟩, h3⟩ := hm
  exact ⟨j, h1, by unfold seenL; exact h3.symm, by rw [← seenAt_at h1]; exact h2⟩
theorem seen_has {ss : List Sym} {j : Nat} (hj : j < ss.length) (h : seenB ss[j] = true) : ∃ k, ∃ hk : k < (seenL ss ss.length).length, (seenL ss ss.length)[k] = (j : Int) := by
  have : (j : Int) ∈ seenL ss ss.length := by
    unfold seenL
    simp only [List.mem_map, List.mem_filter, List.mem_range]
    exact ⟨j, ⟨hj, by rw [seenAt_at hj]; exact h⟩, rfl⟩
  obtain ⟨k, hk, e⟩ := List.getElem_of_mem this
  exact ⟨k, hk, e⟩
section
variable {n : Nat} {f : Nat → List Int} {L : List UInt64} {sh : Int} {ss : List Sym}
/-- What a right table's rows are. -/
theorem of_right (h : rightT n f L sh ss = true) : 0 < n ∧ (∀ k, k < n → f k = fillS ss n ss.length k) ∧ ∀ h ∈ hashesS ss, Siv.lacksB L sh h = false := by
  unfold rightT formT rowsB at h
  simp only [Bool.and_eq_true, decide_eq_true_eq, Bool.not_eq_true', true_and] at h
  obtain ⟨⟨⟨_, h1, _⟩, _⟩, h2, h3⟩ := h
  exact ⟨by omega, h2, fun x hx => by
    rw [List.any_eq_false] at h3
    simpa using h3 x hx⟩
theorem right_no (h : rightT n f L sh ss = true → False) : rightT n f L sh ss = false := by
  cases e : rightT n f L sh ss
  · rfl
  · exact (h e).elim
theorem right_sum (h : rightT n f L sh ss = true) : sumF f n = (seenL ss ss.length).length := by
  obtain ⟨h0, h1, _⟩ := of_right h
  rw [sum_same n h1, sum_all ss n h0 ss.length (Nat.le_refl _), seen_hashes ss ss.length (Nat.le_refl _)]
theorem right_sorted (h : rightT n f L sh ss = true) {b : Nat} (hb : b < n) : (f b).Pairwise (· < ·) := by
  obtain ⟨_, h1, _⟩ := of_right h
  rw [h1 b hb]
  exact fill_sorted _ _ _ _
theorem right_one (h : rightT n f L sh ss = true) {j : Nat} (hj : j < ss.length) (hs : seenB ss[j] = true) : cntL (f (bkt (hashS ss[j].name) n)) (j : Int) = 1 ∧ Siv.lacksB L sh (hashS ss[j].name) = false := by
  obtain ⟨h0, h1, h2⟩ := of_right h
  refine ⟨?_, h2 _ (hash_mem hj hs)⟩
  rw [h1 _ (bkt_lt _ h0)]
  exact cnt_one (fill_sorted _ _ _ _) (fill_mem.2 ⟨j, rfl, hj, by rw [inB_at hj, hs]; simp⟩)
theorem right_of (hf : formT n L.length sh ss.length = true) (hs : ∀ z, z < n → (f z).Pairwise (· < ·)) (ho : ∀ j (hj : j < ss.length), seenB ss[j] = true → cntL (f (bkt (hashS ss[j].name) n)) (j : Int) = 1 ∧ Siv.lacksB L sh (hashS ss[j].name) = false) (hm : sumF f n = (seenL ss ss.length).length) : rightT n f L sh ss = true := by
  have h0 : 0 < n := by
    unfold formT at hf
    simp only [Bool.and_eq_true, decide_eq_true_eq] at hf
    omega
  have hsub : ∀ b, b < n → (fillS ss n ss.length b).Sublist (f b) := fun b hb => sorted_sub _ _ (fill_sorted _ _ _ _) (hs b hb) fun x hx => by
    obtain ⟨j, rfl, hj, hin⟩ := fill_mem.1 hx
    rw [inB_at hj] at hin
    simp only [Bool.and_eq_true, beq_iff_eq] at hin
    have := (ho j hj hin.1).1
    rw [hin.2] at this
    exact cnt_mem this
  have hsum : sumF f n ≤ sumF (fillS ss n ss.length) n := by
    rw [hm, sum_all ss n h0 ss.length (Nat.le_refl _), seen_hashes ss ss.length (Nat.le_refl _)]
    exact Nat.le_refl _
  have hlen := sum_eq n (fun k hk => (hsub k hk).length_le) hsum
  unfold rightT
  rw [hf, Bool.true_and, rows_yes (fun k hk => ((hsub k hk).eq_of_length (hlen k hk)).symm), Bool.true_and, Bool.not_eq_true']
  rw [List.any_eq_false]
  intro h hh
  unfold hashesS at hh
  obtain ⟨s, hs', rfl⟩ := List.mem_map.1 hh
  rw [List.mem_filter] at hs'
  obtain ⟨j, hj, rfl⟩ := List.getElem_of_mem hs'.1
  have := (ho j hj hs'.2).2
  simp [this]
end
theorem sorted_take {l : List Int} {k : Nat} (hk : k + 1 < l.length) (h : (l.take (k + 1)).Pairwise (· < ·)) (hlt : l[k] < l[k + 1]) : (l.take (k + 2)).Pairwise (· < ·) := by
  rw [List.take_succ_eq_append_getElem hk, List.pairwise_append]
  refine ⟨h, by simp, fun x hx y hy => ?_⟩
  obtain rfl : y = l[k + 1] := by simpa using hy
  rw [List.take_succ_eq_append_getElem (by omega : k < l.length)] at h hx
  rcases List.mem_append.1 hx with hx | hx
  · rw [List.pairwise_append] at h
    have := h.2.2 x hx l[k] (by simp)
    omega
  · obtain rfl : x = l[k] := by simpa using hx
    exact hlt
theorem sorted_at {l : List Int} {k : Nat} (hk : k + 1 < l.length) (h : l.Pairwise (· < ·)) : l[k] < l[k + 1] := List.pairwise_iff_getElem.1 h k (k + 1) (by omega) hk (by omega)
end Go.Proofs.Ytpcgedngikpnoaa
