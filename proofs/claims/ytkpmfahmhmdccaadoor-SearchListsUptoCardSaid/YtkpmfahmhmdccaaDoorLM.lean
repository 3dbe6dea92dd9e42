/-
  Paths as lists of parts: no program, no world.
-/
import Derived.Test.YtkpmfahmhmdccaaDoorLC
namespace Go.Proofs.YtkpmfahmhmdccaaDoor.Fil

/-- A list of parts as a text. -/
def T (at_ : List Str) : Str := if at_ = [] then rootS else at_.flatMap (fun p => 47 :: p)
/-- Fit to be told apart again. -/
def Fine (at_ : List Str) : Prop := ∀ p ∈ at_, part p = true ∧ keepPart p = true
def stk (at_ : List Str) (p : Str) : List Str := if p = dots then at_.dropLast else at_ ++ [p]
theorem part_slash {p : Str} (h : part p = true) : 47 ∉ p := by
  intro hm
  simp only [part, Bool.and_eq_true, List.all_eq_true] at h
  have := h.2 47 hm
  revert this
  decide
theorem keep_ne {p : Str} (h : keepPart p = true) : p ≠ [] := by
  rintro rfl
  simp [keepPart] at h
theorem flat_ne {at_ : List Str} (h : at_ ≠ []) : ∃ r, at_.flatMap (fun p => 47 :: p) = 47 :: r := by
  cases at_ with
  | nil => exact absurd rfl h
  | cons p ps => exact ⟨_, rfl⟩
theorem below_T (at_ : List Str) (p : Str) (h : Fine at_) : below (T at_) p = T (at_ ++ [p]) := by
  unfold T
  rw [if_neg (show ¬ at_ ++ [p] = [] by simp)]
  by_cases h0 : at_ = []
  · subst h0
    simp [below]
  · rw [if_neg h0]
    have hne : ¬ at_.flatMap (fun p => 47 :: p) = rootS := by
      intro he
      cases at_ with
      | nil => exact h0 rfl
      | cons q qs =>
        have := keep_ne (h q (by simp)).2
        simp at he
        exact this he.1
    rw [below, if_neg hne]
    simp
theorem lastSlash_app (a p : Str) (h : 47 ∉ p) : lastSlash (a ++ 47 :: p) = a.length := by
  unfold lastSlash
  have hs : (ByteArray.mk (a ++ 47 :: p).toArray).size = a.length + 1 + p.length := by simp [ByteArray.size]; omega
  have hat : ∀ j, (hj : j < (a ++ 47 :: p).length) → (ByteArray.mk (a ++ 47 :: p).toArray).data[j]! = (a ++ 47 :: p)[j] := by
    intro j hj
    rw [getElem!_pos _ _ (by simpa using hj)]
    rfl
  rcases Lib.lastIndexByte_spec ⟨(a ++ 47 :: p).toArray⟩ 47 with ⟨_, hn⟩ | ⟨i, hi, he, hc, hn⟩
  · exfalso
    have := hn a.length (by omega)
    rw [hat a.length (by simp)] at this
    simp at this
  · rw [he]
    have hil : i < (a ++ 47 :: p).length := by simp; omega
    rw [hat i hil] at hc
    congr 1
    rcases Nat.lt_trichotomy i a.length with hlt | heq | hgt
    · exfalso
      have := hn a.length hlt (by omega)
      rw [hat a.length (by simp)] at this
      simp at this
    · exact heq
    · exfalso
      apply h
      rw [List.getElem_append_right (by omega)] at hc
      obtain ⟨k, hk⟩ : ∃ k, i - a.length = k + 1 := ⟨i - a.length - 1, by omega⟩
      simp only [hk, List.getElem_cons_succ] at hc
      have hcc : p[k]'(by simp at hil; omega) = 47 := by
        apply UInt8.toNat_inj.1
        have : ((47 : UInt8).toNat : Int) = 47 := rfl
        omega
      rw [← hcc]
      exact List.getElem_mem _
theorem above_T (at_ : List Str) (h : Fine at_) : above (T at_) = T at_.dropLast := by
  rcases (show at_ = [] ∨ ∃ qs z, at_ = qs ++ [z] from (List.eq_nil_or_concat at_).imp id (fun ⟨qs, z, h⟩ => ⟨qs, z, by rw [h, List.concat_eq_append]⟩)) with rfl | ⟨qs, z, rfl⟩
  · decide +kernel
  · have hz := part_slash (h z (by simp)).1
    rw [List.dropLast_concat]
    have e : T (qs ++ [z]) = qs.flatMap (fun p => 47 :: p) ++ 47 :: z := by
      unfold T
      rw [if_neg (by simp)]
      simp
    rw [e, above, lastSlash_app _ _ hz]
    by_cases h0 : qs = []
    · subst h0
      simp [T]
      rfl
    · obtain ⟨r, hr⟩ := flat_ne h0
      rw [T, if_neg h0, hr]
      have : max ((47 :: r : Str).length : Int) 1 = ((47 :: r : Str).length : Int) := by simp only [List.length_cons]; omega
      rw [this]
      simp
theorem Fine.stk {at_ : List Str} {p : Str} (h : Fine at_) (hp : part p = true ∧ keepPart p = true) : Fine (stk at_ p) := by
  intro q hq
  unfold Proofs.YtkpmfahmhmdccaaDoor.Fil.stk at hq
  split at hq
  · exact h q (List.dropLast_subset _ hq)
  · rcases List.mem_append.1 hq with hq | hq
    · exact h q hq
    · simp at hq; subst hq; exact hp
theorem up_T (at_ : List Str) (p : Str) (h : Fine at_) : up (T at_) p = T (stk at_ p) := by
  unfold up stk
  split
  · exact above_T at_ h
  · exact below_T at_ p h
def stack (at_ ps : List Str) : List Str := ps.foldl stk at_
theorem walkAll_T (ps : List Str) : ∀ (at_ : List Str), Fine at_ → Fine ps → walkAll (T at_) ps = T (stack at_ ps) ∧ Fine (stack at_ ps) := by
  induction ps with
  | nil => intro at_ h _; exact ⟨rfl, h⟩
  | cons p ps ih =>
    intro at_ h hp
    have h1 := h.stk (hp p (by simp))
    have := ih (stk at_ p) h1 (fun q hq => hp q (by simp [hq]))
    refine ⟨?_, this.2⟩
    show walkAll (up (T at_) p) ps = T (stack (stk at_ p) ps)
    rw [up_T at_ p h]
    exact this.1
theorem Fine.nil : Fine [] := fun p hp => by cases hp
theorem absParts_fine {l : Str} {ps : List Str} (h : absParts l = some ps) : Fine ps := fun p hp => ((absParts_ok h).2.2 p hp).2
theorem clean_T (l : Str) : clean l = match absParts l with
    | none => ([], 30)
    | some ps => (T (stack [] ps), 0) := by
  unfold clean
  cases h : absParts l with
  | none => rfl
  | some ps =>
    have := walkAll_T ps [] Fine.nil (absParts_fine h)
    simp only
    rw [← this.1]
    rfl

/-! Lengths. -/
def room (l : List Str) : Nat := (l.map fun p => p.length + 1).sum
theorem room_app (a b : List Str) : room (a ++ b) = room a + room b := by simp [room]
theorem room_T (at_ : List Str) : (T at_).length = if at_ = [] then 1 else room at_ := by
  unfold T room
  split
  · rfl
  · simp [List.length_flatMap]
theorem room_filter (l : List Str) (f : Str → Bool) : room (l.filter f) ≤ room l := by
  induction l with
  | nil => simp
  | cons p l ih =>
    unfold room at *
    rw [List.filter_cons]
    split <;> simp <;> omega
theorem room_split (l : Str) : room (splitS l) = l.length + 1 := by
  induction l with
  | nil => rfl
  | cons c l ih =>
    unfold splitS
    split
    · simp [room] at *; omega
    · split
      · rename_i h; exact absurd h (splitS_ne l)
      · rename_i p ps h
        rw [h] at ih
        simp [room] at *
        omega
theorem room_dropLast (l : List Str) : room l.dropLast ≤ room l := by
  induction l with
  | nil => simp
  | cons p l ih =>
    cases l with
    | nil => simp [room]
    | cons q l => simp [room] at *; omega
theorem room_stack (ps : List Str) : ∀ at_ : List Str, room (stack at_ ps) ≤ room at_ + room ps := by
  induction ps with
  | nil => intro at_; simp [stack, room]
  | cons p ps ih =>
    intro at_
    have h := ih (stk at_ p)
    have h2 : room (stk at_ p) ≤ room at_ + (p.length + 1) := by
      unfold stk
      split
      · have := room_dropLast at_; omega
      · rw [room_app]; simp [room]
    have h3 : room (p :: ps) = p.length + 1 + room ps := by simp [room]
    show room (stack (stk at_ p) ps) ≤ _
    omega
theorem abs_head {l : Str} (h : isAbs l = true) : ∃ r, l = 47 :: r := by
  have := (isAbs_iff l).1 h
  cases l with
  | nil => simp at this
  | cons c r => simp at this; subst this; exact ⟨r, rfl⟩
theorem absParts_room {l : Str} {ps : List Str} (h : absParts l = some ps) : 1 ≤ l.length ∧ room ps ≤ l.length := by
  unfold absParts at h
  split at h
  · rename_i ha
    obtain ⟨r, rfl⟩ := abs_head ha
    refine ⟨by simp, ?_⟩
    unfold partsOf at h
    split at h
    · cases h
    · split at h
      · injection h with h
        subst h
        have h1 : partsIn (splitS (47 :: r)) = partsIn (splitS r) := by
          rw [splitS, if_pos rfl]
          simp [partsIn, keepPart]
        rw [h1]
        have := room_filter (splitS r) keepPart
        have := room_split r
        unfold partsIn
        simp
        omega
      · cases h
  · cases h
theorem splitS_one (p : Str) (h : 47 ∉ p) : splitS p = [p] := by
  induction p with
  | nil => rfl
  | cons c p ih =>
    have hc : ¬ c = 47 := by intro e; subst e; simp at h
    have := ih (fun hm => h (by simp [hm]))
    rw [splitS, if_neg hc, this]
theorem splitS_piece (p : Str) (h : 47 ∉ p) (r : Str) : splitS (p ++ 47 :: r) = p :: splitS r := by
  induction p with
  | nil => simp [splitS]
  | cons c p ih =>
    have hc : ¬ c = 47 := by intro e; subst e; simp at h
    have := ih (fun hm => h (by simp [hm]))
    rw [List.cons_append, splitS, if_neg hc, this]
theorem splitS_flat (at_ : List Str) (h : Fine at_) (h0 : at_ ≠ []) : splitS (at_.flatMap (fun p => 47 :: p)) = [] :: at_ := by
  induction at_ with
  | nil => exact absurd rfl h0
  | cons p at_ ih =>
    have hp := part_slash (h p (by simp)).1
    cases at_ with
    | nil =>
      simp [splitS, splitS_one p hp]
    | cons q at_ =>
      have := ih (fun x hx => h x (by simp [hx])) (by simp)
      obtain ⟨r, hr⟩ := flat_ne (at_ := q :: at_) (by simp)
      rw [List.flatMap_cons, hr, List.cons_append, splitS, if_pos rfl, splitS_piece p hp]
      rw [hr, splitS, if_pos rfl] at this
      injection this with _ this
      rw [this]
theorem abs_T (at_ : List Str) : isAbs (T at_) = true := by
  rw [isAbs_iff]
  unfold T
  split
  · rfl
  · rename_i h
    obtain ⟨r, hr⟩ := flat_ne h
    rw [hr]
    rfl
theorem absParts_T (at_ : List Str) (h : Fine at_) (hl : (T at_).length ≤ 200) : absParts (T at_) = some at_ := by
  unfold absParts
  rw [if_pos (abs_T at_)]
  unfold partsOf
  rw [if_neg (by omega)]
  by_cases h0 : at_ = []
  · subst h0; decide +kernel
  · have hs : splitS (T at_) = [] :: at_ := by rw [T, if_neg h0, splitS_flat at_ h h0]
    rw [hs, if_pos ?_]
    · congr 1
      have : partsIn at_ = at_ := List.filter_eq_self.2 fun p hp => (h p hp).2
      show partsIn ([] :: at_) = at_
      unfold partsIn at *
      rw [List.filter_cons, if_neg (by decide), this]
    · rw [List.all_cons, Bool.and_eq_true]
      exact ⟨by decide, List.all_eq_true.2 fun p hp => (h p hp).1⟩
theorem dots_T (at_ : List Str) (hd : dots ∉ at_) : stack [] at_ = at_ := by
  have : ∀ (l a : List Str), dots ∉ l → stack a l = a ++ l := by
    intro l
    induction l with
    | nil => intro a _; simp [stack]
    | cons p l ih =>
      intro a hn
      have hp : ¬ p = dots := fun e => hn (by simp [e])
      show stack (stk a p) l = _
      rw [stk, if_neg hp, ih _ (fun hm => hn (by simp [hm]))]
      simp
  simpa using this at_ [] hd
theorem stack_dots (ps : List Str) : ∀ at_ : List Str, dots ∉ at_ → dots ∉ stack at_ ps := by
  induction ps with
  | nil => intro at_ h; exact h
  | cons p ps ih =>
    intro at_ h
    refine ih (stk at_ p) ?_
    unfold stk
    split
    · exact fun hm => h (List.dropLast_subset _ hm)
    · rename_i hp
      intro hm
      rcases List.mem_append.1 hm with hm | hm
      · exact h hm
      · simp at hm; exact hp hm.symm

/-- A path that was cleaned stays as it is. -/
theorem clean_idem (l : Str) (h : (clean l).2 = 0) : clean (clean l).1 = clean l ∧ within (clean l).1 = within l ∧ (within l).2 = 0 ∧ 1 ≤ (clean l).1.length ∧ (clean l).1.length ≤ l.length ∧ ∃ r, (clean l).1 = 47 :: r := by
  cases hp : absParts l with
  | none => rw [clean_T, hp] at h; simp at h
  | some ps =>
    have hc : clean l = (T (stack [] ps), 0) := by rw [clean_T, hp]
    have hf := (walkAll_T ps [] Fine.nil (absParts_fine hp)).2
    have hr := absParts_room hp
    have hs := room_stack ps []
    have hl : (T (stack [] ps)).length ≤ l.length := by
      rw [room_T]
      split
      · exact hr.1
      · simp [room] at hs; simp [room] at hr; simp [room]; omega
    have h200 := (absParts_ok hp).1
    have ha := absParts_T (stack [] ps) hf (by omega)
    have hd := dots_T _ (stack_dots ps [] (by simp))
    have hcc : clean (T (stack [] ps)) = (T (stack [] ps), 0) := by
      rw [clean_T, ha]
      simp only
      rw [hd]
    rw [hc]
    refine ⟨hcc, ?_, ?_, ?_, hl, ?_⟩
    · rw [within_eq, within_eq, hcc, hc]
    · rw [within_eq, hc]; rfl
    · have := abs_head (abs_T (stack [] ps))
      obtain ⟨r, hr⟩ := this
      show 1 ≤ (T (stack [] ps)).length
      rw [hr]; simp
    · exact abs_head (abs_T (stack [] ps))
end Go.Proofs.YtkpmfahmhmdccaaDoor.Fil
