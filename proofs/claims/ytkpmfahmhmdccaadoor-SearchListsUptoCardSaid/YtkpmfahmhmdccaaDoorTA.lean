/-
  Tokens and lists, plainly: what a text becomes, how it is cut at a sign, and how texts are joined.
-/
import Derived.Test.YtkpmfahmhmdccaaDoorCom
import Derived.Laws.Strings3
import Derived.Lib.SplitLaws
import Derived.IntWalk
namespace Go.Proofs.YtkpmfahmhmdccaaDoor
open Go.RowKit

abbrev Str := List UInt8
/-- A text. -/
abbrev str (l : Str) : Value := .string ⟨l.toArray⟩
theorem str_of (s : ByteArray) : Value.string s = str s.data.toList := by rw [str, Lib.mk_data]
theorem str_size (l : Str) : (ByteArray.mk l.toArray).size = l.length := by simp [ByteArray.size]
def strs (l : List Str) : List Value := l.map str
@[simp] theorem strs_length (l : List Str) : (strs l).length = l.length := by simp [strs]


def oW : Str := [79, 82, 73, 71, 73, 78]
def lW : Str := [76, 73, 66]
def lV : Str := [108, 105, 98]
/-- What a text becomes: each sign for another text becomes that one. -/
def exp (o : Str) : Str → Option Str
  | [] => some []
  | c :: l => if c ≠ 36 then (exp o l).map (c :: ·) else if oW.isPrefixOf l then (exp o (l.drop 6)).map (o ++ ·) else if lW.isPrefixOf l then (exp o (l.drop 3)).map (lV ++ ·) else none
termination_by l => l.length
decreasing_by all_goals (simp; try omega)
theorem exp_nil (o : Str) : exp o [] = some [] := by rw [exp]
theorem exp_plain (o : Str) (c : UInt8) (l : Str) (h : c ≠ 36) : exp o (c :: l) = (exp o l).map (c :: ·) := by rw [exp, if_pos h]
theorem exp_o (o l : Str) (h : oW.isPrefixOf l = true) : exp o (36 :: l) = (exp o (l.drop 6)).map (o ++ ·) := by rw [exp, if_neg (by simp), if_pos h]
theorem exp_l (o l : Str) (h : oW.isPrefixOf l = false) (h2 : lW.isPrefixOf l = true) : exp o (36 :: l) = (exp o (l.drop 3)).map (lV ++ ·) := by rw [exp, if_neg (by simp), if_neg (by simp [h]), if_pos h2]
theorem exp_no (o l : Str) (h : oW.isPrefixOf l = false) (h2 : lW.isPrefixOf l = false) : exp o (36 :: l) = none := by rw [exp, if_neg (by simp), if_neg (by simp [h]), if_neg (by simp [h2])]
theorem exp_app (o : Str) : ∀ (a b : Str), (∀ x ∈ a, x ≠ 36) → exp o (a ++ b) = (exp o b).map (a ++ ·)
  | [], b, _ => by simp
  | c :: a, b, h => by
    rw [List.cons_append, exp_plain o c _ (h c (by simp)), exp_app o a b (fun x hx => h x (by simp [hx])), Option.map_map]
    rfl

/-- Texts without signs stay. -/
theorem exp_none (o a : Str) (h : ∀ x ∈ a, x ≠ 36) : exp o a = some a := by
  have := exp_app o a [] h
  rw [List.append_nil, exp_nil] at this
  simpa using this

theorem pre_app {w l b : Str} (h : w.isPrefixOf l = true) : w.isPrefixOf (l ++ b) = true := by
  rw [List.isPrefixOf_iff_prefix] at *
  exact h.trans (List.prefix_append l b)
theorem pre_len {w l : Str} (h : w.isPrefixOf l = true) : w.length ≤ l.length := by
  rw [List.isPrefixOf_iff_prefix] at h
  exact h.length_le
/-- Two texts, one behind the other, where the first one is whole. -/
theorem exp_two (o : Str) : ∀ (n : Nat) (a b x : Str), a.length ≤ n → exp o a = some x → exp o (a ++ b) = (exp o b).map (x ++ ·) := by
  intro n
  induction n with
  | zero => intro a b x hn hx; rw [List.length_eq_zero_iff.1 (Nat.le_zero.1 hn)] at *; rw [exp_nil] at hx; injection hx with hx; subst hx; simp
  | succ n ih =>
    intro a b x hn hx
    match a with
    | [] => rw [exp_nil] at hx; injection hx with hx; subst hx; simp
    | c :: l =>
      simp only [List.length_cons] at hn
      by_cases hc : c = 36
      · subst hc
        rw [List.cons_append]
        by_cases h1 : oW.isPrefixOf l = true
        · rw [exp_o o _ h1] at hx
          rw [exp_o o _ (pre_app h1)]
          have hl := pre_len h1
          simp only [oW, List.length_cons, List.length_nil] at hl
          rw [List.drop_append_of_le_length (by omega)]
          cases hy : exp o (l.drop 6) with
          | none => rw [hy] at hx; cases hx
          | some y =>
            rw [hy] at hx
            injection hx with hx
            subst hx
            rw [ih _ b y (by rw [List.length_drop]; omega) hy, Option.map_map]
            cases exp o b <;> simp
        · have h1' : oW.isPrefixOf l = false := Bool.eq_false_iff.2 h1
          by_cases h2 : lW.isPrefixOf l = true
          · rw [exp_l o _ h1' h2] at hx
            have hl := pre_len h2
            simp only [lW, List.length_cons, List.length_nil] at hl
            have h3 : oW.isPrefixOf (l ++ b) = false := by
              match l, h2 with
              | c1 :: l1, h2 =>
                simp only [lW, List.isPrefixOf, Bool.and_eq_true, beq_iff_eq] at h2
                obtain ⟨rfl, h2⟩ := h2
                simp [oW, List.isPrefixOf]
            rw [exp_l o _ h3 (pre_app h2), List.drop_append_of_le_length (by omega)]
            cases hy : exp o (l.drop 3) with
            | none => rw [hy] at hx; cases hx
            | some y =>
              rw [hy] at hx
              injection hx with hx
              subst hx
              rw [ih _ b y (by rw [List.length_drop]; omega) hy, Option.map_map]
              cases exp o b <;> simp
          · rw [exp_no o _ h1' (Bool.eq_false_iff.2 h2)] at hx
            cases hx
      · rw [exp_plain o c _ hc] at hx
        rw [List.cons_append, exp_plain o c _ hc]
        cases hy : exp o l with
        | none => rw [hy] at hx; cases hx
        | some y =>
          rw [hy] at hx
          injection hx with hx
          subst hx
          rw [ih l b y (by omega) hy, Option.map_map]
          rfl

/-- A text, and the error beside it. -/
def expE (o t : Str) : Str × Int :=
  if 200 < t.length then ([], 2) else match exp o t with
    | none => ([], 110)
    | some r => if 200 < r.length then ([], 2) else (r, 0)

/-! Texts cut at a sign. -/
def spl (c : UInt8) : Str → List Str
  | [] => [[]]
  | d :: l => if d = c then [] :: spl c l else match spl c l with
    | [] => []
    | p :: ps => (d :: p) :: ps
theorem spl_ne (c : UInt8) : ∀ l, ∃ p ps, spl c l = p :: ps
  | [] => ⟨_, _, rfl⟩
  | d :: l => by
    rw [spl]
    split
    · exact ⟨_, _, rfl⟩
    · obtain ⟨p, ps, h⟩ := spl_ne c l
      rw [h]; exact ⟨_, _, rfl⟩
theorem spl_no (c : UInt8) : ∀ (a : Str), (∀ x ∈ a, x ≠ c) → spl c a = [a]
  | [], _ => rfl
  | d :: a, h => by rw [spl, if_neg (h d (by simp)), spl_no c a (fun x hx => h x (by simp [hx]))]
theorem spl_app (c : UInt8) : ∀ (a b : Str), (∀ x ∈ a, x ≠ c) → spl c (a ++ c :: b) = a :: spl c b
  | [], b, _ => by rw [List.nil_append, spl, if_pos rfl]
  | d :: a, b, h => by rw [List.cons_append, spl, if_neg (h d (by simp)), spl_app c a b (fun x hx => h x (by simp [hx]))]
theorem spl_length (c : UInt8) : ∀ l, (spl c l).length ≤ l.length + 1
  | [] => by simp [spl]
  | d :: l => by
    have := spl_length c l
    rw [spl]
    split
    · simp; omega
    · obtain ⟨p, ps, h⟩ := spl_ne c l
      rw [h] at this ⊢
      simp at this ⊢; omega

def cutW (o p : Str) : Option (Str × Str) := if oW.isPrefixOf p then some (o, p.drop 6) else if lW.isPrefixOf p then some (lV, p.drop 3) else none
/-- The pieces of a text's parts behind the first one. -/
def pcs (o : Str) : List Str → Option (List Str)
  | [] => some []
  | p :: ps => match cutW o p with
    | none => none
    | some (v, r) => (pcs o ps).map ([v, r] ++ ·)
theorem mem_spl (c : UInt8) : ∀ l p, p ∈ spl c l → ∀ x ∈ p, x ≠ c
  | [], p, h => by simp [spl] at h; subst h; simp
  | d :: l, p, h => by
    rw [spl] at h
    split at h
    · rcases List.mem_cons.1 h with rfl | h
      · simp
      · exact mem_spl c l p h
    · rename_i hd
      obtain ⟨q, qs, hq⟩ := spl_ne c l
      rw [hq] at h
      simp only [List.mem_cons] at h
      rcases h with rfl | h
      · intro x hx
        rcases List.mem_cons.1 hx with rfl | hx
        · exact hd
        · exact mem_spl c l q (by rw [hq]; simp) x hx
      · exact mem_spl c l p (by rw [hq]; simp [h])
theorem spl_first (c : UInt8) (l : Str) : (∃ p, spl c l = [p] ∧ l = p) ∨ ∃ p r, spl c l = p :: spl c r ∧ l = p ++ c :: r ∧ r.length < l.length := by
  induction l with
  | nil => exact .inl ⟨_, rfl, rfl⟩
  | cons d l ih =>
    by_cases h : d = c
    · subst h
      exact .inr ⟨[], l, by rw [spl, if_pos rfl], rfl, by simp⟩
    · rcases ih with ⟨p, h1, h2⟩ | ⟨p, r, h1, h2, h3⟩
      · exact .inl ⟨d :: p, by rw [spl, if_neg h, h1], by rw [h2]⟩
      · exact .inr ⟨d :: p, r, by rw [spl, if_neg h, h1], by rw [h2]; rfl, by simp; omega⟩

theorem pre_cut (w p r : Str) (hw : ∀ x ∈ w, x ≠ 36) : w.isPrefixOf (p ++ 36 :: r) = w.isPrefixOf p := by
  induction w generalizing p with
  | nil => simp
  | cons x w ih =>
    cases p with
    | nil =>
      have := hw x (by simp)
      simp [List.isPrefixOf, this]
    | cons y p =>
      simp only [List.cons_append, List.isPrefixOf]
      rw [ih p (fun z hz => hw z (by simp [hz]))]
theorem oW_no : ∀ x ∈ oW, x ≠ 36 := by decide
theorem lW_no : ∀ x ∈ lW, x ≠ 36 := by decide
/-- Behind a sign. -/
theorem exp_sign (o : Str) : ∀ (n : Nat) (l : Str), l.length ≤ n → exp o (36 :: l) = (pcs o (spl 36 l)).map List.flatten := by
  intro n
  induction n with
  | zero =>
    intro l h
    rw [List.length_eq_zero_iff.1 (Nat.le_zero.1 h)]
    rw [exp_no o _ (by decide) (by decide)]
    rfl
  | succ n ih =>
    intro l hn
    rcases spl_first 36 l with ⟨p, h1, rfl⟩ | ⟨p, r, h1, h2, h3⟩
    · have hp : ∀ x ∈ l, x ≠ 36 := mem_spl 36 l l (by rw [h1]; simp)
      rw [h1, pcs]
      unfold cutW
      split
      · rename_i hh; split at hh
        · cases hh
        · split at hh
          · cases hh
          · rw [exp_no o _ (Bool.eq_false_iff.2 ‹¬ oW.isPrefixOf l = true›) (Bool.eq_false_iff.2 ‹¬ lW.isPrefixOf l = true›)]; rfl
      · rename_i v r hh
        split at hh
        · injection hh with hh; injection hh with e1 e2; subst e1; subst e2
          rw [exp_o o _ ‹_›, exp_none o _ (fun x hx => hp x (List.mem_of_mem_drop hx))]
          simp [pcs]
        · split at hh
          · injection hh with hh; injection hh with e1 e2; subst e1; subst e2
            rw [exp_l o _ (Bool.eq_false_iff.2 ‹¬ oW.isPrefixOf l = true›) ‹_›, exp_none o _ (fun x hx => hp x (List.mem_of_mem_drop hx))]
            simp [pcs]
          · cases hh
    · have hp : ∀ x ∈ p, x ≠ 36 := mem_spl 36 l p (by rw [h1]; simp)
      subst h2
      rw [h1, pcs]
      have hr : r.length ≤ n := by simp at hn; omega
      have ho := pre_cut oW p r oW_no
      have hl := pre_cut lW p r lW_no
      unfold cutW
      split
      · rename_i hh; split at hh
        · cases hh
        · split at hh
          · cases hh
          · rw [exp_no o _ (by rw [ho]; exact Bool.eq_false_iff.2 ‹¬ oW.isPrefixOf p = true›) (by rw [hl]; exact Bool.eq_false_iff.2 ‹¬ lW.isPrefixOf p = true›)]; rfl
      · rename_i v q hh
        split at hh
        · rename_i h6
          injection hh with hh; injection hh with e1 e2; subst e1; subst e2
          have h6l := pre_len h6
          simp only [oW, List.length_cons, List.length_nil] at h6l
          rw [exp_o o _ (by rw [ho]; exact h6), List.drop_append_of_le_length (by omega), exp_app o _ _ (fun x hx => hp x (List.mem_of_mem_drop hx)), ih r hr]
          simp [Option.map_map]
          congr 1
        · split at hh
          · rename_i h5 h6
            injection hh with hh; injection hh with e1 e2; subst e1; subst e2
            have h6l := pre_len h6
            simp only [lW, List.length_cons, List.length_nil] at h6l
            rw [exp_l o _ (by rw [ho]; exact Bool.eq_false_iff.2 h5) (by rw [hl]; exact h6), List.drop_append_of_le_length (by omega), exp_app o _ _ (fun x hx => hp x (List.mem_of_mem_drop hx)), ih r hr]
            simp [Option.map_map]
            congr 1
          · cases hh
theorem exp_pcs (o t : Str) : ∃ p ps, spl 36 t = p :: ps ∧ exp o t = (pcs o ps).map fun l => p ++ l.flatten := by
  rcases spl_first 36 t with ⟨p, h1, rfl⟩ | ⟨p, r, h1, h2, h3⟩
  · have hp : ∀ x ∈ t, x ≠ 36 := mem_spl 36 t t (by rw [h1]; simp)
    exact ⟨t, [], h1, by rw [exp_none o t hp]; simp [pcs]⟩
  · have hp : ∀ x ∈ p, x ≠ 36 := mem_spl 36 t p (by rw [h1]; simp)
    refine ⟨p, _, h1, ?_⟩
    subst h2
    rw [exp_app o _ _ hp, exp_sign o r.length r (Nat.le_refl _), Option.map_map]
    rfl

/-! Lists of texts. -/
def full (p : Str) : Bool := p != []
def cuts (t : Str) : List Str := (spl 58 t).filter full
def jnA (out : Str) : List Str → Str
  | [] => out
  | p :: ps => jnA (if p = [] then out else if out = [] then p else out ++ 58 :: p) ps
def jn (ps : List Str) : Str := jnA [] ps
theorem jnA_snoc (p : Str) : ∀ (ps : List Str) (out : Str), jnA out (ps ++ [p]) = if p = [] then jnA out ps else if jnA out ps = [] then p else jnA out ps ++ 58 :: p
  | [], _ => rfl
  | q :: ps, out => by rw [List.cons_append, jnA, jnA_snoc p ps, jnA]
theorem jn_snoc (p : Str) (ps : List Str) : jn (ps ++ [p]) = if p = [] then jn ps else if jn ps = [] then p else jn ps ++ 58 :: p := by
  unfold jn; rw [jnA_snoc]
theorem cuts_no (a : Str) (h : ∀ x ∈ a, x ≠ 58) : cuts a = if a = [] then [] else [a] := by
  unfold cuts
  rw [spl_no 58 a h]
  by_cases ha : a = [] <;> simp [full, ha]
theorem spl_two (c : UInt8) : ∀ (a b : Str), spl c (a ++ c :: b) = spl c a ++ spl c b
  | [], b => by simp [spl]
  | d :: a, b => by
    show spl c (d :: (a ++ c :: b)) = _
    rw [spl, spl_two c a b, spl]
    split
    · rfl
    · obtain ⟨p, ps, h⟩ := spl_ne c a
      rw [h]; rfl
theorem cuts_two (a b : Str) : cuts (a ++ 58 :: b) = cuts a ++ cuts b := by
  unfold cuts
  rw [spl_two, List.filter_append]
theorem cuts_nil : cuts [] = [] := by rfl
/-- What joined texts are cut into. -/
theorem cuts_jnA : ∀ (ps : List Str) (out : Str), (∀ p ∈ ps, ∀ x ∈ p, x ≠ 58) → cuts (jnA out ps) = cuts out ++ ps.filter full
  | [], out, _ => by simp [jnA]
  | p :: ps, out, h => by
    rw [jnA, cuts_jnA ps _ (fun q hq => h q (by simp [hq]))]
    have hp := cuts_no p (h p (by simp))
    by_cases h1 : p = []
    · subst h1; simp [full]
    · rw [if_neg h1] at hp
      have hf : full p = true := by simp [full, h1]
      rw [if_neg h1, List.filter_cons, if_pos hf]
      by_cases h2 : out = []
      · subst h2; rw [if_pos rfl, hp, cuts_nil]; simp
      · rw [if_neg h2, cuts_two, hp]; simp
theorem cuts_jn (ps : List Str) (h : ∀ p ∈ ps, ∀ x ∈ p, x ≠ 58) : cuts (jn ps) = ps.filter full := by
  unfold jn; rw [cuts_jnA ps [] h, cuts_nil, List.nil_append]
theorem cuts_full (t : Str) : (cuts t).filter full = cuts t := by
  unfold cuts; rw [List.filter_filter]; simp
theorem cuts_mem (t p : Str) (h : p ∈ cuts t) : (∀ x ∈ p, x ≠ 58) ∧ p ≠ [] := by
  unfold cuts at h
  rw [List.mem_filter] at h
  exact ⟨mem_spl 58 t p h.1, by simpa [full] using h.2⟩
theorem cuts_back (t : Str) : cuts (jn (cuts t)) = cuts t := by
  rw [cuts_jn _ (fun p hp => (cuts_mem t p hp).1), cuts_full]
theorem cuts_step (p r : Str) (hp : ∀ x ∈ p, x ≠ 58) : cuts (p ++ 58 :: r) = (if p = [] then [] else [p]) ++ cuts r := by
  rw [cuts_two, cuts_no p hp]
theorem jnA_len : ∀ (n : Nat) (t out : Str), t.length ≤ n → (jnA out (cuts t)).length ≤ out.length + t.length + (if out = [] then 0 else 1) := by
  intro n
  induction n with
  | zero => intro t out h; rw [List.length_eq_zero_iff.1 (Nat.le_zero.1 h), cuts_nil, jnA]; omega
  | succ n ih =>
    intro t out hn
    rcases spl_first 58 t with ⟨p, h1, rfl⟩ | ⟨p, r, h1, h2, h3⟩
    · have hp : ∀ x ∈ t, x ≠ 58 := mem_spl 58 t t (by rw [h1]; simp)
      rw [cuts_no t hp]
      by_cases h1 : t = []
      · rw [if_pos h1, jnA]; omega
      · rw [if_neg h1, jnA, jnA, if_neg h1]
        split <;> simp <;> omega
    · have hp : ∀ x ∈ p, x ≠ 58 := mem_spl 58 t p (by rw [h1]; simp)
      subst h2
      rw [cuts_step p r hp]
      have hr : r.length ≤ n := by simp at hn; omega
      by_cases h1 : p = []
      · subst h1
        rw [if_pos rfl, List.nil_append]
        have := ih r out hr
        simp; omega
      · rw [if_neg h1, List.cons_append, List.nil_append, jnA, if_neg h1]
        have := ih r (if out = [] then p else out ++ 58 :: p) hr
        by_cases h2 : out = []
        · rw [if_pos h2] at this ⊢
          rw [if_neg h1] at this
          subst h2
          simp at this ⊢; omega
        · rw [if_neg h2] at this ⊢
          rw [if_neg (by simp)] at this
          simp at this ⊢; rw [if_neg h2]; omega
theorem jn_len (t : Str) : (jn (cuts t)).length ≤ t.length := by
  have := jnA_len t.length t [] (Nat.le_refl _)
  simpa [jn] using this
end Go.Proofs.YtkpmfahmhmdccaaDoor
