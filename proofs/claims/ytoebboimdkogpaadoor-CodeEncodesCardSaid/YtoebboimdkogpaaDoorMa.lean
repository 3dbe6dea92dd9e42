/-
  Lines and texts as plain functions: what is printed is read as it was, and what is read is printed as it stood.
-/
import Derived.Test.YtoebboimdkogpaaDoorM
import Derived.Test.YtoebboimdkogpaaDoorP
namespace Go.Proofs.YtoebboimdkogpaaDoor
open Go.RowKit

/-- What stands for a letter of a form. -/
def wordS (i : Ins) (f : UInt8) : Str := (if f = 110 then [] else [114]) ++ Lib.itoa (partOf i f)
def argsS (i : Ins) (fs : Str) : Str := fs.flatMap fun f => 32 :: wordS i f
/-- A line, without its end. -/
def bodyOf (i : Ins) : Str := match shapeOf i.op with
  | none => []
  | some s => s.name ++ argsS i (formL s)
def lineOf (i : Ins) : Str := bodyOf i ++ [10]
def textOf (is : List Ins) : Str := is.flatMap lineOf

/-! Digits. -/
theorem dec_digits : ∀ (f u : Nat), u ≤ f → ∀ c ∈ Lib.decDigits u, 48 ≤ c.toNat ∧ c.toNat ≤ 57
  | f, u, hf, c, hc => by
    rw [Lib.decDigits] at hc
    split at hc
    · have : c = UInt8.ofNat (48 + u) := by simpa using hc
      subst this
      rw [UInt8.toNat_ofNat', Nat.mod_eq_of_lt (by omega)]
      omega
    · match f, hf with
      | 0, hf => omega
      | f + 1, hf =>
        rcases List.mem_append.1 hc with hc | hc
        · exact dec_digits f (u / 10) (by omega) c hc
        · have : c = UInt8.ofNat (48 + u % 10) := by simpa using hc
          subst this
          rw [UInt8.toNat_ofNat', Nat.mod_eq_of_lt (by omega)]
          omega
theorem itoa_digits (v : Int) : ∀ c ∈ Lib.itoa v, 45 ≤ c.toNat ∧ c.toNat ≤ 57 := by
  intro c hc
  unfold Lib.itoa at hc
  split at hc
  · rcases List.mem_cons.1 hc with rfl | hc
    · decide
    · have := dec_digits _ _ (Nat.le_refl _) c hc
      omega
  · have := dec_digits _ _ (Nat.le_refl _) c hc
    omega
theorem dec_small : ∀ (k u : Nat), u < 10 ^ (k + 1) → (Lib.decDigits u).length ≤ k + 1
  | k, u, h => by
    rw [Lib.decDigits]
    split
    · simp
    · match k with
      | 0 => simp at h; omega
      | k + 1 =>
        have h1 : u / 10 < 10 ^ (k + 1) := by
          rw [Nat.div_lt_iff_lt_mul (by decide)]
          rw [Nat.pow_succ] at h
          exact h
        have := dec_small k (u / 10) h1
        rw [List.length_append, List.length_singleton]
        omega
theorem itoa_num (v : Int) (h1 : -2147483648 ≤ v) (h2 : v ≤ 2147483647) : (Lib.itoa v).length ≤ 11 := by
  unfold Lib.itoa
  split
  · have := dec_small 9 v.natAbs (by omega)
    simp only [List.length_cons]
    omega
  · have := dec_small 9 v.toNat (by omega)
    omega
theorem itoa_reg (v : Int) (h1 : 0 ≤ v) (h2 : v < 16) : (Lib.itoa v).length ≤ 2 := by
  unfold Lib.itoa
  split
  · omega
  · have := dec_small 1 v.toNat (by omega)
    omega

/-! Words, joined and cut. -/
theorem cut_app (c : UInt8) : ∀ (a b : Str), (∀ x ∈ a, x ≠ c) → cut c (a ++ c :: b) = a :: cut c b
  | [], b, _ => by rw [List.nil_append, cut, if_pos rfl]
  | x :: a, b, h => by
    rw [List.cons_append, cut, if_neg (h x (by simp)), cut_app c a b (fun y hy => h y (by simp [hy]))]
theorem cut_one (c : UInt8) : ∀ (a : Str), (∀ x ∈ a, x ≠ c) → cut c a = [a]
  | [], _ => rfl
  | x :: a, h => by
    rw [cut, if_neg (h x (by simp)), cut_one c a (fun y hy => h y (by simp [hy]))]
theorem cut_joined (c : UInt8) : ∀ (xs : List Str) (x : Str), (∀ y ∈ x :: xs, ∀ z ∈ y, z ≠ c) → cut c (x ++ xs.flatMap (fun y => c :: y)) = x :: xs
  | [], x, h => by simpa using cut_one c x (h x (by simp))
  | y :: xs, x, h => by
    have e : x ++ (y :: xs).flatMap (fun y => c :: y) = x ++ c :: (y ++ xs.flatMap (fun y => c :: y)) := by simp
    rw [e, cut_app c x _ (h x (by simp)), cut_joined c xs y (fun z hz => h z (by simp at hz ⊢; exact .inr hz))]
theorem join_cut (c : UInt8) : ∀ (l : Str) (x : Str) (xs : List Str), cut c l = x :: xs → l = x ++ xs.flatMap (fun y => c :: y)
  | [], x, xs, h => by
    rw [cut] at h
    cases h
    rfl
  | y :: l, x, xs, h => by
    by_cases hy : y = c
    · subst hy
      rw [cut_hit] at h
      cases h
      cases hc : cut y l with
      | nil => exact absurd hc (cut_ne y l)
      | cons p ps =>
        conv => lhs; rw [join_cut y l p ps hc]
        simp
    · obtain ⟨p, ps, h1, h2⟩ := cut_cons c y l hy
      rw [h2] at h
      cases h
      conv => lhs; rw [join_cut c l p xs h1]
      rfl
theorem argsS_words (i : Ins) (fs : Str) : argsS i fs = (fs.map (wordS i)).flatMap (fun y => 32 :: y) := by
  unfold argsS
  rw [List.flatMap_map]
theorem wordS_no (i : Ins) (f c : UInt8) (hc : c.toNat < 45) : ∀ z ∈ wordS i f, z ≠ c := by
  intro z hz e
  subst e
  unfold wordS at hz
  rcases List.mem_append.1 hz with hz | hz
  · split at hz
    · cases hz
    · have : z = 114 := by simpa using hz
      subst this
      exact absurd hc (by decide)
  · have := itoa_digits _ _ hz
    omega
theorem names_no : ∀ (k : Nat) (hk : k < 23), ∀ z ∈ (shapes[k]'hk).name, z ≠ 32 ∧ z ≠ 10 := by decide

/-! Arguments. -/
theorem partOf_with (j : Ins) (f : UInt8) (n : Int) : partOf (withP j f n) f = n := by
  unfold withP partOf
  split
  · rename_i h; rfl
  · split
    · rfl
    · split <;> rfl
def letters : Str := [97, 98, 99, 110]
theorem partOf_other (j : Ins) (f g : UInt8) (n : Int) (hf : f ∈ letters) (hg : g ∈ letters) (h : f ≠ g) : partOf (withP j f n) g = partOf j g := by
  simp only [letters, List.mem_cons, List.not_mem_nil, or_false] at hf hg
  rcases hf with rfl | rfl | rfl | rfl <;> rcases hg with rfl | rfl | rfl | rfl <;> first | exact absurd rfl h | rfl
theorem withP_op (j : Ins) (f : UInt8) (n : Int) : (withP j f n).op = j.op := by
  unfold withP
  split
  · rfl
  · split
    · rfl
    · split <;> rfl
theorem argsM_words (i : Ins) : ∀ (fs : Str) (j : Ins), (∀ f ∈ fs, I64 (partOf i f)) → argsM fs (fs.map (wordS i)) j = some (fs.foldl (fun j f => withP j f (partOf i f)) j)
  | [], j, _ => rfl
  | f :: fs, j, h => by
    have hn : numOf f (wordS i f) = some (partOf i f) := by
      unfold numOf wordS
      split
      · rw [List.nil_append, decM_itoa _ (h f (by simp))]
      · rw [List.singleton_append]
        simp only [if_true]
        rw [decM_itoa _ (h f (by simp))]
    rw [List.map_cons, argsM, hn]
    simp only
    rw [argsM_words i fs _ (fun g hg => h g (by simp [hg]))]
    rfl
theorem numOf_some {f : UInt8} {x : Str} {n : Int} (h : numOf f x = some n) : x = (if f = 110 then [] else [114]) ++ Lib.itoa n ∧ I64 n := by
  unfold numOf at h
  split at h
  · rename_i hf
    rw [if_pos hf]
    exact decM_some h
  · rename_i hf
    rw [if_neg hf]
    split at h
    · cases h
    · split at h
      · rename_i r d hr
        subst hr
        obtain ⟨h1, h2⟩ := decM_some h
        rw [h1]
        exact ⟨rfl, h2⟩
      · cases h
theorem argsM_part : ∀ (fs : Str) (xs : List Str) (j i : Ins) (g : UInt8), argsM fs xs j = some i → (∀ f ∈ fs, f ∈ letters) → g ∈ letters → g ∉ fs → partOf i g = partOf j g ∧ i.op = j.op
  | [], [], j, i, g, h, _, _, _ => by
    rw [argsM] at h
    cases h
    exact ⟨rfl, rfl⟩
  | [], _ :: _, j, i, g, h, _, _, _ => by rw [argsM] at h; cases h
  | _ :: _, [], j, i, g, h, _, _, _ => by rw [argsM] at h; cases h
  | f :: fs, x :: xs, j, i, g, h, hl, hg, hno => by
    rw [argsM] at h
    split at h
    · cases h
    · rename_i n hn
      obtain ⟨h1, h2⟩ := argsM_part fs xs _ i g h (fun y hy => hl y (by simp [hy])) hg (fun hy => hno (by simp [hy]))
      exact ⟨by rw [h1, partOf_other j f g n (hl f (by simp)) hg (fun e => hno (by simp [e]))], by rw [h2, withP_op]⟩
theorem argsM_inv : ∀ (fs : Str) (xs : List Str) (j i : Ins), argsM fs xs j = some i → (∀ f ∈ fs, f ∈ letters) → fs.Nodup → xs = fs.map (wordS i)
  | [], [], j, i, h, _, _ => rfl
  | [], _ :: _, j, i, h, _, _ => by rw [argsM] at h; cases h
  | _ :: _, [], j, i, h, _, _ => by rw [argsM] at h; cases h
  | f :: fs, x :: xs, j, i, h, hl, hnd => by
    rw [argsM] at h
    split at h
    · cases h
    · rename_i n hn
      obtain ⟨h0, h1⟩ := List.nodup_cons.1 hnd
      obtain ⟨h2, _⟩ := argsM_part fs xs _ i f h (fun y hy => hl y (by simp [hy])) (hl f (by simp)) h0
      rw [partOf_with] at h2
      rw [List.map_cons, ← argsM_inv fs xs _ i h (fun y hy => hl y (by simp [hy])) h1, (numOf_some hn).1]
      unfold wordS
      rw [h2]
theorem form_plain (r : Nat) (m : Bool) (hr : r ≤ 3) : (∀ f ∈ [(97 : UInt8), 98, 99].take r ++ (if m = true then [110] else []), f ∈ letters) ∧ ([(97 : UInt8), 98, 99].take r ++ (if m = true then [110] else [])).Nodup := by
  have h : r = 0 ∨ r = 1 ∨ r = 2 ∨ r = 3 := by omega
  rcases h with rfl | rfl | rfl | rfl <;> cases m <;> exact ⟨by decide, by decide⟩
theorem form_letters (s : Shp) (hr : s.regs ≤ 3) : (∀ f ∈ formL s, f ∈ letters) ∧ (formL s).Nodup := form_plain s.regs s.num hr
theorem regOk_range {k : Bool} {r : Int} (h : regOk k r = true) : 0 ≤ r ∧ r < 16 := by
  unfold regOk at h
  simp only [Bool.and_eq_true, decide_eq_true_eq] at h
  exact h.2
theorem regOk_zero_of {r : Int} (h : regOk false r = true) : r = 0 := by
  unfold regOk at h
  simp at h
  exact h.1
theorem numOk_range {m : Bool} {n : Int} (h : numOk m n = true) : -2147483648 ≤ n ∧ n ≤ 2147483647 := by
  unfold numOk at h
  split at h
  · simpa using h
  · have : n = 0 := by simpa using h
    omega
/-- What may be, taken apart. -/
theorem may_parts {i : Ins} (h : mayB i = true) : ∃ (k : Nat) (hk : k < 23), i.op = k ∧ shapeOf i.op = some (shapes[k]'hk) ∧ (0 ≤ i.a ∧ i.a < 16) ∧ (0 ≤ i.b ∧ i.b < 16) ∧ (0 ≤ i.c ∧ i.c < 16) ∧ (-2147483648 ≤ i.n ∧ i.n ≤ 2147483647) ∧
    (¬ 0 < (shapes[k]'hk).regs → i.a = 0) ∧ (¬ 1 < (shapes[k]'hk).regs → i.b = 0) ∧ (¬ 2 < (shapes[k]'hk).regs → i.c = 0) ∧ ((shapes[k]'hk).num = false → i.n = 0) := by
  unfold mayB at h
  split at h
  · cases h
  · rename_i s hs
    obtain ⟨k, hk, h1, rfl⟩ := shapeOf_some hs
    unfold regsOk at h
    simp only [Bool.and_eq_true] at h
    obtain ⟨⟨ha, hb, hc⟩, hn⟩ := h
    refine ⟨k, hk, h1, hs, regOk_range ha, regOk_range hb, regOk_range hc, numOk_range hn, ?_, ?_, ?_, ?_⟩
    · intro h; rw [decide_eq_false h] at ha; exact regOk_zero_of ha
    · intro h; rw [decide_eq_false h] at hb; exact regOk_zero_of hb
    · intro h; rw [decide_eq_false h] at hc; exact regOk_zero_of hc
    · intro h; rw [h] at hn; simpa [numOk] using hn
theorem fold_parts (i : Ins) (k : Int) (s : Shp) (hs : s.regs ≤ 3) (hk : i.op = k) (ha : ¬ 0 < s.regs → i.a = 0) (hb : ¬ 1 < s.regs → i.b = 0) (hc : ¬ 2 < s.regs → i.c = 0) (hn : s.num = false → i.n = 0) :
    (formL s).foldl (fun j f => withP j f (partOf i f)) ⟨k, 0, 0, 0, 0⟩ = i := by
  obtain ⟨nm, r, m⟩ := s
  obtain ⟨op, a, b, c, n⟩ := i
  simp only at *
  subst hk
  have hr : r = 0 ∨ r = 1 ∨ r = 2 ∨ r = 3 := by omega
  rcases hr with rfl | rfl | rfl | rfl <;> cases m <;> simp [formL, withP, partOf] <;> simp at ha hb hc hn <;> simp [*]
theorem typed_body (i : Ins) (h : mayB i = true) : typedM (bodyOf i) = some i := by
  obtain ⟨k, hk, hop, hs, ⟨a1, a2⟩, ⟨b1, b2⟩, ⟨c1, c2⟩, ⟨n1, n2⟩, za, zb, zc, zn⟩ := may_parts h
  have hI : ∀ f, I64 (partOf i f) := by
    intro f
    unfold partOf I64
    split
    · omega
    · split
      · omega
      · split <;> omega
  have hsk : shapes[k]? = some (shapes[k]'hk) := List.getElem?_eq_getElem (show k < shapes.length from hk)
  have hox := opIdx_at _ k hk rfl
  have hfo := fold_parts i k _ (shapes_regs k hk) hop za zb zc zn
  have hno := names_no k hk
  unfold typedM bodyOf
  simp only [hs]
  generalize shapes[k]'hk = s at *
  rw [argsS_words, cut_joined 32]
  · unfold wordsM
    simp only [hox, hsk]
    rw [argsM_words i _ _ (fun f _ => hI f), hfo]
    simp [h]
  · intro y hy z hz
    rcases List.mem_cons.1 hy with rfl | hy
    · exact (hno z hz).1
    · obtain ⟨f, _, rfl⟩ := List.mem_map.1 hy
      exact wordS_no i f 32 (by decide) z hz
theorem typed_inv {l : Str} {i : Ins} (h : typedM l = some i) : l = bodyOf i ∧ mayB i = true := by
  unfold typedM wordsM at h
  cases hc : cut 32 l with
  | nil => exact absurd hc (cut_ne 32 l)
  | cons x xs =>
    rw [hc] at h
    simp only at h
    cases hx : opIdx x with
    | none => rw [hx] at h; cases h
    | some k =>
      obtain ⟨hk, hn⟩ := opIdx_some hx
      have hsk : shapes[k]? = some (shapes[k]'hk) := List.getElem?_eq_getElem (show k < shapes.length from hk)
      have hso := shapeOf_in k hk
      obtain ⟨f1, f2⟩ := form_letters (shapes[k]'hk) (shapes_regs k hk)
      rw [hx] at h
      generalize shapes[k]'hk = s at *
      simp only [hsk] at h
      cases ha : argsM (formL s) xs ⟨k, 0, 0, 0, 0⟩ with
      | none => rw [ha] at h; cases h
      | some j =>
        rw [ha] at h
        simp only at h
        split at h
        · rename_i hm
          cases h
          have hxs := argsM_inv _ _ _ _ ha f1 f2
          have hsub : ∀ (fs : Str) (xs : List Str) (j i : Ins), argsM fs xs j = some i → i.op = j.op := by
            intro fs
            induction fs with
            | nil =>
              intro xs j i h
              cases xs with
              | nil => rw [argsM] at h; cases h; rfl
              | cons => rw [argsM] at h; cases h
            | cons f fs ih =>
              intro xs j i h
              cases xs with
              | nil => rw [argsM] at h; cases h
              | cons x xs =>
                rw [argsM] at h
                split at h
                · cases h
                · rw [ih _ _ _ h, withP_op]
          have hop : i.op = (k : Int) := hsub _ _ _ _ ha
          refine ⟨?_, hm⟩
          rw [join_cut 32 l x xs hc]
          unfold bodyOf
          rw [hop, hso]
          simp only
          rw [argsS_words, ← hxs, hn]
        · cases h
theorem body_no (i : Ins) (h : mayB i = true) : ∀ z ∈ bodyOf i, z ≠ 10 := by
  obtain ⟨k, hk, hop, hs, _⟩ := may_parts h
  intro z hz
  unfold bodyOf at hz
  simp only [hs] at hz
  rcases List.mem_append.1 hz with hz | hz
  · exact (names_no k hk z hz).2
  · rw [argsS_words] at hz
    obtain ⟨y, hy, hz⟩ := List.mem_flatMap.1 hz
    obtain ⟨f, _, rfl⟩ := List.mem_map.1 hy
    rcases List.mem_cons.1 hz with rfl | hz
    · decide
    · exact wordS_no i f 10 (by decide) z hz
theorem names_len : ∀ (k : Nat) (hk : k < 23), (shapes[k]'hk).name.length ≤ 5 := by decide
theorem body_len (i : Ins) (h : mayB i = true) : (bodyOf i).length ≤ 30 := by
  obtain ⟨k, hk, hop, hs, ⟨a1, a2⟩, ⟨b1, b2⟩, ⟨c1, c2⟩, ⟨n1, n2⟩, _⟩ := may_parts h
  have ka := itoa_reg i.a a1 a2
  have kb := itoa_reg i.b b1 b2
  have kc := itoa_reg i.c c1 c2
  have kn := itoa_num i.n n1 n2
  have hl := names_len k hk
  have hr := shapes_regs k hk
  unfold bodyOf
  simp only [hs]
  generalize shapes[k]'hk = s at *
  obtain ⟨nm, r, m⟩ := s
  simp only at *
  have hr' : r = 0 ∨ r = 1 ∨ r = 2 ∨ r = 3 := by omega
  rcases hr' with rfl | rfl | rfl | rfl <;> cases m <;> simp [formL, argsS, wordS, partOf] <;> omega

/-! Texts. -/
def joinL (ls : List Str) : Str := ls.flatMap fun l => l ++ [10]
theorem lns_join : ∀ (ls : List Str), (∀ l ∈ ls, ∀ z ∈ l, z ≠ 10) → lns (joinL ls) = ls
  | [], _ => rfl
  | l :: ls, h => by
    have e : joinL (l :: ls) = l ++ 10 :: joinL ls := by simp [joinL]
    rw [e, lns_app _ _ (h l (by simp)), lns_join ls (fun y hy => h y (by simp [hy]))]
theorem lns_nil {s : Str} (h : lns s = []) : s = [] := by
  cases s with
  | nil => rfl
  | cons c l =>
    rw [lns] at h
    split at h
    · cases h
    · split at h <;> cases h
theorem join_lns : ∀ (s : Str), joinL (lns s) = s ∨ joinL (lns s) = s ++ [10]
  | [] => .inl rfl
  | c :: l => by
    rw [lns]
    split
    · rename_i hc
      subst hc
      rcases join_lns l with h | h
      · exact .inl (by rw [← show (10 :: joinL (lns l)) = joinL ([] :: lns l) from rfl, h])
      · exact .inr (by rw [← show (10 :: joinL (lns l)) = joinL ([] :: lns l) from rfl, h]; rfl)
    · split
      · rename_i hn
        have := lns_nil hn
        subst this
        exact .inr rfl
      · rename_i p ps hp
        have e : joinL ((c :: p) :: ps) = c :: joinL (p :: ps) := rfl
        rw [e, ← hp]
        rcases join_lns l with h | h
        · exact .inl (by rw [h])
        · exact .inr (by rw [h]; rfl)
theorem text_join (is : List Ins) : textOf is = joinL (is.map bodyOf) := by
  unfold textOf joinL
  rw [List.flatMap_map]
  rfl
theorem lns_text (is : List Ins) (h : is.all mayB = true) : lns (textOf is) = is.map bodyOf := by
  rw [text_join]
  refine lns_join _ fun l hl => ?_
  obtain ⟨i, hi, rfl⟩ := List.mem_map.1 hl
  exact body_no i (List.all_eq_true.1 h i hi)
theorem typed_text (is : List Ins) (h : is.all mayB = true) : (lns (textOf is)).map typedM = is.map some := by
  rw [lns_text is h, List.map_map]
  refine List.map_congr_left fun i hi => ?_
  exact typed_body i (List.all_eq_true.1 h i hi)
theorem typed_all : ∀ (ls : List Str) (is : List Ins), ls.map typedM = is.map some → ls = is.map bodyOf ∧ is.all mayB = true
  | [], [], _ => ⟨rfl, rfl⟩
  | [], _ :: _, h => by simp at h
  | _ :: _, [], h => by simp at h
  | l :: ls, i :: is, h => by
    simp only [List.map_cons, List.cons.injEq] at h
    obtain ⟨h1, h2⟩ := typed_inv h.1
    obtain ⟨h3, h4⟩ := typed_all ls is h.2
    exact ⟨by rw [List.map_cons, ← h1, ← h3], by rw [List.all_cons, h2, h4]; rfl⟩
/-- What was read is printed as it stood. -/
theorem text_back (s : Str) (is : List Ins) (h : (lns s).map typedM = is.map some) : is.all mayB = true ∧ (textOf is = s ∨ textOf is = s ++ [10]) := by
  obtain ⟨h1, h2⟩ := typed_all _ _ h
  refine ⟨h2, ?_⟩
  rw [text_join, ← h1]
  exact join_lns s
theorem text_app (a b : List Ins) : textOf (a ++ b) = textOf a ++ textOf b := by simp [textOf]
theorem text_len (is : List Ins) (h : is.all mayB = true) : (textOf is).length ≤ is.length * 31 := by
  induction is with
  | nil => exact Nat.le_refl _
  | cons i is ih =>
    rw [List.all_cons, Bool.and_eq_true] at h
    have e : textOf (i :: is) = bodyOf i ++ [10] ++ textOf is := by simp [textOf, lineOf]
    have := body_len i h.1
    have := ih h.2
    rw [e, List.length_append, List.length_append, List.length_singleton, List.length_cons]
    omega
theorem text_take (is : List Ins) (k : Nat) (hk : k < is.length) : textOf (is.take (k + 1)) = textOf (is.take k) ++ lineOf is[k] := by
  rw [List.take_succ_eq_append_getElem hk, text_app]
  simp [textOf]
theorem encL_app (a b : List Ins) : encL (a ++ b) = encL a ++ encL b := by simp [encL]
end Go.Proofs.YtoebboimdkogpaaDoor
