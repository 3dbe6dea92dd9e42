/-
  Plain mathematics: what is written is read back, whole, and cut off.
-/
import Derived.Test.YtkgkgagnpmhoiaaT
namespace Go.Proofs.Ytkgkgagnpmhoiaa
open Go.RowKit

theorem val_digs' (n : Int) (size : Nat) (hs : sized size = true) (hf : fitB size n = true) (hi : I64 n) : val (digs n size) = n := by
  have hs' : size = 1 ∨ size = 2 ∨ size = 4 ∨ size = 8 := by simp only [sized, decide_eq_true_eq] at hs; omega
  have d0 := dig_val n 0
  have d1 := dig_val n 1
  have d2 := dig_val n 2
  have d3 := dig_val n 3
  have d4 := dig_val n 4
  have d5 := dig_val n 5
  have d6 := dig_val n 6
  have d7 := dig_val n 7
  simp only [Nat.mul_zero, Nat.reduceMul, Int.reducePow] at d0 d1 d2 d3 d4 d5 d6 d7
  unfold I64 at hi
  rcases hs' with rfl | rfl | rfl | rfl
  · simp [fitB] at hf
    simp only [digs, show List.range 1 = [0] from rfl, List.map, val, valN, wrap64]
    omega
  · simp [fitB] at hf
    simp only [digs, show List.range 2 = [0, 1] from rfl, List.map, val, valN, wrap64]
    omega
  · simp [fitB] at hf
    simp only [digs, show List.range 4 = [0, 1, 2, 3] from rfl, List.map, val, valN, wrap64]
    omega
  · simp only [digs, show List.range 8 = [0, 1, 2, 3, 4, 5, 6, 7] from rfl, List.map, val, valN, wrap64]
    omega

theorem rTake_app' (n : Nat) (l rest : List UInt8) (h : l.length = n) : rTake n (0, l ++ rest) = (l, (0, rest)) := by
  subst h
  unfold rTake
  simp
theorem rNum_back' (n : Int) (size : Nat) (rest : List UInt8) (hs : sized size = true) (hf : fitB size n = true) (hi : I64 n) : rNum size (0, digs n size ++ rest) = (n, (0, rest)) := by
  have h := val_digs' n size hs hf hi
  unfold rNum
  rw [if_pos hs, Int.toNat_natCast, rTake_app' size _ rest (digs_len n size)]
  show (val (digs n size), ((0, rest) : St)) = _
  rw [h]

def encNums (size : Nat) (ns : List Int) : List UInt8 := ns.flatMap fun n => digs n size
def encText (size : Nat) (l : List UInt8) : List UInt8 := digs l.length size ++ l
def encTexts (ss : List (List UInt8)) : List UInt8 := ss.flatMap (encText 2)
def encP (p : Pc) : List UInt8 :=
  if p.kind = 0 then encNums p.size.toNat p.ns else if p.kind = 1 then encTexts p.ss else if p.kind = 2 then encText 4 p.b else if p.kind = 3 then p.b else []
def encAll (ps : List Pc) : List UInt8 := ps.flatMap encP

theorem wNums_ok (size : Nat) (ns : List Int) : ∀ bs : List UInt8, (wNums size ns (0, bs)).1 = 0 → wNums size ns (0, bs) = (0, bs ++ encNums size ns) ∧ ∀ n ∈ ns, fitB size n = true := by
  induction ns with
  | nil => intro bs _; exact ⟨by simp [wNums, encNums], by intro n hn; cases hn⟩
  | cons n ns ih =>
    intro bs h
    have e : wNums size (n :: ns) (0, bs) = wNums size ns (wNum1 size n (0, bs)) := rfl
    rw [e] at h ⊢
    by_cases hf : fitB size n = true
    · have e1 : wNum1 size n (0, bs) = (0, bs ++ digs n size) := by simp [wNum1, hf]
      rw [e1] at h ⊢
      obtain ⟨h1, h2⟩ := ih _ h
      refine ⟨by rw [h1, List.append_assoc]; rfl, ?_⟩
      intro x hx
      rcases List.mem_cons.1 hx with rfl | hx
      · exact hf
      · exact h2 x hx
    · have e1 : wNum1 size n (0, bs) = (10, bs) := by simp [wNum1, hf]
      rw [e1, wNums_stick _ _ _ (show (10 : Int) ≠ 0 by decide)] at h
      exact absurd h (show ¬ (10 : Int) = 0 by decide)
theorem rNums_back (size : Nat) (ns : List Int) (hs : sized size = true) : ∀ rest : List UInt8, (∀ n ∈ ns, fitB size n = true) → (∀ n ∈ ns, I64 n) → rNums size ns (0, encNums size ns ++ rest) = (true, (0, rest)) := by
  induction ns with
  | nil => intro rest _ _; rfl
  | cons n ns ih =>
    intro rest hf hi
    have e : encNums size (n :: ns) ++ rest = digs n size ++ (encNums size ns ++ rest) := by simp [encNums]
    have h1 := rNum_back' n size (encNums size ns ++ rest) hs (hf n (List.mem_cons_self ..)) (hi n (List.mem_cons_self ..))
    rw [e, rNums, h1]
    simp only [if_true]
    exact ih rest (fun x hx => hf x (List.mem_cons_of_mem _ hx)) fun x hx => hi x (List.mem_cons_of_mem _ hx)

/-- The length ahead of a piece. -/
theorem len_digs (size most : Nat) (l : List UInt8) (hs : sized size = true) (h4 : size ≤ 4) (hf : ∀ k : Nat, k ≤ most → fitB size k = true) (hm : most ≤ 1048576) (hl : l.length ≤ most) : valN (digs l.length size) = l.length := by
  have h1 := val_digs' (l.length : Int) size hs (hf _ hl) (by unfold I64; omega)
  have h2 := val_small (digs l.length size) (by rw [digs_len]; exact h4)
  rw [h1] at h2
  omega
theorem rMeas_back (size most : Nat) (l rest : List UInt8) (hs : sized size = true) (h4 : size ≤ 4) (hf : ∀ k : Nat, k ≤ most → fitB size k = true) (hm : most ≤ 1048576) (hl : l.length ≤ most) :
    rMeas size most (0, encText size l ++ rest) = (l, (0, rest)) := by
  have hd := digs_len (l.length : Int) size
  have hv := len_digs size most l hs h4 hf hm hl
  have e : encText size l ++ rest = digs l.length size ++ (l ++ rest) := by simp [encText]
  have ht : (digs l.length size ++ (l ++ rest)).take size = digs l.length size := List.take_left' hd
  have hdr : (digs l.length size ++ (l ++ rest)).drop size = l ++ rest := List.drop_left' hd
  unfold rMeas
  rw [e]
  simp only [ht, hdr, hv, if_true, List.length_append, hd]
  rw [if_neg (by omega), if_neg (by omega), if_neg (by omega), List.take_left' rfl, List.drop_left' rfl]
theorem wMeas_ok (size most : Nat) (l bs : List UInt8) (h : (wMeas size most l (0, bs)).1 = 0) : wMeas size most l (0, bs) = (0, bs ++ encText size l) ∧ l.length ≤ most := by
  by_cases hl : l.length ≤ most
  · exact ⟨by simp [wMeas, hl, encText], hl⟩
  · simp [wMeas, hl] at h
theorem wTexts_ok (ss : List (List UInt8)) : ∀ bs : List UInt8, (wTexts ss (0, bs)).1 = 0 → wTexts ss (0, bs) = (0, bs ++ encTexts ss) ∧ ∀ l ∈ ss, l.length ≤ 4096 := by
  induction ss with
  | nil => intro bs _; exact ⟨by simp [wTexts, encTexts], by intro n hn; cases hn⟩
  | cons l ss ih =>
    intro bs h
    have e : wTexts (l :: ss) (0, bs) = wTexts ss (wMeas 2 4096 l (0, bs)) := rfl
    rw [e] at h ⊢
    by_cases hl : (wMeas 2 4096 l (0, bs)).1 = 0
    · obtain ⟨e1, h1⟩ := wMeas_ok 2 4096 l bs hl
      rw [e1] at h ⊢
      obtain ⟨h2, h3⟩ := ih _ h
      refine ⟨by rw [h2, List.append_assoc]; rfl, ?_⟩
      intro x hx
      rcases List.mem_cons.1 hx with rfl | hx
      · exact h1
      · exact h3 x hx
    · rw [wTexts_stick _ _ hl] at h
      exact absurd h hl
theorem rTexts_back (ss : List (List UInt8)) : ∀ rest : List UInt8, (∀ l ∈ ss, l.length ≤ 4096) → rTexts ss (0, encTexts ss ++ rest) = (true, (0, rest)) := by
  induction ss with
  | nil => intro rest _; rfl
  | cons l ss ih =>
    intro rest hl
    have e : encTexts (l :: ss) ++ rest = encText 2 l ++ (encTexts ss ++ rest) := by simp [encTexts]
    have h1 := rMeas_back 2 4096 l (encTexts ss ++ rest) (by decide) (by omega) fit_text (by omega) (hl l (List.mem_cons_self ..))
    rw [e, rTexts, h1]
    simp only [if_true]
    exact ih rest fun x hx => hl x (List.mem_cons_of_mem _ hx)

/-! A reader with a fault stays as it is. -/
theorem rNum_stick (size : Int) (s : St) (h : s.1 ≠ 0) : (rNum size s).2 = s := by
  unfold rNum
  split
  · show (rTake size.toNat s).2 = s
    simp [rTake, h]
  · simp
theorem rNums_stick (size : Int) (ns : List Int) (s : St) (h : s.1 ≠ 0) : (rNums size ns s).2 = s := by
  induction ns with
  | nil => rfl
  | cons n ns ih =>
    rw [rNums, rNum_stick size s h]
    split
    · exact ih
    · rfl
theorem rMeas_stick (size most : Nat) (s : St) (h : s.1 ≠ 0) : (rMeas size most s).2 = s := by simp [rMeas, h]
theorem rTexts_stick (ss : List (List UInt8)) (s : St) (h : s.1 ≠ 0) : (rTexts ss s).2 = s := by
  induction ss with
  | nil => rfl
  | cons l ss ih =>
    rw [rTexts, rMeas_stick 2 4096 s h]
    split
    · exact ih
    · rfl

/-- What is cut off is short. -/
def Cut (m : Nat) (s : St) : Prop := s.1 = 11 ∧ s.2.length ≤ m
theorem rNum_cut (n : Int) (size m : Nat) (tail : List UInt8) (hs : sized size = true) (hm : m < size) : (rNum size (0, (digs n size ++ tail).take m)).2 = (11, (digs n size ++ tail).take m) := by
  have hl : ((digs n size ++ tail).take m).length = m := by rw [List.length_take, List.length_append, digs_len]; omega
  unfold rNum
  rw [if_pos hs, Int.toNat_natCast]
  show (rTake size (0, (digs n size ++ tail).take m)).2 = _
  unfold rTake
  rw [if_pos rfl, if_neg (by show ¬ size ≤ ((digs n size ++ tail).take m).length; omega)]
theorem take_past (a b : List UInt8) (m : Nat) (h : a.length ≤ m) : (a ++ b).take m = a ++ b.take (m - a.length) := by rw [List.take_append, List.take_of_length_le h]
theorem rNums_cut (size : Nat) (ns : List Int) (hs : sized size = true) : ∀ m : Nat, m < (encNums size ns).length → (∀ n ∈ ns, fitB size n = true) → (∀ n ∈ ns, I64 n) → Cut m (rNums size ns (0, (encNums size ns).take m)).2 := by
  induction ns with
  | nil => intro m h _ _; simp [encNums] at h
  | cons n ns ih =>
    intro m h hf hi
    have e : encNums size (n :: ns) = digs n size ++ encNums size ns := rfl
    rw [e] at h ⊢
    rw [List.length_append, digs_len] at h
    by_cases hm : m < size
    · have h1 := rNum_cut n size m (encNums size ns) hs hm
      have hl : ((digs n size ++ encNums size ns).take m).length ≤ m := List.length_take_le _ _
      rw [rNums, h1]
      split
      · rw [rNums_stick _ _ _ (show (11 : Int) ≠ 0 by decide)]
        exact ⟨rfl, hl⟩
      · exact ⟨rfl, hl⟩
    · rw [take_past _ _ _ (by rw [digs_len]; omega), digs_len, rNums, rNum_back' n size _ hs (hf n (List.mem_cons_self ..)) (hi n (List.mem_cons_self ..))]
      simp only [if_true]
      obtain ⟨a, b⟩ := ih (m - size) (by omega) (fun x hx => hf x (List.mem_cons_of_mem _ hx)) fun x hx => hi x (List.mem_cons_of_mem _ hx)
      exact ⟨a, by omega⟩
theorem rMeas_cut (size most m : Nat) (l tail : List UInt8) (hs : sized size = true) (h4 : size ≤ 4) (hf : ∀ k : Nat, k ≤ most → fitB size k = true) (hm : most ≤ 1048576) (hl : l.length ≤ most) (h : m < size + l.length) :
    (rMeas size most (0, (encText size l ++ tail).take m)).2 = (11, (encText size l ++ tail).take m) := by
  have hd := digs_len (l.length : Int) size
  have hv := len_digs size most l hs h4 hf hm hl
  have hlen : ((encText size l ++ tail).take m).length = m := by rw [List.length_take, List.length_append, encText, List.length_append, hd]; omega
  unfold rMeas
  simp only [if_true, hlen]
  by_cases h1 : m < size
  · rw [if_pos h1]
  · have ht : ((encText size l ++ tail).take m).take size = digs l.length size := by
      rw [List.take_take, Nat.min_eq_left (by omega), encText, List.append_assoc]
      exact List.take_left' hd
    rw [if_neg h1, ht, hv, if_neg (by omega), if_pos (by omega)]
theorem encText_len (size : Nat) (l : List UInt8) : (encText size l).length = size + l.length := by simp [encText, digs_len]
theorem rTexts_cut (ss : List (List UInt8)) : ∀ m : Nat, m < (encTexts ss).length → (∀ l ∈ ss, l.length ≤ 4096) → Cut m (rTexts ss (0, (encTexts ss).take m)).2 := by
  induction ss with
  | nil => intro m h _; simp [encTexts] at h
  | cons l ss ih =>
    intro m h hl
    have e : encTexts (l :: ss) = encText 2 l ++ encTexts ss := rfl
    rw [e] at h ⊢
    rw [List.length_append, encText_len] at h
    by_cases hm : m < 2 + l.length
    · have h1 := rMeas_cut 2 4096 m l (encTexts ss) (by decide) (by omega) fit_text (by omega) (hl l (List.mem_cons_self ..)) hm
      have hlen : ((encText 2 l ++ encTexts ss).take m).length ≤ m := List.length_take_le _ _
      rw [rTexts, h1]
      split
      · rw [rTexts_stick _ _ (show (11 : Int) ≠ 0 by decide)]
        exact ⟨rfl, hlen⟩
      · exact ⟨rfl, hlen⟩
    · rw [take_past _ _ _ (by rw [encText_len]; omega), encText_len, rTexts, rMeas_back 2 4096 l _ (by decide) (by omega) fit_text (by omega) (hl l (List.mem_cons_self ..))]
      simp only [if_true]
      obtain ⟨a, b⟩ := ih (m - (2 + l.length)) (by omega) fun x hx => hl x (List.mem_cons_of_mem _ hx)
      exact ⟨a, by omega⟩

/-- A piece that is put: its bytes; read back, whole and cut off. -/
theorem piece_ok (p : Pc) (bs : List UInt8) (hi : ∀ x ∈ p.ns, I64 x) (h : (wPut p (0, bs)).1 = 0) :
    wPut p (0, bs) = (0, bs ++ encP p) ∧ (∀ rest, rSame p (0, encP p ++ rest) = (true, (0, rest))) ∧ ∀ m, m < (encP p).length → Cut m (rSame p (0, (encP p).take m)).2 := by
  obtain ⟨kind, size, n, ns, ss, b⟩ := p
  unfold wPut at h ⊢
  unfold rSame encP
  simp only at h hi ⊢
  by_cases h0 : kind = 0
  · simp only [h0, if_true] at h ⊢
    by_cases hs : sized size = true
    · obtain ⟨k, rfl⟩ : ∃ k : Nat, size = k := ⟨size.toNat, by simp only [sized, decide_eq_true_eq] at hs; omega⟩
      unfold wNumsA at h ⊢
      rw [if_pos hs, Int.toNat_natCast] at h ⊢
      obtain ⟨h1, h2⟩ := wNums_ok k ns bs h
      exact ⟨h1, fun rest => rNums_back k ns hs rest h2 hi, fun m hm => rNums_cut k ns hs m hm h2 hi⟩
    · unfold wNumsA at h
      rw [if_neg hs, if_pos rfl] at h
      exact absurd h (show ¬ (1 : Int) = 0 by decide)
  simp only [h0, if_false] at h ⊢
  by_cases h1 : kind = 1
  · simp only [h1, if_true] at h ⊢
    obtain ⟨e1, e2⟩ := wTexts_ok ss bs h
    exact ⟨e1, fun rest => rTexts_back ss rest e2, fun m hm => rTexts_cut ss m hm e2⟩
  simp only [h1, if_false] at h ⊢
  by_cases h2 : kind = 2
  · simp only [h2, if_true] at h ⊢
    obtain ⟨e1, e2⟩ := wMeas_ok 4 1048576 b bs h
    refine ⟨e1, fun rest => ?_, fun m hm => ?_⟩
    · rw [rMeas_back 4 1048576 b rest (by decide) (by omega) fit_block (by omega) e2]
      simp
    · rw [encText_len] at hm
      have := rMeas_cut 4 1048576 m b [] (by decide) (by omega) fit_block (by omega) e2 hm
      rw [List.append_nil] at this
      rw [this]
      exact ⟨rfl, List.length_take_le _ _⟩
  simp only [h2, if_false] at h ⊢
  by_cases h3 : kind = 3
  · simp only [h3, if_true] at h ⊢
    refine ⟨by simp [putIf], fun rest => ?_, fun m hm => ?_⟩
    · rw [rTake_app' b.length b rest rfl]
      simp
    · have hl : (b.take m).length = m := by rw [List.length_take]; omega
      have : rTake b.length (0, b.take m) = ([], (11, b.take m)) := by
        unfold rTake
        rw [if_pos rfl, if_neg (by show ¬ b.length ≤ (b.take m).length; omega)]
      rw [this]
      exact ⟨rfl, by show (b.take m).length ≤ m; omega⟩
  simp only [h3, if_false] at h ⊢
  exact ⟨by simp, fun rest => by simp, fun m hm => by simp at hm⟩

theorem all_ok (ps : List Pc) (hi : ∀ p ∈ ps, ∀ x ∈ p.ns, I64 x) : ∀ bs : List UInt8, (wAll ps (0, bs)).1 = 0 → wAll ps (0, bs) = (0, bs ++ encAll ps) ∧
    ∀ p ∈ ps, (∀ rest, rSame p (0, encP p ++ rest) = (true, (0, rest))) ∧ ∀ m, m < (encP p).length → Cut m (rSame p (0, (encP p).take m)).2 := by
  induction ps with
  | nil => intro bs _; exact ⟨by simp [wAll, encAll], by intro p hp; cases hp⟩
  | cons p ps ih =>
    intro bs h
    have e : wAll (p :: ps) (0, bs) = wAll ps (wPut p (0, bs)) := rfl
    rw [e] at h ⊢
    by_cases hp : (wPut p (0, bs)).1 = 0
    · obtain ⟨e1, e2⟩ := piece_ok p bs (hi p (List.mem_cons_self ..)) hp
      rw [e1] at h ⊢
      obtain ⟨h1, h2⟩ := ih (fun q hq => hi q (List.mem_cons_of_mem _ hq)) _ h
      refine ⟨by rw [h1, List.append_assoc]; rfl, ?_⟩
      intro q hq
      rcases List.mem_cons.1 hq with rfl | hq
      · exact e2
      · exact h2 q hq
    · rw [wAll_stick _ _ hp] at h
      exact absurd h hp
end Go.Proofs.Ytkgkgagnpmhoiaa
