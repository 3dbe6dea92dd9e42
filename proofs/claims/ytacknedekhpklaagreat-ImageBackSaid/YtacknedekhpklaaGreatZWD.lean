/-
  What is written and read back, piece by piece: plain words.
  The writer of images: a word, and a table (written by mkv.py).
-/
import Derived.Test.YtacknedekhpklaaGreatZPA
import Derived.Test.YtacknedekhpklaaGreatZWC
namespace Go.Proofs.YtacknedekhpklaaGreat
set_option maxRecDepth 100000
set_option linter.unusedSimpArgs false
set_option linter.unusedVariables false
open Go.RowKit

/-- A way to write a thing, and to read it; Ok: what can be written. A reading tells whether something stands in no form. -/
structure Cd {α : Type} (Ok : α → Prop) (f : α → St → St) (r : St → α × Bool × St) : Prop where
  stick : ∀ s, s.1 ≠ 0 → (r s).2.2 = s
  back : ∀ x, Ok x → ∃ d, (∀ bs, f x (0, bs) = (0, bs ++ d)) ∧ ∀ rest, r (0, d ++ rest) = (x, false, (0, rest))
  form : ∀ s, (r s).2.2.1 = 0 → (r s).2.1 = false → ∃ d, s.2 = d ++ (r s).2.2.2 ∧ ∀ bs, f (r s).1 (0, bs) = (0, bs ++ d)
theorem st_eta (s : St) (h : s.1 = 0) : s = (0, s.2) := by
  obtain ⟨e, l⟩ := s
  simp only at h
  rw [h]
theorem Cd.was {α : Type} {Ok : α → Prop} {f : α → St → St} {r : St → α × Bool × St} (h : Cd Ok f r) {s : St} (h0 : (r s).2.2.1 = 0) : s.1 = 0 := by
  by_cases hs : s.1 = 0
  · exact hs
  · rw [h.stick s hs] at h0
    exact h0
def rdNum (size : Int) (s : St) : Int × Bool × St := ((rNum size s).1, false, (rNum size s).2)
def rdText (s : St) : Str × Bool × St := ((rMeas 2 4096 s).1, false, (rMeas 2 4096 s).2)
def rdBlock (s : St) : Str × Bool × St := ((rMeas 4 1048576 s).1, false, (rMeas 4 1048576 s).2)
theorem cdNum (size : Nat) (hs : sized size = true) : Cd (fun n => fitB size n = true ∧ I64 n) (fun n => wNumsA size [n]) (rdNum size) := by
  refine ⟨fun s h => rNum_stick _ s h, fun n hn => ⟨digs n size, fun bs => ?_, fun rest => ?_⟩, fun s h _ => ?_⟩
  · unfold wNumsA
    rw [if_pos hs, Int.toNat_natCast]
    simp [wNums, wNum1, hn.1]
  · unfold rdNum
    rw [rNum_back' n size rest hs hn.1 hn.2]
  · obtain ⟨d, h1, h2⟩ := num_form size s [] h
    refine ⟨d, h1, fun bs => ?_⟩
    obtain ⟨d', h3, h4⟩ := num_form size s bs h
    have : d' = d := List.append_cancel_right (h3.symm.trans h1)
    rw [← this]
    exact h4
theorem cdMeas (size most : Nat) (hs : sized size = true) (h4 : size ≤ 4) (hf : ∀ k : Nat, k ≤ most → fitB size k = true) (hm : most ≤ 1048576) :
    Cd (fun l : Str => l.length ≤ most) (fun l => wMeas size most l) (fun s => ((rMeas size most s).1, false, (rMeas size most s).2)) := by
  refine ⟨fun s h => rMeas_stick _ _ s h, fun l hl => ⟨encText size l, fun bs => ?_, fun rest => ?_⟩, fun s h _ => ?_⟩
  · exact (wMeas_ok size most l bs (by simp [wMeas, hl])).1
  · show ((rMeas size most (0, encText size l ++ rest)).1, false, (rMeas size most (0, encText size l ++ rest)).2) = _
    rw [rMeas_back size most l rest hs h4 hf hm hl]
  · obtain ⟨d, h1, h2, _⟩ := meas_form size most s [] hs h4 h
    refine ⟨d, h1, fun bs => ?_⟩
    obtain ⟨d', h3, h4, _⟩ := meas_form size most s bs hs h4 h
    have : d' = d := List.append_cancel_right (h3.symm.trans h1)
    rw [← this]
    exact h4
theorem cdText : Cd (fun l : Str => l.length ≤ 4096) (fun l => wTexts [l]) rdText := cdMeas 2 4096 (by decide) (by decide) fit_text (by decide)
theorem cdBlock : Cd (fun l : Str => l.length ≤ 1048576) (fun l => wMeas 4 1048576 l) rdBlock := cdMeas 4 1048576 (by decide) (by decide) fit_block (by decide)
/-- A number of one, two or four bytes is not below nought. -/
theorem rNum_small (size : Nat) (h4 : size ≤ 4) (s : St) : 0 ≤ (rNum size s).1 := by
  unfold rNum
  split
  · rw [Int.toNat_natCast]
    show 0 ≤ val (rTake size s).1
    rw [val_small _ (Nat.le_trans (rTake_len _ _) h4)]
    omega
  · exact Int.le_refl _
def rdPair {α β : Type} (r1 : St → α × Bool × St) (r2 : St → β × Bool × St) (s : St) : (α × β) × Bool × St :=
  (((r1 s).1, (r2 (r1 s).2.2).1), (r1 s).2.1 || (r2 (r1 s).2.2).2.1, (r2 (r1 s).2.2).2.2)
theorem Cd.pair {α β : Type} {O1 : α → Prop} {O2 : β → Prop} {f1 : α → St → St} {f2 : β → St → St} {r1 : St → α × Bool × St} {r2 : St → β × Bool × St} (h1 : Cd O1 f1 r1) (h2 : Cd O2 f2 r2) :
    Cd (fun p : α × β => O1 p.1 ∧ O2 p.2) (fun p s => f2 p.2 (f1 p.1 s)) (rdPair r1 r2) := by
  refine ⟨fun s h => ?_, fun p hp => ?_, fun s h0 hb => ?_⟩
  · show (r2 (r1 s).2.2).2.2 = s
    rw [h1.stick s h, h2.stick s h]
  · obtain ⟨d1, a1, b1⟩ := h1.back p.1 hp.1
    obtain ⟨d2, a2, b2⟩ := h2.back p.2 hp.2
    refine ⟨d1 ++ d2, fun bs => ?_, fun rest => ?_⟩
    · show f2 p.2 (f1 p.1 (0, bs)) = _
      rw [a1, a2, List.append_assoc]
    · unfold rdPair
      rw [List.append_assoc, b1, b2]
      rfl
  · have h0' : (r2 (r1 s).2.2).2.2.1 = 0 := h0
    have hb' : ((r1 s).2.1 || (r2 (r1 s).2.2).2.1) = false := hb
    rw [Bool.or_eq_false_iff] at hb'
    have hm := h2.was h0'
    obtain ⟨d1, a1, b1⟩ := h1.form s hm hb'.1
    obtain ⟨d2, a2, b2⟩ := h2.form _ h0' hb'.2
    refine ⟨d1 ++ d2, ?_, fun bs => ?_⟩
    · show s.2 = d1 ++ d2 ++ (r2 (r1 s).2.2).2.2.2
      rw [a1, a2, List.append_assoc]
    · show f2 (r2 (r1 s).2.2).1 (f1 (r1 s).1 (0, bs)) = _
      rw [b1, b2, List.append_assoc]
theorem Cd.map {α β : Type} {O : α → Prop} {f : α → St → St} {r : St → α × Bool × St} (h : Cd O f r) (g : α → β) (k : β → α) (hg : ∀ y, g (k y) = y) (hk : ∀ s, (r s).2.2.1 = 0 → (r s).2.1 = false → k (g (r s).1) = (r s).1) :
    Cd (fun y => O (k y)) (fun y => f (k y)) (fun s => (g (r s).1, (r s).2)) := by
  refine ⟨fun s hs => h.stick s hs, fun y hy => ?_, fun s h0 hb => ?_⟩
  · obtain ⟨d, a, b⟩ := h.back (k y) hy
    refine ⟨d, a, fun rest => ?_⟩
    show (g (r (0, d ++ rest)).1, (r (0, d ++ rest)).2) = _
    rw [b, hg]
  · obtain ⟨d, a, b⟩ := h.form s h0 hb
    refine ⟨d, a, fun bs => ?_⟩
    show f (k (g (r s).1)) (0, bs) = _
    rw [hk s h0 hb, b]
theorem Cd.same {α : Type} {O O' : α → Prop} {f f' : α → St → St} {r r' : St → α × Bool × St} (h : Cd O f r) (hO : ∀ x, O' x → O x) (hf : ∀ x s, f' x s = f x s) (hr : ∀ s, r' s = r s) : Cd O' f' r' := by
  have e1 : f' = f := funext fun x => funext fun s => hf x s
  have e2 : r' = r := funext hr
  subst e1 e2
  exact ⟨h.stick, fun x hx => h.back x (hO x hx), h.form⟩
def rdMany {α : Type} (r : St → α × Bool × St) : Nat → St → List α × Bool × St
  | 0, s => ([], false, s)
  | n + 1, s => ((r s).1 :: (rdMany r n (r s).2.2).1, (r s).2.1 || (rdMany r n (r s).2.2).2.1, (rdMany r n (r s).2.2).2.2)
theorem rdMany_len {α : Type} (r : St → α × Bool × St) : ∀ n s, (rdMany r n s).1.length = n
  | 0, _ => rfl
  | n + 1, s => by simp [rdMany, rdMany_len r n]
theorem rdMany_stick {α : Type} {O : α → Prop} {f : α → St → St} {r : St → α × Bool × St} (h : Cd O f r) : ∀ n s, s.1 ≠ 0 → (rdMany r n s).2.2 = s
  | 0, _, _ => rfl
  | n + 1, s, hs => by
    show (rdMany r n (r s).2.2).2.2 = s
    rw [h.stick s hs, rdMany_stick h n s hs]
theorem rdMany_back {α : Type} {O : α → Prop} {f : α → St → St} {r : St → α × Bool × St} (h : Cd O f r) : ∀ l : List α, (∀ x ∈ l, O x) → ∃ d, (∀ bs, l.foldl (fun t x => f x t) (0, bs) = (0, bs ++ d)) ∧ ∀ rest, rdMany r l.length (0, d ++ rest) = (l, false, (0, rest))
  | [], _ => ⟨[], fun bs => by simp, fun rest => rfl⟩
  | x :: l, hx => by
    obtain ⟨d1, a1, b1⟩ := h.back x (hx x (by simp))
    obtain ⟨d2, a2, b2⟩ := rdMany_back h l (fun y hy => hx y (by simp [hy]))
    refine ⟨d1 ++ d2, fun bs => ?_, fun rest => ?_⟩
    · rw [List.foldl_cons, a1, a2, List.append_assoc]
    · show ((r (0, d1 ++ d2 ++ rest)).1 :: _, _, _) = _
      rw [List.append_assoc, b1, b2]
      rfl
theorem rdMany_form {α : Type} {O : α → Prop} {f : α → St → St} {r : St → α × Bool × St} (h : Cd O f r) : ∀ n s, (rdMany r n s).2.2.1 = 0 → (rdMany r n s).2.1 = false → ∃ d, s.2 = d ++ (rdMany r n s).2.2.2 ∧ ∀ bs, (rdMany r n s).1.foldl (fun t x => f x t) (0, bs) = (0, bs ++ d)
  | 0, s, _, _ => ⟨[], rfl, fun bs => by simp [rdMany]⟩
  | n + 1, s, h0, hb => by
    have h0' : (rdMany r n (r s).2.2).2.2.1 = 0 := h0
    have hb' : ((r s).2.1 || (rdMany r n (r s).2.2).2.1) = false := hb
    rw [Bool.or_eq_false_iff] at hb'
    have hm : (r s).2.2.1 = 0 := by
      by_cases hz : (r s).2.2.1 = 0
      · exact hz
      · rw [rdMany_stick h n _ hz] at h0'
        exact h0'
    obtain ⟨d1, a1, b1⟩ := h.form s hm hb'.1
    obtain ⟨d2, a2, b2⟩ := rdMany_form h n _ h0' hb'.2
    refine ⟨d1 ++ d2, ?_, fun bs => ?_⟩
    · show s.2 = d1 ++ d2 ++ (rdMany r n (r s).2.2).2.2.2
      rw [a1, a2, List.append_assoc]
    · show ((r s).1 :: (rdMany r n (r s).2.2).1).foldl _ _ = _
      rw [List.foldl_cons, b1, b2, List.append_assoc]
def rdList {α : Type} (size : Int) (r : St → α × Bool × St) (s : St) : List α × Bool × St := rdMany r (rNum size s).1.toNat (rNum size s).2
theorem Cd.list {α : Type} {O : α → Prop} {f : α → St → St} {r : St → α × Bool × St} (h : Cd O f r) (size : Nat) (hs : sized size = true) (h4 : size ≤ 4) :
    Cd (fun l : List α => (fitB size (l.length : Int) = true ∧ I64 (l.length : Int)) ∧ ∀ x ∈ l, O x) (fun l => wList size f l) (rdList size r) := by
  have hn := cdNum size hs
  refine ⟨fun s hs' => ?_, fun l hl => ?_, fun s h0 hb => ?_⟩
  · show (rdMany r _ (rNum size s).2).2.2 = s
    have e : (rNum size s).2 = s := hn.stick s hs'
    rw [e, rdMany_stick h _ _ hs']
  · obtain ⟨d1, a1, b1⟩ := hn.back (l.length : Int) hl.1
    obtain ⟨d2, a2, b2⟩ := rdMany_back h l hl.2
    refine ⟨d1 ++ d2, fun bs => ?_, fun rest => ?_⟩
    · show l.foldl _ (wNumsA size [(l.length : Int)] (0, bs)) = _
      have q : wNumsA size [(l.length : Int)] (0, bs) = (0, bs ++ d1) := a1 bs
      rw [q, a2, List.append_assoc]
    · have e := b1 (d2 ++ rest)
      unfold rdNum at e
      simp only [Prod.mk.injEq, true_and] at e
      show rdMany r (rNum size (0, d1 ++ d2 ++ rest)).1.toNat (rNum size (0, d1 ++ d2 ++ rest)).2 = _
      rw [List.append_assoc, e.1, e.2, Int.toNat_natCast, b2]
  · have hm : (rNum size s).2.1 = 0 := by
      by_cases hz : (rNum size s).2.1 = 0
      · exact hz
      · have h0' : (rdMany r (rNum size s).1.toNat (rNum size s).2).2.2.1 = 0 := h0
        rw [rdMany_stick h _ _ hz] at h0'
        exact h0'
    obtain ⟨d1, a1, b1⟩ := hn.form s hm rfl
    obtain ⟨d2, a2, b2⟩ := rdMany_form h _ _ h0 hb
    refine ⟨d1 ++ d2, ?_, fun bs => ?_⟩
    · have a1' : s.2 = d1 ++ (rNum size s).2.2 := a1
      show s.2 = d1 ++ d2 ++ (rdMany r (rNum size s).1.toNat (rNum size s).2).2.2.2
      rw [a1', a2, List.append_assoc]
    · show (rdMany r (rNum size s).1.toNat (rNum size s).2).1.foldl _ (wNumsA size [((rdMany r (rNum size s).1.toNat (rNum size s).2).1.length : Int)] (0, bs)) = _
      have e : (((rdMany r (rNum size s).1.toNat (rNum size s).2).1.length : Nat) : Int) = (rNum size s).1 := by
        rw [rdMany_len]
        have := rNum_small size h4 s
        omega
      have q : wNumsA size [(rNum size s).1] (0, bs) = (0, bs ++ d1) := b1 bs
      rw [e, q, b2, List.append_assoc]
theorem cdNum' {size : Int} (k : Nat) (hk : size = (k : Int)) (hs : sized size = true) : Cd (fun n => fitB size n = true ∧ I64 n) (fun n => wNumsA size [n]) (rdNum size) := by
  subst hk
  exact cdNum k hs
theorem cd1 : Cd (fun n => fitB 1 n = true ∧ I64 n) (fun n => wNumsA 1 [n]) (rdNum 1) := cdNum' 1 rfl (by decide)
theorem cd2 : Cd (fun n => fitB 2 n = true ∧ I64 n) (fun n => wNumsA 2 [n]) (rdNum 2) := cdNum' 2 rfl (by decide)
theorem cd4 : Cd (fun n => fitB 4 n = true ∧ I64 n) (fun n => wNumsA 4 [n]) (rdNum 4) := cdNum' 4 rfl (by decide)
theorem cd8 : Cd (fun n => fitB 8 n = true ∧ I64 n) (fun n => wNumsA 8 [n]) (rdNum 8) := cdNum' 8 rfl (by decide)
theorem Cd.list' {α : Type} {O : α → Prop} {f : α → St → St} {r : St → α × Bool × St} (h : Cd O f r) {size : Int} (k : Nat) (hk : size = (k : Int)) (hs : sized size = true) (h4 : k ≤ 4) :
    Cd (fun l : List α => (fitB size (l.length : Int) = true ∧ I64 (l.length : Int)) ∧ ∀ x ∈ l, O x) (fun l => wList size f l) (rdList size r) := by
  subst hk
  exact h.list k hs h4
theorem rNum_nn {size : Int} (h4 : size ≤ 4) (s : St) : 0 ≤ (rNum size s).1 := by
  by_cases hs : sized size = true
  · obtain ⟨k, rfl⟩ : ∃ k : Nat, size = k := ⟨size.toNat, by simp only [sized, decide_eq_true_eq] at hs; omega⟩
    exact rNum_small k (by omega) s
  · unfold rNum
    rw [if_neg hs]
    exact Int.le_refl _
/-- A flag: what a number of one byte says. -/
def bitOf (n : Int) : Bool := n == 1
def bitBad (n : Int) : Bool := decide (1 < n)
def mkBit (t : Int × St) : Bool × Bool × St := (bitOf t.1, bitBad t.1, t.2)
theorem mkBit_st (t : Int × St) : (mkBit t).2.2 = t.2 := rfl
theorem mkBit_bad (t : Int × St) : (mkBit t).2.1 = bitBad t.1 := rfl
theorem mkBit_val (t : Int × St) : (mkBit t).1 = bitOf t.1 := rfl
def rdBit (s : St) : Bool × Bool × St := mkBit (rNum 1 s)
theorem rdBit_eq (s : St) : rdBit s = mkBit (rNum 1 s) := rfl
theorem bit_one {n : Int} (h0 : 0 ≤ n) (h : bitBad n = false) : oneI (bitOf n) = n := by
  unfold bitBad at h
  simp only [decide_eq_false_iff_not] at h
  unfold bitOf oneI
  by_cases hz : n = 1
  · subst hz; rfl
  · have : n = 0 := by omega
    subst this
    rfl
theorem one_bit (b : Bool) : bitOf (oneI b) = b ∧ bitBad (oneI b) = false := by cases b <;> exact ⟨rfl, rfl⟩
theorem one_fit (b : Bool) : fitB 1 (oneI b) = true := by cases b <;> decide
theorem cdBit : Cd (fun _ : Bool => True) (fun b => wNumsA 1 [oneI b]) rdBit := by
  refine ⟨fun s h => ?_, fun b _ => ?_, fun s h0 hb => ?_⟩
  · rw [rdBit_eq, mkBit_st]
    exact rNum_stick 1 s h
  · obtain ⟨d, a, c⟩ := cd1.back (oneI b) ⟨one_fit b, one_i64 b⟩
    refine ⟨d, a, fun rest => ?_⟩
    have e : rNum 1 (0, d ++ rest) = (oneI b, (0, rest)) := by
      have e := c rest
      unfold rdNum at e
      simp only [Prod.mk.injEq, true_and] at e
      exact Prod.ext e.1 e.2
    rw [rdBit_eq, e]
    refine Prod.ext ?_ (Prod.ext ?_ ?_)
    · rw [mkBit_val]; exact (one_bit b).1
    · rw [mkBit_bad]; exact (one_bit b).2
    · rw [mkBit_st]
  · rw [rdBit_eq, mkBit_st] at h0
    rw [rdBit_eq, mkBit_bad] at hb
    obtain ⟨d, h1, h2⟩ := num_form 1 s [] h0
    rw [rdBit_eq, mkBit_st, mkBit_val]
    refine ⟨d, h1, fun bs => ?_⟩
    obtain ⟨d', h3, h4⟩ := num_form 1 s bs h0
    have e : d' = d := List.append_cancel_right (h3.symm.trans h1)
    rw [← e, bit_one (rNum_nn (by decide) s) hb]
    exact h4
end Go.Proofs.YtacknedekhpklaaGreat

namespace Go.Proofs.YtacknedekhpklaaGreat
set_option maxRecDepth 100000
set_option linter.unusedSimpArgs false
set_option linter.unusedVariables false
open Go.RowKit

def fWd (x : UInt64) (s : St) : St := wNumsA 8 [wrap64 (x.toNat : Int)] s
theorem fWd_len (x : UInt64) (s : St) : (fWd x s).2.length ≤ s.2.length + 8 := wNumsA_len 8 [wrap64 (x.toNat : Int)] s
theorem wrap_i64' (n : Int) : I64 (wrap64 n) := by unfold I64 wrap64; omega
set_option maxHeartbeats 400000 in
theorem wword_any {F : Nat → Prop} {G g : Nat} {s : St} (x : UInt64) (w : World) (h : Wi w F G g s) (hn : s.2.length + 8 ≤ 140737488355328) :
    Calls Tryz.prog 180 #[.pointer (some ⟨G, 0, none⟩), Siv.u64v x] w (Wro w F G g (fWd x s)) := by
  have hc := h.c0
  have HN := Lib.hid (h.nums 8 [wrap64 (x.toNat : Int)] (by simp only [List.forall_mem_cons]; exact ⟨wrap_i64' _, by simp⟩) (by simpa using hn))
  have HN := Lib.hid (show Calls Tryz.prog 95 #[.pointer (some ⟨g, 0, none⟩), .int .i64 8, .slice (some ⟨w.heap.size, 0, none⟩) 1 1] (w.alloc (.cells #[.int .i64 (wrap64 (x.toNat : Int))] 3)) (Wro w F G g (fWd x s)) from HN.out)
  clear h
  go_enter Tryz.func180, Tryz.ntmps180
  go_wp2_with (go_at_call 95; (with_reducible refine (HN.out).mono ?_); rintro en w1 ⟨rfl, hw, hk⟩)
  first | go_end0 | skip
  exact ⟨rfl, hw, hk⟩
def fTab (rows : List (List Int)) (L : List UInt64) (sh : Int) (s : St) : St := wList 1 fWd L (wNumsA 1 [sh] (wList 2 fRow rows s))
theorem rowF_mem {rows : List (List Int)} {k : Nat} (hk : k < rows.length) : rowF rows k ∈ rows := getD_mem hk
theorem rows_len {rows : List (List Int)} (s : St) (h : ∀ r ∈ rows, r.length ≤ 512) : (wList 2 fRow rows s).2.length ≤ s.2.length + 8 + 4104 * rows.length :=
  wList_len 2 fRow rows s 4104 fun r hr t => by have h1 := fRow_len r t; have h2 := h r hr; unfold cRow at h1; omega
theorem fTab_len {rows : List (List Int)} {L : List UInt64} {sh : Int} (s : St) (h : ∀ r ∈ rows, r.length ≤ 512) : (fTab rows L sh s).2.length ≤ s.2.length + 24 + 4104 * rows.length + 8 * L.length := by
  have h1 := rows_len s h
  have h2 := wNumsA_len 1 [sh] (wList 2 fRow rows s)
  have h3 := wList_len 1 fWd L (wNumsA 1 [sh] (wList 2 fRow rows s)) 8 fun x _ t => fWd_len x t
  simp only [List.length_cons, List.length_nil] at h2
  unfold fTab
  omega
set_option maxHeartbeats 4000000 in
theorem wtable_any {F : Nat → Prop} {G g : Nat} {s : St} (A : Option Addr) (c : Nat) (Af : Option Addr) (cf : Nat) (rows : List (List Int)) (L : List UInt64) (sh : Int) (w : World) (h : Wi w F G g s) (ht : TabV w F A rows.length c Af cf (rowF rows) L)
    (hr : ∀ r ∈ rows, r.length ≤ 512 ∧ ∀ i ∈ r, I64 i) (hrl : rows.length ≤ 140737488355328) (hL : L.length ≤ 140737488355328) (hs : I64 sh) (hn : s.2.length + (24 + 4104 * rows.length + 8 * L.length) ≤ 140737488355328) :
    Calls Tryz.prog 103 #[.pointer (some ⟨G, 0, none⟩), .agg (tabA A rows.length c Af L.length cf sh)] w (Wro w F G g (fTab rows L sh s)) := by
  have HX0 := Lib.hid (Wx.new h (tabA A rows.length c Af L.length cf sh) 32)
  have HT := Lib.hid ht
  have HR := Lib.hid hr
  have HS := Lib.hid hs
  have q1 := rows_len s (fun r hr' => (hr r hr').1)
  have q2 := wNumsA_len 1 [sh] (wList 2 fRow rows s)
  simp only [List.length_cons, List.length_nil] at q2
  have H1 := Lib.hid (show s.2.length + 8 + 4104 * rows.length ≤ 140737488355328 by omega)
  have H2 := Lib.hid (show (wList 2 fRow rows s).2.length + 8 ≤ 140737488355328 by omega)
  have H3 := Lib.hid (show (wNumsA 1 [sh] (wList 2 fRow rows s)).2.length + 8 + 8 * L.length ≤ 140737488355328 by omega)
  clear h ht hr hs hn q1 q2
  go_enter Tryz.func103, Tryz.ntmps103
  go_upto_region 1 with (fail)
  change Code.wp _ _ _ _ (w.alloc (.cells (tabA A rows.length c Af L.length cf sh) 32))
  generalize w.heap.size = gb at *
  generalize w.alloc (.cells (tabA A rows.length c Af L.length cf sh) 32) = w1 at *
  have HN := Lib.hid ((wlRow_any 2 A rows.length c (rowF rows) 178 4104 (fun k => fRow (rowF rows k)) w1 HX0.out.wi ((HT.out.rows.keep fun k hk _ => HX0.out.kp.block k hk).weak fun _ hk => .inl hk) (fun _ _ => by go_simp) (fun k t hk => by have h1 := fRow_len (rowF rows k) t; have h2 := (HR.out _ (rowF_mem hk)).1; unfold cRow at h1; omega) hrl H1.out (fun k t X Ai ci hk hx hw hkp hl => wbucket_any Ai ci (rowF rows k) X hw hx (HR.out _ (rowF_mem hk)).2 (by have h2 := (HR.out _ (rowF_mem hk)).1; unfold cRow; omega))).mono fun _ _ k => HX0.out.step k)
  have hc := HX0.out.ptr
  have d0 := HX0.out.bx.c 0
  have d1 := HX0.out.bx.c 1
  have d2 := HX0.out.bx.c 2
  simp only [List.getElem?_toArray, List.getElem?_cons_zero, List.getElem?_cons_succ] at d0 d1 d2
  go_upto_region 2 with (go_at_call 177; (with_reducible refine (HN.out).mono ?_); rintro en wn ⟨rfl, hw⟩; have HX1 := Lib.hid (show Wx w F G g gb _ _ (wList 2 fRow rows s) _ from (wListF_list 2 rows [] fRow s) ▸ hw); clear hw)
  clear HN hc d0 d1 d2 HX0
  have HN := Lib.hid (HX1.out.nums1d 1 sh HS.out H2.out)
  refine wp_region_held_drew (S := WX w F G g gb (tabA A rows.length c Af L.length cf sh) 32) (by kernel_rfl) ⟨_, HX1.out.drew⟩ (fun hHeld0 => ?_)
  refine take_at (i := 0) (d := 10) (v := .pointer (some ⟨G, 0, none⟩)) rfl rfl (by kernel_rfl) (by kernel_rfl) (by kernel_rfl) (fun _ _ _ h => h) (Or.inl ⟨by rfl, ?_⟩) (by assumption) ?_
  · intro X hX; go_simp
  (try simp only [Act.put, List.setIfInBounds_toArray, List.set_cons_zero, List.set_cons_succ])
  refine take_at (i := 1) (d := 11) (v := .pointer (some ⟨G, 0, none⟩)) rfl rfl (by kernel_rfl) (by kernel_rfl) (by kernel_rfl) (fun _ _ _ h => h) (Or.inl ⟨by rfl, ?_⟩) (by assumption) ?_
  · intro X hX; go_simp
  (try simp only [Act.put, List.setIfInBounds_toArray, List.set_cons_zero, List.set_cons_succ])
  refine take_at (i := 2) (d := 12) (v := .pointer (some ⟨G, 0, none⟩)) rfl rfl (by kernel_rfl) (by kernel_rfl) (by kernel_rfl) (fun _ _ _ h => h) (Or.inl ⟨by rfl, ?_⟩) (by assumption) ?_
  · intro X hX; go_simp
  (try simp only [Act.put, List.setIfInBounds_toArray, List.set_cons_zero, List.set_cons_succ])
  refine take_at (i := 3) (d := 13) (v := .pointer (some ⟨g, 0, none⟩)) rfl rfl (by kernel_rfl) (by kernel_rfl) (by kernel_rfl) (fun _ _ _ h => h) (Or.inl ⟨by rfl, ?_⟩) (by assumption) ?_
  · intro X hX; obtain ⟨t, hW⟩ := hX; have hc := hW.ptr; have d0 := hW.bx.c 0; have d1 := hW.bx.c 1; have d2 := hW.bx.c 2; simp only [List.getElem?_toArray, List.getElem?_cons_zero, List.getElem?_cons_succ] at d0 d1 d2; go_simp
  (try simp only [Act.put, List.setIfInBounds_toArray, List.set_cons_zero, List.set_cons_succ])
  refine take_at (i := 4) (d := 14) (v := .pointer (some ⟨gb, 1, none⟩)) rfl rfl (by kernel_rfl) (by kernel_rfl) (by kernel_rfl) (fun _ _ _ h => h) (Or.inl ⟨by rfl, ?_⟩) (by assumption) ?_
  · intro X hX; go_simp
  (try simp only [Act.put, List.setIfInBounds_toArray, List.set_cons_zero, List.set_cons_succ])
  refine take_at (i := 5) (d := 15) (v := .pointer (some ⟨gb, 2, none⟩)) rfl rfl (by kernel_rfl) (by kernel_rfl) (by kernel_rfl) (fun _ _ _ h => h) (Or.inl ⟨by rfl, ?_⟩) (by assumption) ?_
  · intro X hX; go_simp
  (try simp only [Act.put, List.setIfInBounds_toArray, List.set_cons_zero, List.set_cons_succ])
  refine take_at (i := 6) (d := 16) (v := .int .i64 sh) rfl rfl (by kernel_rfl) (by kernel_rfl) (by kernel_rfl) (fun _ _ _ h => h) (Or.inl ⟨by rfl, ?_⟩) (by assumption) ?_
  · intro X hX; obtain ⟨t, hW⟩ := hX; have hc := hW.ptr; have d0 := hW.bx.c 0; have d1 := hW.bx.c 1; have d2 := hW.bx.c 2; simp only [List.getElem?_toArray, List.getElem?_cons_zero, List.getElem?_cons_succ] at d0 d1 d2; go_simp
  (try simp only [Act.put, List.setIfInBounds_toArray, List.set_cons_zero, List.set_cons_succ])
  refine wpAnyH_ready (rs := [7]) (by kernel_rfl) (by simp) ?_
  refine AllReadyH.cons rfl (fun K hK => ?_) AllReadyH.nil
  go_simp
  refine hK.out _ _ (hHeld0.new _) (fun hHeld1 => ?_)
  clear hK K
  (try simp only [Act.put, List.setIfInBounds_toArray, List.set_cons_zero, List.set_cons_succ])
  refine wpAnyH_ready (rs := [8]) (by kernel_rfl) (by simp) ?_
  refine AllReadyH.cons rfl (fun K hK => ?_) AllReadyH.nil
  go_simp
  refine (HN.out).mono ?_
  rintro en wn ⟨rfl, hw⟩
  have HY2 := Lib.hid hw
  go_simp
  refine hK.out _ _ (⟨_, hw⟩) (fun hHeld2 => ?_)
  clear hK K
  (try simp only [Act.put, List.setIfInBounds_toArray, List.set_cons_zero, List.set_cons_succ])
  refine wpAnyH_done (by kernel_rfl) ?_ _
  have HX2 := Lib.hid (show Wx w F G g gb _ _ (wNumsA 1 [sh] (wList 2 fRow rows s)) _ from HY2.out)
  clear HN HY2 HX1 hHeld0
  go_upto_region 3 with (fail)
  have HN := Lib.hid ((wlWord_any 1 Af L.length cf L 180 8 (fun k => fWd (L.getD k 0)) _ HX2.out.wi ((HT.out.words.kp HX2.out.kp).weak fun _ hk => .inl hk) (fun _ _ => by go_simp) (fun k t _ => fWd_len _ t) hL H3.out (fun k t X hk hw hkp hl => wword_any (L.getD k 0) X hw hl)).mono fun _ _ k => HX2.out.step k)
  have hc := HX2.out.ptr
  have d0 := HX2.out.bx.c 0
  have d1 := HX2.out.bx.c 1
  have d2 := HX2.out.bx.c 2
  simp only [List.getElem?_toArray, List.getElem?_cons_zero, List.getElem?_cons_succ] at d0 d1 d2
  go_upto_region 99 with (go_at_call 179; (with_reducible refine (HN.out).mono ?_); rintro en wn ⟨rfl, hw⟩; have HX3 := Lib.hid (show Wx w F G g gb _ _ (fTab rows L sh s) _ from (wListF_list 1 L 0 fWd _) ▸ hw); clear hw)
  clear HN hc d0 d1 d2 HX2
  try go_wp2_with fail
  first | go_end0 | skip
  exact HX3.out.done
end Go.Proofs.YtacknedekhpklaaGreat
