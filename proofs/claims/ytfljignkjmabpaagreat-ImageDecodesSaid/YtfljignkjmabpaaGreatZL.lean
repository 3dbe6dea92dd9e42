/- A part of the proof. -/
import Derived.Test.YtfljignkjmabpaaGreatZWC
import Derived.Test.YtfljignkjmabpaaGreatZK
set_option linter.unusedSimpArgs false
set_option linter.unusedVariables false
namespace Go.Proofs.YtfljignkjmabpaaGreat
set_option maxRecDepth 100000
open Go.RowKit
structure Cd {α : Type} (Ok : α → Prop) (f : α → St → St) (r : St → α × Bool × St) : Prop where
 stick : ∀ s, s.1 ≠ 0 → (r s).2.2 = s
 back : ∀ x, Ok x → ∃ d, (∀ bs, f x (0, bs) = (0, bs ++ d)) ∧ ∀ rest, r (0, d ++ rest) = (x, false, (0, rest))
 form : ∀ s, (r s).2.2.1 = 0 → (r s).2.1 = false → ∃ d, s.2 = d ++ (r s).2.2.2 ∧ ∀ bs, f (r s).1 (0, bs) = (0, bs ++ d)
theorem Cd.was {α : Type} {Ok : α → Prop} {f : α → St → St} {r : St → α × Bool × St} (h : Cd Ok f r) {s : St} (h0 : (r s).2.2.1 = 0) : s.1 = 0 := by
 by_cases hs : s.1 = 0
 ·
  exact hs
 ·
  rw [h.stick s hs] at h0
  exact h0
def rdNum (size : Int) (s : St) : Int × Bool × St := ((rNum size s).1, false, (rNum size s).2)
def rdText (s : St) : Str × Bool × St := ((rMeas 2 4096 s).1, false, (rMeas 2 4096 s).2)
def rdBlock (s : St) : Str × Bool × St := ((rMeas 4 1048576 s).1, false, (rMeas 4 1048576 s).2)
theorem cdNum (size : Nat) (hs : sized size = true) : Cd (fun n => fitB size n = true ∧ I64 n) (fun n => wNumsA size [n]) (rdNum size) := by
 refine ⟨fun s h => rNum_stick _ s h, fun n hn => ⟨digs n size, fun bs => ?_, fun rest => ?_⟩, fun s h _ => ?_⟩
 ·
  unfold wNumsA
  rw [if_pos hs, Int.toNat_natCast]
  simp [wNums, wNum1, hn.1]
 ·
  unfold rdNum
  rw [rNum_back' n size rest hs hn.1 hn.2]
 ·
  obtain ⟨d, h1, h2⟩ := num_form size s [] h
  refine ⟨d, h1, fun bs => ?_⟩
  obtain ⟨d', h3, h4⟩ := num_form size s bs h
  have : d' = d := List.append_cancel_right (h3.symm.trans h1)
  rw [← this]
  exact h4
theorem cdMeas (size most : Nat) (hs : sized size = true) (h4 : size ≤ 4) (hf : ∀ k : Nat, k ≤ most → fitB size k = true) (hm : most ≤ 1048576) :
  Cd (fun l : Str => l.length ≤ most) (fun l => wMeas size most l) (fun s => ((rMeas size most s).1, false, (rMeas size most s).2)) := by
 refine ⟨fun s h => rMeas_stick _ _ s h, fun l hl => ⟨encText size l, fun bs => ?_, fun rest => ?_⟩, fun s h _ => ?_⟩
 ·
  exact (wMeas_ok size most l bs (by simp [wMeas, hl])).1
 ·
  show ((rMeas size most (0, encText size l ++ rest)).1, false, (rMeas size most (0, encText size l ++ rest)).2) = _
  rw [rMeas_back size most l rest hs h4 hf hm hl]
 ·
  obtain ⟨d, h1, h2, _⟩ := meas_form size most s [] hs h4 h
  refine ⟨d, h1, fun bs => ?_⟩
  obtain ⟨d', h3, h4, _⟩ := meas_form size most s bs hs h4 h
  have : d' = d := List.append_cancel_right (h3.symm.trans h1)
  rw [← this]
  exact h4
theorem cdText : Cd (fun l : Str => l.length ≤ 4096) (fun l => wTexts [l]) rdText := cdMeas 2 4096 (by decide) (by decide) fit_text (by decide)
theorem cdBlock : Cd (fun l : Str => l.length ≤ 1048576) (fun l => wMeas 4 1048576 l) rdBlock := cdMeas 4 1048576 (by decide) (by decide) fit_block (by decide)
theorem rNum_small (size : Nat) (h4 : size ≤ 4) (s : St) : 0 ≤ (rNum size s).1 := by
 unfold rNum
 split
 ·
  rw [Int.toNat_natCast]
  show 0 ≤ val (rTake size s).1
  rw [val_small _ (Nat.le_trans (rTake_len _ _) h4)]
  omega
 ·
  exact Int.le_refl _
def rdPair {α β : Type} (r1 : St → α × Bool × St) (r2 : St → β × Bool × St) (s : St) : (α × β) × Bool × St :=
 (((r1 s).1, (r2 (r1 s).2.2).1), (r1 s).2.1 || (r2 (r1 s).2.2).2.1, (r2 (r1 s).2.2).2.2)
theorem Cd.pair {α β : Type} {O1 : α → Prop} {O2 : β → Prop} {f1 : α → St → St} {f2 : β → St → St} {r1 : St → α × Bool × St} {r2 : St → β × Bool × St} (h1 : Cd O1 f1 r1) (h2 : Cd O2 f2 r2) :
  Cd (fun p : α × β => O1 p.1 ∧ O2 p.2) (fun p s => f2 p.2 (f1 p.1 s)) (rdPair r1 r2) := by
 refine ⟨fun s h => ?_, fun p hp => ?_, fun s h0 hb => ?_⟩
 ·
  show (r2 (r1 s).2.2).2.2 = s
  rw [h1.stick s h, h2.stick s h]
 ·
  obtain ⟨d1, a1, b1⟩ := h1.back p.1 hp.1
  obtain ⟨d2, a2, b2⟩ := h2.back p.2 hp.2
  refine ⟨d1 ++ d2, fun bs => ?_, fun rest => ?_⟩
  ·
   show f2 p.2 (f1 p.1 (0, bs)) = _
   rw [a1, a2, List.append_assoc]
  ·
   unfold rdPair
   rw [List.append_assoc, b1, b2]
   rfl
 ·
  have h0' : (r2 (r1 s).2.2).2.2.1 = 0 := h0
  have hb' : ((r1 s).2.1 || (r2 (r1 s).2.2).2.1) = false := hb
  rw [Bool.or_eq_false_iff] at hb'
  have hm := h2.was h0'
  obtain ⟨d1, a1, b1⟩ := h1.form s hm hb'.1
  obtain ⟨d2, a2, b2⟩ := h2.form _ h0' hb'.2
  refine ⟨d1 ++ d2, ?_, fun bs => ?_⟩
  ·
   show s.2 = d1 ++ d2 ++ (r2 (r1 s).2.2).2.2.2
   rw [a1, a2, List.append_assoc]
  ·
   show f2 (r2 (r1 s).2.2).1 (f1 (r1 s).1 (0, bs)) = _
   rw [b1, b2, List.append_assoc]
theorem Cd.map {α β : Type} {O : α → Prop} {f : α → St → St} {r : St → α × Bool × St} (h : Cd O f r) (g : α → β) (k : β → α) (hg : ∀ y, g (k y) = y) (hk : ∀ s, (r s).2.2.1 = 0 → (r s).2.1 = false → k (g (r s).1) = (r s).1) :
  Cd (fun y => O (k y)) (fun y => f (k y)) (fun s => (g (r s).1, (r s).2)) := by
 refine ⟨fun s hs => h.stick s hs, fun y hy => ?_, fun s h0 hb => ?_⟩
 ·
  obtain ⟨d, a, b⟩ := h.back (k y) hy
  refine ⟨d, a, fun rest => ?_⟩
  show (g (r (0, d ++ rest)).1, (r (0, d ++ rest)).2) = _
  rw [b, hg]
 ·
  obtain ⟨d, a, b⟩ := h.form s h0 hb
  refine ⟨d, a, fun bs => ?_⟩
  show f (k (g (r s).1)) (0, bs) = _
  rw [hk s h0 hb, b]
theorem Cd.same {α : Type} {O O' : α → Prop} {f f' : α → St → St} {r r' : St → α × Bool × St} (h : Cd O f r) (hO : ∀ x, O' x → O x) (hf : ∀ x s, f' x s = f x s) (hr : ∀ s, r' s = r s) : Cd O' f' r' := by
 have e1 : f' = f := funext fun x => funext fun s => hf x s
 have e2 : r' = r := funext hr
 subst e1 e2
 exact ⟨h.stick, fun x hx => h.back x (hO x hx), h.form⟩
def rdMany {α : Type} (r : St → α × Bool × St) : Nat → St → List α × Bool × St
 | 0, s => ([], false, s)
 | n + 1, s => ((r s).1 :: (rdMany r n (r s).2.2).1, (r s).2.1 || (rdMany r n (r s).2.2).2.1, (rdMany r n (r s).2.2).2.2)
theorem rdMany_len {α : Type} (r : St → α × Bool × St) : ∀ n s, (rdMany r n s).1.length = n
 | 0, _ => rfl
 | n + 1, s => by simp [rdMany, rdMany_len r n]
theorem rdMany_stick {α : Type} {O : α → Prop} {f : α → St → St} {r : St → α × Bool × St} (h : Cd O f r) : ∀ n s, s.1 ≠ 0 → (rdMany r n s).2.2 = s
 | 0, _, _ => rfl
 | n + 1, s, hs => by
  show (rdMany r n (r s).2.2).2.2 = s
  rw [h.stick s hs, rdMany_stick h n s hs]
theorem rdMany_back {α : Type} {O : α → Prop} {f : α → St → St} {r : St → α × Bool × St} (h : Cd O f r) : ∀ l : List α, (∀ x ∈ l, O x) → ∃ d, (∀ bs, l.foldl (fun t x => f x t) (0, bs) = (0, bs ++ d)) ∧ ∀ rest, rdMany r l.length (0, d ++ rest) = (l, false, (0, rest))
 | [], _ => ⟨[], fun bs => by simp, fun rest => rfl⟩
 | x :: l, hx => by
  obtain ⟨d1, a1, b1⟩ := h.back x (hx x (by simp))
  obtain ⟨d2, a2, b2⟩ := rdMany_back h l (fun y hy => hx y (by simp [hy]))
  refine ⟨d1 ++ d2, fun bs => ?_, fun rest => ?_⟩
  ·
   rw [List.foldl_cons, a1, a2, List.append_assoc]
  ·
   show ((r (0, d1 ++ d2 ++ rest)).1 :: _, _, _) = _
   rw [List.append_assoc, b1, b2]
   rfl
theorem rdMany_form {α : Type} {O : α → Prop} {f : α → St → St} {r : St → α × Bool × St} (h : Cd O f r) : ∀ n s, (rdMany r n s).2.2.1 = 0 → (rdMany r n s).2.1 = false → ∃ d, s.2 = d ++ (rdMany r n s).2.2.2 ∧ ∀ bs, (rdMany r n s).1.foldl (fun t x => f x t) (0, bs) = (0, bs ++ d)
 | 0, s, _, _ => ⟨[], rfl, fun bs => by simp [rdMany]⟩
 | n + 1, s, h0, hb => by
  have h0' : (rdMany r n (r s).2.2).2.2.1 = 0 := h0
  have hb' : ((r s).2.1 || (rdMany r n (r s).2.2).2.1) = false := hb
  rw [Bool.or_eq_false_iff] at hb'
  have hm : (r s).2.2.1 = 0 := by
   by_cases hz : (r s).2.2.1 = 0
   ·
    exact hz
   ·
    rw [rdMany_stick h n _ hz] at h0'
    exact h0'
  obtain ⟨d1, a1, b1⟩ := h.form s hm hb'.1
  obtain ⟨d2, a2, b2⟩ := rdMany_form h n _ h0' hb'.2
  refine ⟨d1 ++ d2, ?_, fun bs => ?_⟩
  ·
   show s.2 = d1 ++ d2 ++ (rdMany r n (r s).2.2).2.2.2
   rw [a1, a2, List.append_assoc]
  ·
   show ((r s).1 :: (rdMany r n (r s).2.2).1).foldl _ _ = _
   rw [List.foldl_cons, b1, b2, List.append_assoc]
def rdList {α : Type} (size : Int) (r : St → α × Bool × St) (s : St) : List α × Bool × St := rdMany r (rNum size s).1.toNat (rNum size s).2
theorem Cd.list {α : Type} {O : α → Prop} {f : α → St → St} {r : St → α × Bool × St} (h : Cd O f r) (size : Nat) (hs : sized size = true) (h4 : size ≤ 4) :
  Cd (fun l : List α => (fitB size (l.length : Int) = true ∧ I64 (l.length : Int)) ∧ ∀ x ∈ l, O x) (fun l => wList size f l) (rdList size r) := by
 have hn := cdNum size hs
 refine ⟨fun s hs' => ?_, fun l hl => ?_, fun s h0 hb => ?_⟩
 ·
  show (rdMany r _ (rNum size s).2).2.2 = s
  have e : (rNum size s).2 = s := hn.stick s hs'
  rw [e, rdMany_stick h _ _ hs']
 ·
  obtain ⟨d1, a1, b1⟩ := hn.back (l.length : Int) hl.1
  obtain ⟨d2, a2, b2⟩ := rdMany_back h l hl.2
  refine ⟨d1 ++ d2, fun bs => ?_, fun rest => ?_⟩
  ·
   show l.foldl _ (wNumsA size [(l.length : Int)] (0, bs)) = _
   have q : wNumsA size [(l.length : Int)] (0, bs) = (0, bs ++ d1) := a1 bs
   rw [q, a2, List.append_assoc]
  ·
   have e := b1 (d2 ++ rest)
   unfold rdNum at e
   simp only [Prod.mk.injEq, true_and] at e
   show rdMany r (rNum size (0, d1 ++ d2 ++ rest)).1.toNat (rNum size (0, d1 ++ d2 ++ rest)).2 = _
   rw [List.append_assoc, e.1, e.2, Int.toNat_natCast, b2]
 ·
  have hm : (rNum size s).2.1 = 0 := by
   by_cases hz : (rNum size s).2.1 = 0
   ·
    exact hz
   ·
    have h0' : (rdMany r (rNum size s).1.toNat (rNum size s).2).2.2.1 = 0 := h0
    rw [rdMany_stick h _ _ hz] at h0'
    exact h0'
  obtain ⟨d1, a1, b1⟩ := hn.form s hm rfl
  obtain ⟨d2, a2, b2⟩ := rdMany_form h _ _ h0 hb
  refine ⟨d1 ++ d2, ?_, fun bs => ?_⟩
  ·
   have a1' : s.2 = d1 ++ (rNum size s).2.2 := a1
   show s.2 = d1 ++ d2 ++ (rdMany r (rNum size s).1.toNat (rNum size s).2).2.2.2
   rw [a1', a2, List.append_assoc]
  ·
   show (rdMany r (rNum size s).1.toNat (rNum size s).2).1.foldl _ (wNumsA size [((rdMany r (rNum size s).1.toNat (rNum size s).2).1.length : Int)] (0, bs)) = _
   have e : (((rdMany r (rNum size s).1.toNat (rNum size s).2).1.length : Nat) : Int) = (rNum size s).1 := by
    rw [rdMany_len]
    have := rNum_small size h4 s
    omega
   have q : wNumsA size [(rNum size s).1] (0, bs) = (0, bs ++ d1) := b1 bs
   rw [e, q, b2, List.append_assoc]
theorem cdNum' {size : Int} (k : Nat) (hk : size = (k : Int)) (hs : sized size = true) : Cd (fun n => fitB size n = true ∧ I64 n) (fun n => wNumsA size [n]) (rdNum size) := by
 subst hk
 exact cdNum k hs
theorem cd1 : Cd (fun n => fitB 1 n = true ∧ I64 n) (fun n => wNumsA 1 [n]) (rdNum 1) := cdNum' 1 rfl (by decide)
theorem cd2 : Cd (fun n => fitB 2 n = true ∧ I64 n) (fun n => wNumsA 2 [n]) (rdNum 2) := cdNum' 2 rfl (by decide)
theorem cd4 : Cd (fun n => fitB 4 n = true ∧ I64 n) (fun n => wNumsA 4 [n]) (rdNum 4) := cdNum' 4 rfl (by decide)
theorem cd8 : Cd (fun n => fitB 8 n = true ∧ I64 n) (fun n => wNumsA 8 [n]) (rdNum 8) := cdNum' 8 rfl (by decide)
theorem Cd.list' {α : Type} {O : α → Prop} {f : α → St → St} {r : St → α × Bool × St} (h : Cd O f r) {size : Int} (k : Nat) (hk : size = (k : Int)) (hs : sized size = true) (h4 : k ≤ 4) :
  Cd (fun l : List α => (fitB size (l.length : Int) = true ∧ I64 (l.length : Int)) ∧ ∀ x ∈ l, O x) (fun l => wList size f l) (rdList size r) := by
 subst hk
 exact h.list k hs h4
theorem rNum_nn {size : Int} (h4 : size ≤ 4) (s : St) : 0 ≤ (rNum size s).1 := by
 by_cases hs : sized size = true
 ·
  obtain ⟨k, rfl⟩ : ∃ k : Nat, size = k := ⟨size.toNat, by simp only [sized, decide_eq_true_eq] at hs; omega⟩
  exact rNum_small k (by omega) s
 ·
  unfold rNum
  rw [if_neg hs]
  exact Int.le_refl _
def bitOf (n : Int) : Bool := n == 1
def bitBad (n : Int) : Bool := decide (1 < n)
def mkBit (t : Int × St) : Bool × Bool × St := (bitOf t.1, bitBad t.1, t.2)
theorem mkBit_st (t : Int × St) : (mkBit t).2.2 = t.2 := rfl
theorem mkBit_bad (t : Int × St) : (mkBit t).2.1 = bitBad t.1 := rfl
theorem mkBit_val (t : Int × St) : (mkBit t).1 = bitOf t.1 := rfl
def rdBit (s : St) : Bool × Bool × St := mkBit (rNum 1 s)
theorem rdBit_eq (s : St) : rdBit s = mkBit (rNum 1 s) := rfl
theorem bit_one {n : Int} (h0 : 0 ≤ n) (h : bitBad n = false) : oneI (bitOf n) = n := by
 unfold bitBad at h
 simp only [decide_eq_false_iff_not] at h
 unfold bitOf oneI
 by_cases hz : n = 1
 ·
  subst hz; rfl
 ·
  have : n = 0 := by omega
  subst this
  rfl
theorem one_bit (b : Bool) : bitOf (oneI b) = b ∧ bitBad (oneI b) = false := by cases b <;> exact ⟨rfl, rfl⟩
theorem one_fit (b : Bool) : fitB 1 (oneI b) = true := by cases b <;> decide
theorem cdBit : Cd (fun _ : Bool => True) (fun b => wNumsA 1 [oneI b]) rdBit := by
 refine ⟨fun s h => ?_, fun b _ => ?_, fun s h0 hb => ?_⟩
 ·
  rw [rdBit_eq, mkBit_st]
  exact rNum_stick 1 s h
 ·
  obtain ⟨d, a, c⟩ := cd1.back (oneI b) ⟨one_fit b, one_i64 b⟩
  refine ⟨d, a, fun rest => ?_⟩
  have e : rNum 1 (0, d ++ rest) = (oneI b, (0, rest)) := by
   have e := c rest
   unfold rdNum at e
   simp only [Prod.mk.injEq, true_and] at e
   exact Prod.ext e.1 e.2
  rw [rdBit_eq, e]
  refine Prod.ext ?_ (Prod.ext ?_ ?_)
  ·
   rw [mkBit_val]; exact (one_bit b).1
  ·
   rw [mkBit_bad]; exact (one_bit b).2
  ·
   rw [mkBit_st]
 ·
  rw [rdBit_eq, mkBit_st] at h0
  rw [rdBit_eq, mkBit_bad] at hb
  obtain ⟨d, h1, h2⟩ := num_form 1 s [] h0
  rw [rdBit_eq, mkBit_st, mkBit_val]
  refine ⟨d, h1, fun bs => ?_⟩
  obtain ⟨d', h3, h4⟩ := num_form 1 s bs h0
  have e : d' = d := List.append_cancel_right (h3.symm.trans h1)
  rw [← e, bit_one (rNum_nn (by decide) s) hb]
  exact h4
end Go.Proofs.YtfljignkjmabpaaGreat
namespace Go.Proofs.YtfljignkjmabpaaGreat
set_option maxRecDepth 100000
open Go.RowKit
def fWd (x : UInt64) (s : St) : St := wNumsA 8 [wrap64 (x.toNat : Int)] s
theorem fWd_len (x : UInt64) (s : St) : (fWd x s).2.length ≤ s.2.length + 8 := wNumsA_len 8 [wrap64 (x.toNat : Int)] s
theorem wrap_i64' (n : Int) : I64 (wrap64 n) := by unfold I64 wrap64; omega
set_option maxHeartbeats 400000 in
theorem wword_any {F : Nat → Prop} {G g : Nat} {s : St} (x : UInt64) (w : World) (h : Wi w F G g s) (hn : s.2.length + 8 ≤ 140737488355328) :
  Calls Tryz.prog 159 #[.pointer (some ⟨G, 0, none⟩), Siv.u64v x] w (Wro w F G g (fWd x s)) := by
 have hc := h.c0
 have HN := hD (h.nums 8 [wrap64 (x.toNat : Int)] (by simp only [List.forall_mem_cons]; exact ⟨wrap_i64' _, by simp⟩) (by simpa using hn))
 have HN := hD (show Calls Tryz.prog 77 #[.pointer (some ⟨g, 0, none⟩), .int .i64 8, .slice (some ⟨w.heap.size, 0, none⟩) 1 1] (w.alloc (.cells #[.int .i64 (wrap64 (x.toNat : Int))] 3)) (Wro w F G g (fWd x s)) from HN.out)
 clear h
 go_enter Tryz.func159, Tryz.ntmps159
 go_wp2_with (go_at_call 77; (with_reducible refine (HN.out).mono ?_); rintro en w1 ⟨rfl, hw, hk⟩)
 first | go_end0 | skip
 exact ⟨rfl, hw, hk⟩
def fTab (rows : List (List Int)) (L : List UInt64) (sh : Int) (s : St) : St := wList 1 fWd L (wNumsA 1 [sh] (wList 2 fRow rows s))
theorem rowF_mem {rows : List (List Int)} {k : Nat} (hk : k < rows.length) : rowF rows k ∈ rows := getD_mem hk
theorem rows_len {rows : List (List Int)} (s : St) (h : ∀ r ∈ rows, r.length ≤ 512) : (wList 2 fRow rows s).2.length ≤ s.2.length + 8 + 4104 * rows.length :=
 wList_len 2 fRow rows s 4104 fun r hr t => by have h1 := fRow_len r t; have h2 := h r hr; unfold cRow at h1; omega
theorem fTab_len {rows : List (List Int)} {L : List UInt64} {sh : Int} (s : St) (h : ∀ r ∈ rows, r.length ≤ 512) : (fTab rows L sh s).2.length ≤ s.2.length + 24 + 4104 * rows.length + 8 * L.length := by
 have h1 := rows_len s h
 have h2 := wNumsA_len 1 [sh] (wList 2 fRow rows s)
 have h3 := wList_len 1 fWd L (wNumsA 1 [sh] (wList 2 fRow rows s)) 8 fun x _ t => fWd_len x t
 simp only [List.length_cons, List.length_nil] at h2
 unfold fTab
 omega
set_option maxHeartbeats 4000000 in
theorem wtable_any {F : Nat → Prop} {G g : Nat} {s : St} (A : Option Addr) (c : Nat) (Af : Option Addr) (cf : Nat) (rows : List (List Int)) (L : List UInt64) (sh : Int) (w : World) (h : Wi w F G g s) (ht : TabV w F A rows.length c Af cf (rowF rows) L)
  (hr : ∀ r ∈ rows, r.length ≤ 512 ∧ ∀ i ∈ r, I64 i) (hrl : rows.length ≤ 140737488355328) (hL : L.length ≤ 140737488355328) (hs : I64 sh) (hn : s.2.length + (24 + 4104 * rows.length + 8 * L.length) ≤ 140737488355328) :
  Calls Tryz.prog 85 #[.pointer (some ⟨G, 0, none⟩), .agg (tabA A rows.length c Af L.length cf sh)] w (Wro w F G g (fTab rows L sh s)) := by
 have HX0 := hD (Wx.new h (tabA A rows.length c Af L.length cf sh) 35)
 have HT := hD ht
 have HR := hD hr
 have HS := hD hs
 have q1 := rows_len s (fun r hr' => (hr r hr').1)
 have q2 := wNumsA_len 1 [sh] (wList 2 fRow rows s)
 simp only [List.length_cons, List.length_nil] at q2
 have H1 := hD (show s.2.length + 8 + 4104 * rows.length ≤ 140737488355328 by omega)
 have H2 := hD (show (wList 2 fRow rows s).2.length + 8 ≤ 140737488355328 by omega)
 have H3 := hD (show (wNumsA 1 [sh] (wList 2 fRow rows s)).2.length + 8 + 8 * L.length ≤ 140737488355328 by omega)
 clear h ht hr hs hn q1 q2
 go_enter Tryz.func85, Tryz.ntmps85
 go_upto_region 1 with (fail)
 change Code.wp _ _ _ _ (w.alloc (.cells (tabA A rows.length c Af L.length cf sh) 35))
 generalize w.heap.size = gb at *
 generalize w.alloc (.cells (tabA A rows.length c Af L.length cf sh) 35) = w1 at *
 have HN := hD ((wlRow_any 2 A rows.length c (rowF rows) 157 4104 (fun k => fRow (rowF rows k)) w1 HX0.out.wi ((HT.out.rows.keep fun k hk _ => HX0.out.kp.block k hk).weak fun _ hk => .inl hk) (fun _ _ => by go_simp) (fun k t hk => by have h1 := fRow_len (rowF rows k) t; have h2 := (HR.out _ (rowF_mem hk)).1; unfold cRow at h1; omega) hrl H1.out (fun k t X Ai ci hk hx hw hkp hl => wbucket_any Ai ci (rowF rows k) X hw hx (HR.out _ (rowF_mem hk)).2 (by have h2 := (HR.out _ (rowF_mem hk)).1; unfold cRow; omega))).mono fun _ _ k => HX0.out.step k)
 have hc := HX0.out.ptr
 have d0 := HX0.out.bx.c 0
 have d1 := HX0.out.bx.c 1
 have d2 := HX0.out.bx.c 2
 simp only [gA, gB, gC] at d0 d1 d2
 go_upto_region 2 with (go_at_call 156; (with_reducible refine (HN.out).mono ?_); rintro en wn ⟨rfl, hw⟩; have HX1 := hD (show Wx w F G g gb _ _ (wList 2 fRow rows s) _ from (wListF_list 2 rows [] fRow s) ▸ hw); clear hw)
 clear HN hc d0 d1 d2 HX0
 have HN := hD (HX1.out.nums1d 1 sh HS.out H2.out)
 refine wp_region_held_drew (S := WX w F G g gb (tabA A rows.length c Af L.length cf sh) 35) (by kernel_rfl) ⟨_, HX1.out.drew⟩ (fun hHeld0 => ?_)
 refine tkI 0 10 (.pointer (some ⟨G, 0, none⟩)) ?_
 simp only [Act.put, zI, zJ, zK]
 refine tkI 1 11 (.pointer (some ⟨G, 0, none⟩)) ?_
 simp only [Act.put, zI, zJ, zK]
 refine tkI 2 12 (.pointer (some ⟨G, 0, none⟩)) ?_
 simp only [Act.put, zI, zJ, zK]
 refine tjI 3 13 (.pointer (some ⟨g, 0, none⟩)) ?_ ?_
 ·
  intro X hX; obtain ⟨t, hW⟩ := hX; have hc := hW.ptr; have d0 := hW.bx.c 0; have d1 := hW.bx.c 1; have d2 := hW.bx.c 2; simp only [gA, gB, gC] at d0 d1 d2; go_simp
 (try simp only [Act.put, zI, zJ, zK])
 refine tkI 4 14 (.pointer (some ⟨gb, 1, none⟩)) ?_
 simp only [Act.put, zI, zJ, zK]
 refine tkI 5 15 (.pointer (some ⟨gb, 2, none⟩)) ?_
 simp only [Act.put, zI, zJ, zK]
 refine tjI 6 16 (.int .i64 sh) ?_ ?_
 ·
  intro X hX; obtain ⟨t, hW⟩ := hX; have hc := hW.ptr; have d0 := hW.bx.c 0; have d1 := hW.bx.c 1; have d2 := hW.bx.c 2; simp only [gA, gB, gC] at d0 d1 d2; go_simp
 (try simp only [Act.put, zI, zJ, zK])
 refine rYI 7 fun K hK => ?_
 go_simp
 refine hK.out _ _ (hHeld0.new _) (fun hHeld1 => ?_)
 clear hK K
 (try simp only [Act.put, zI, zJ, zK])
 refine rYI 8 fun K hK => ?_
 go_simp
 refine (HN.out).mono ?_
 rintro en wn ⟨rfl, hw⟩
 have HY2 := hD hw
 go_simp
 refine hK.out _ _ (⟨_, hw⟩) (fun hHeld2 => ?_)
 clear hK K
 (try simp only [Act.put, zI, zJ, zK])
 refine wpAnyH_done (by kernel_rfl) ?_ _
 have HX2 := hD (show Wx w F G g gb _ _ (wNumsA 1 [sh] (wList 2 fRow rows s)) _ from HY2.out)
 clear HN HY2 HX1 hHeld0
 go_upto_region 3 with (fail)
 have HN := hD ((wlWord_any 1 Af L.length cf L 159 8 (fun k => fWd (L.getD k 0)) _ HX2.out.wi ((HT.out.words.kp HX2.out.kp).weak fun _ hk => .inl hk) (fun _ _ => by go_simp) (fun k t _ => fWd_len _ t) hL H3.out (fun k t X hk hw hkp hl => wword_any (L.getD k 0) X hw hl)).mono fun _ _ k => HX2.out.step k)
 have hc := HX2.out.ptr
 have d0 := HX2.out.bx.c 0
 have d1 := HX2.out.bx.c 1
 have d2 := HX2.out.bx.c 2
 simp only [gA, gB, gC] at d0 d1 d2
 go_upto_region 99 with (go_at_call 158; (with_reducible refine (HN.out).mono ?_); rintro en wn ⟨rfl, hw⟩; have HX3 := hD (show Wx w F G g gb _ _ (fTab rows L sh s) _ from (wListF_list 1 L 0 fWd _) ▸ hw); clear hw)
 clear HN hc d0 d1 d2 HX2
 try go_wp2_with fail
 first | go_end0 | skip
 exact HX3.out.done
end Go.Proofs.YtfljignkjmabpaaGreat
namespace Go.Proofs.YtfljignkjmabpaaGreat
set_option maxRecDepth 100000
open Go.RowKit
structure Mod (x : Im) : Prop where
 name : x.name.length ≤ 64
 segs : x.segs.length ≤ 8 ∧ ∀ s ∈ x.segs, s.bs.length ≤ 65536
 needed : x.needed.length ≤ 16 ∧ ∀ s ∈ x.needed, cNd s ≤ 1400
 run : x.run.length ≤ 16 ∧ cTx x.run ≤ 4000
 syms : x.syms.length ≤ 512 ∧ ∀ s ∈ x.syms, cSym s ≤ 200
 rows : x.rows.length ≤ 512 ∧ ∀ r ∈ x.rows, r.length ≤ 512
 words : x.words.length ≤ 64
 relocs : x.relocs.length ≤ 512
 slots : x.slots.length ≤ 128
 init : x.init.length ≤ 8
 fini : x.fini.length ≤ 8
 tls : x.tls.length ≤ 4096
structure Int64 (x : Im) : Prop where
 flags : I64 x.flags
 seg : ∀ s ∈ x.segs, I64 s.at_ ∧ I64 s.size ∧ I64 s.perm
 sym : ∀ s ∈ x.syms, I64 s.kind ∧ I64 s.vis ∧ I64 s.val ∧ I64 s.size
 row : ∀ r ∈ x.rows, ∀ i ∈ r, I64 i
 shift : I64 x.shift
 reloc : ∀ r ∈ x.relocs, I64 r.at_ ∧ I64 r.kind ∧ I64 r.sym ∧ I64 r.add
 slot : ∀ s ∈ x.slots, I64 s.at_ ∧ I64 s.sym ∧ I64 s.stub
 inits : ∀ i ∈ x.init, I64 i
 finis : ∀ i ∈ x.fini, I64 i
 tlsSize : I64 x.tlsSize
theorem Fit.int {x : Im} (h : Fit x) : Int64 x := ⟨h.flags, fun s hs => ⟨(h.seg s hs).1, (h.seg s hs).2.1, (h.seg s hs).2.2.1⟩, fun s hs => ⟨(h.sym s hs).2.2.1, (h.sym s hs).2.2.2.1, (h.sym s hs).2.2.2.2⟩, fun r hr => (h.row r hr).2, h.shift, h.reloc, h.slot, h.inits, h.finis, h.tlsSize⟩
abbrev mark : Str := [99, 108, 101, 118, 105, 115, 49]
def im1 (x : Im) (s : St) : St := wTexts [mark, x.name] s
theorem im1_len {x : Im} (m : Mod x) (s : St) : (im1 x s).2.length ≤ s.2.length + 87 := by
 have q := wTexts_len [mark, x.name] s
 have q2 : room [mark, x.name] = 15 + (x.name.length + 8) := by (simp [room]; done)
 have := m.name
 unfold im1
 omega
def im2 (x : Im) (s : St) : St := wNumsA 1 [x.flags] (im1 x s)
theorem im2_len {x : Im} (m : Mod x) (s : St) : (im2 x s).2.length ≤ s.2.length + 95 := by
 have p := im1_len m s
 have q := wNumsA_len 1 [x.flags] (im1 x s)
 simp only [List.length_cons, List.length_nil] at q
 unfold im2
 omega
def im3 (x : Im) (s : St) : St := wList 1 fSg x.segs (im2 x s)
theorem im3_len {x : Im} (m : Mod x) (s : St) : (im3 x s).2.length ≤ s.2.length + 524695 := by
 have p := im2_len m s
 have q := wList_len 1 fSg x.segs (im2 x s) 65568 (fun y hy t => by have h1 := fSg_len y t; have h2 := m.segs.2 y hy; unfold cSg at h1; omega)
 have q2 := m.segs.1
 unfold im3
 omega
def im4 (x : Im) (s : St) : St := wList 1 fNd x.needed (im3 x s)
theorem im4_len {x : Im} (m : Mod x) (s : St) : (im4 x s).2.length ≤ s.2.length + 547103 := by
 have p := im3_len m s
 have q := wList_len 1 fNd x.needed (im3 x s) 1400 (fun y hy t => by have h1 := fNd_len y t; have h2 := m.needed.2 y hy; omega)
 have q2 := m.needed.1
 unfold im4
 omega
def im5 (x : Im) (s : St) : St := fTx x.run (im4 x s)
theorem im5_len {x : Im} (m : Mod x) (s : St) : (im5 x s).2.length ≤ s.2.length + 551103 := by
 have p := im4_len m s
 have q := fTx_len x.run (im4 x s)
 have q2 := m.run.2
 unfold im5
 omega
def im6 (x : Im) (s : St) : St := wList 2 fSym x.syms (im5 x s)
theorem im6_len {x : Im} (m : Mod x) (s : St) : (im6 x s).2.length ≤ s.2.length + 653511 := by
 have p := im5_len m s
 have q := wList_len 2 fSym x.syms (im5 x s) 200 (fun y hy t => by have h1 := fSym_len y t; have h2 := m.syms.2 y hy; omega)
 have q2 := m.syms.1
 unfold im6
 omega
def im7 (x : Im) (s : St) : St := fTab x.rows x.words x.shift (im6 x s)
theorem im7_len {x : Im} (m : Mod x) (s : St) : (im7 x s).2.length ≤ s.2.length + 2755295 := by
 have p := im6_len m s
 have q := fTab_len (rows := x.rows) (L := x.words) (sh := x.shift) (im6 x s) m.rows.2
 have q2 := m.rows.1
 have q3 := m.words
 unfold im7
 omega
def im8 (x : Im) (s : St) : St := wList 2 fRl x.relocs (im7 x s)
theorem im8_len {x : Im} (m : Mod x) (s : St) : (im8 x s).2.length ≤ s.2.length + 2771687 := by
 have p := im7_len m s
 have q := wList_len 2 fRl x.relocs (im7 x s) 32 (fun y hy t => fRl_len y t)
 have q2 := m.relocs
 unfold im8
 omega
def im9 (x : Im) (s : St) : St := wList 2 fSl x.slots (im8 x s)
theorem im9_len {x : Im} (m : Mod x) (s : St) : (im9 x s).2.length ≤ s.2.length + 2774767 := by
 have p := im8_len m s
 have q := wList_len 2 fSl x.slots (im8 x s) 24 (fun y hy t => fSl_len y t)
 have q2 := m.slots
 unfold im9
 omega
def im10 (x : Im) (s : St) : St := fRuns x.init (im9 x s)
theorem im10_len {x : Im} (m : Mod x) (s : St) : (im10 x s).2.length ≤ s.2.length + 2774839 := by
 have p := im9_len m s
 have q := fRuns_len x.init (im9 x s)
 have q2 := m.init
 unfold cRow at q
 unfold im10
 omega
def im11 (x : Im) (s : St) : St := fRuns x.fini (im10 x s)
theorem im11_len {x : Im} (m : Mod x) (s : St) : (im11 x s).2.length ≤ s.2.length + 2774911 := by
 have p := im10_len m s
 have q := fRuns_len x.fini (im10 x s)
 have q2 := m.fini
 unfold cRow at q
 unfold im11
 omega
def im12 (x : Im) (s : St) : St := wNumsA 2 [x.tlsSize] (im11 x s)
theorem im12_len {x : Im} (m : Mod x) (s : St) : (im12 x s).2.length ≤ s.2.length + 2774919 := by
 have p := im11_len m s
 have q := wNumsA_len 2 [x.tlsSize] (im11 x s)
 simp only [List.length_cons, List.length_nil] at q
 unfold im12
 omega
def im13 (x : Im) (s : St) : St := wMeas 4 1048576 x.tls (im12 x s)
theorem im13_len {x : Im} (m : Mod x) (s : St) : (im13 x s).2.length ≤ s.2.length + 2779023 := by
 have p := im12_len m s
 have q := wMeas_len 4 1048576 x.tls (im12 x s) (by omega)
 have q2 := m.tls
 unfold im13
 omega
abbrev imAll (x : Im) (s : St) : St := im13 x s
set_option maxHeartbeats 4000000 in
theorem wimage_any {F : Nat → Prop} {G g : Nat} {s : St} (p : Pl) (x : Im) (w : World) (h : Wi w F G g s) (hx : ImIn w F p x) (m : Mod x) (hi : Int64 x) (hn : s.2.length + 5779023 ≤ 140737488355328) :
  Calls Tryz.prog 23 #[.pointer (some ⟨G, 0, none⟩), imV p x] w (Wro w F G g (im13 x s)) := by
 have HX0 := hD (Wx.new h (imA p x) 40)
 have HI := hD hi
 have HM := hD m
 have HIM := hD hx
 obtain ⟨BS, hs1, hs2⟩ := hx.segs.ex
 obtain ⟨BN, hn1, hn2⟩ := hx.needed.ex
 have HS1 := hD hs1
 have HS2 := hD hs2
 have HN1 := hD hn1
 have HN2 := hD hn2
 have L1 := hD (show (im1 x s).2.length + 2990000 ≤ 140737488355328 by have := im1_len m s; omega)
 have L2 := hD (show (im2 x s).2.length + 2990000 ≤ 140737488355328 by have := im2_len m s; omega)
 have L3 := hD (show (im3 x s).2.length + 2990000 ≤ 140737488355328 by have := im3_len m s; omega)
 have L4 := hD (show (im4 x s).2.length + 2990000 ≤ 140737488355328 by have := im4_len m s; omega)
 have L5 := hD (show (im5 x s).2.length + 2990000 ≤ 140737488355328 by have := im5_len m s; omega)
 have L6 := hD (show (im6 x s).2.length + 2990000 ≤ 140737488355328 by have := im6_len m s; omega)
 have L7 := hD (show (im7 x s).2.length + 2990000 ≤ 140737488355328 by have := im7_len m s; omega)
 have L8 := hD (show (im8 x s).2.length + 2990000 ≤ 140737488355328 by have := im8_len m s; omega)
 have L9 := hD (show (im9 x s).2.length + 2990000 ≤ 140737488355328 by have := im9_len m s; omega)
 have L10 := hD (show (im10 x s).2.length + 2990000 ≤ 140737488355328 by have := im10_len m s; omega)
 have L11 := hD (show (im11 x s).2.length + 2990000 ≤ 140737488355328 by have := im11_len m s; omega)
 have L12 := hD (show (im12 x s).2.length + 2990000 ≤ 140737488355328 by have := im12_len m s; omega)
 have L13 := hD (show (im13 x s).2.length + 2990000 ≤ 140737488355328 by have := im13_len m s; omega)
 have L0 := hD (show s.2.length + 2990000 ≤ 140737488355328 by omega)
 clear h hx m hi hn hs1 hs2 hn1 hn2
 go_enter Tryz.func23, Tryz.ntmps23
 go_upto_region 1 with (fail)
 change Code.wp _ _ _ _ (w.alloc (.cells (imA p x) 40))
 generalize w.heap.size = gb at *
 generalize w.alloc (.cells (imA p x) 40) = w1 at *
 have HN := hD (HX0.out.texts2d mark x.name (by have := HM.out.name; have := L0.out; simp; omega))
 refine wp_region_held_drew (S := WX w F G g gb (imA p x) 40) (by kernel_rfl) ⟨_, HX0.out.drew⟩ (fun hHeld0 => ?_)
 refine tkI 0 4 (.pointer (some ⟨G, 0, none⟩)) ?_
 simp only [Act.put, zI, zJ, zK]
 refine tkI 1 5 (.pointer (some ⟨G, 0, none⟩)) ?_
 simp only [Act.put, zI, zJ, zK]
 refine tkI 2 6 (.pointer (some ⟨G, 0, none⟩)) ?_
 simp only [Act.put, zI, zJ, zK]
 refine tjI 3 7 (.pointer (some ⟨g, 0, none⟩)) ?_ ?_
 ·
  intro X hX; obtain ⟨t, hW⟩ := hX; have hc := hW.ptr; have dq := hW.bx.c; have d0 := dq 0; have d1 := dq 1; have d2 := dq 2; have d3 := dq 3; have d4 := dq 4; have d5 := dq 5; have d6 := dq 6; have d7 := dq 7; have d8 := dq 8; have d9 := dq 9; have d10 := dq 10; have d11 := dq 11; have d12 := dq 12; have d13 := dq 13; have d14 := dq 14; clear dq; simp only [gA, gB, gC] at d0 d1 d2 d3 d4 d5 d6 d7 d8 d9 d10 d11 d12 d13 d14; go_simp
 (try simp only [Act.put, zI, zJ, zK])
 refine tkI 4 8 (.pointer (some ⟨gb, 0, none⟩)) ?_
 simp only [Act.put, zI, zJ, zK]
 refine tjI 5 9 (str x.name) ?_ ?_
 ·
  intro X hX; obtain ⟨t, hW⟩ := hX; have hc := hW.ptr; have dq := hW.bx.c; have d0 := dq 0; have d1 := dq 1; have d2 := dq 2; have d3 := dq 3; have d4 := dq 4; have d5 := dq 5; have d6 := dq 6; have d7 := dq 7; have d8 := dq 8; have d9 := dq 9; have d10 := dq 10; have d11 := dq 11; have d12 := dq 12; have d13 := dq 13; have d14 := dq 14; clear dq; simp only [gA, gB, gC] at d0 d1 d2 d3 d4 d5 d6 d7 d8 d9 d10 d11 d12 d13 d14; go_simp
 (try simp only [Act.put, zI, zJ, zK])
 refine rYI 6 fun K hK => ?_
 go_simp
 refine hK.out _ _ (hHeld0.new _) (fun hHeld1 => ?_)
 clear hK K
 (try simp only [Act.put, zI, zJ, zK])
 refine rYI 7 fun K hK => ?_
 go_simp
 refine (HN.out).mono ?_
 rintro en wn ⟨rfl, hw⟩
 have HY1 := hD hw
 go_simp
 refine hK.out _ _ (⟨_, hw⟩) (fun hHeld2 => ?_)
 clear hK K
 (try simp only [Act.put, zI, zJ, zK])
 refine wpAnyH_done (by kernel_rfl) ?_ _
 have HX1 := hD (show Wx w F G g gb _ _ (im1 x s) _ from HY1.out)
 clear HN HY1 HX0 hHeld0
 go_upto_region 2 with (fail)
 have HN := hD (HX1.out.nums1d 1 x.flags HI.out.flags (by have := L1.out; omega))
 refine wp_region_held_drew (S := WX w F G g gb (imA p x) 40) (by kernel_rfl) ⟨_, HX1.out.drew⟩ (fun hHeld0 => ?_)
 refine tkI 0 12 (.pointer (some ⟨G, 0, none⟩)) ?_
 simp only [Act.put, zI, zJ, zK]
 refine tkI 1 13 (.pointer (some ⟨G, 0, none⟩)) ?_
 simp only [Act.put, zI, zJ, zK]
 refine tkI 2 14 (.pointer (some ⟨G, 0, none⟩)) ?_
 simp only [Act.put, zI, zJ, zK]
 refine tjI 3 15 (.pointer (some ⟨g, 0, none⟩)) ?_ ?_
 ·
  intro X hX; obtain ⟨t, hW⟩ := hX; have hc := hW.ptr; have dq := hW.bx.c; have d0 := dq 0; have d1 := dq 1; have d2 := dq 2; have d3 := dq 3; have d4 := dq 4; have d5 := dq 5; have d6 := dq 6; have d7 := dq 7; have d8 := dq 8; have d9 := dq 9; have d10 := dq 10; have d11 := dq 11; have d12 := dq 12; have d13 := dq 13; have d14 := dq 14; clear dq; simp only [gA, gB, gC] at d0 d1 d2 d3 d4 d5 d6 d7 d8 d9 d10 d11 d12 d13 d14; go_simp
 (try simp only [Act.put, zI, zJ, zK])
 refine tkI 4 16 (.pointer (some ⟨gb, 1, none⟩)) ?_
 simp only [Act.put, zI, zJ, zK]
 refine tjI 5 17 (.int .i64 x.flags) ?_ ?_
 ·
  intro X hX; obtain ⟨t, hW⟩ := hX; have hc := hW.ptr; have dq := hW.bx.c; have d0 := dq 0; have d1 := dq 1; have d2 := dq 2; have d3 := dq 3; have d4 := dq 4; have d5 := dq 5; have d6 := dq 6; have d7 := dq 7; have d8 := dq 8; have d9 := dq 9; have d10 := dq 10; have d11 := dq 11; have d12 := dq 12; have d13 := dq 13; have d14 := dq 14; clear dq; simp only [gA, gB, gC] at d0 d1 d2 d3 d4 d5 d6 d7 d8 d9 d10 d11 d12 d13 d14; go_simp
 (try simp only [Act.put, zI, zJ, zK])
 refine rYI 6 fun K hK => ?_
 go_simp
 refine hK.out _ _ (hHeld0.new _) (fun hHeld1 => ?_)
 clear hK K
 (try simp only [Act.put, zI, zJ, zK])
 refine rYI 7 fun K hK => ?_
 go_simp
 refine (HN.out).mono ?_
 rintro en wn ⟨rfl, hw⟩
 have HY2 := hD hw
 go_simp
 refine hK.out _ _ (⟨_, hw⟩) (fun hHeld2 => ?_)
 clear hK K
 (try simp only [Act.put, zI, zJ, zK])
 refine wpAnyH_done (by kernel_rfl) ?_ _
 have HX2 := hD (show Wx w F G g gb _ _ (im2 x s) _ from HY2.out)
 clear HN HY2 HX1 hHeld0
 go_upto_region 3 with (fail)
 have HN := hD ((wlSeg_any 1 p.sg.1 x.segs.length p.sg.2 x.segs BS 79 65568 (fun k => fSg (x.segs.getD k noSg)) _ HX2.out.wi ((HS1.out.keep fun k hk _ => HX2.out.kp.block k hk).weak fun _ hk => .inl hk) (fun _ _ => by go_simp) (fun k t hk => by have h1 := fSg_len (x.segs.getD k noSg) t; have h2 := HM.out.segs.2 _ (getD_mem (d := noSg) hk); unfold cSg at h1; omega) (by have := HM.out.segs.1; omega) (by have := HM.out.segs.1; have := L2.out; omega) (fun k t X hk hw hkp hl => wseg_any (x.segs.getD k noSg) (BS k) X hw (((HS2.out k hk).kp HX2.out.kp |>.weak fun _ hk => .inl hk).kp hkp) (HI.out.seg _ (getD_mem (d := noSg) hk)) (by have h2 := HM.out.segs.2 _ (getD_mem (d := noSg) hk); unfold cSg; omega))).mono fun _ _ k => HX2.out.step k)
 have hc := HX2.out.ptr
 have dq := HX2.out.bx.c; have d0 := dq 0; have d1 := dq 1; have d2 := dq 2; have d3 := dq 3; have d4 := dq 4; have d5 := dq 5; have d6 := dq 6; have d7 := dq 7; have d8 := dq 8; have d9 := dq 9; have d10 := dq 10; have d11 := dq 11; have d12 := dq 12; have d13 := dq 13; have d14 := dq 14; clear dq
 simp only [gA, gB, gC] at d0 d1 d2 d3 d4 d5 d6 d7 d8 d9 d10 d11 d12 d13 d14
 go_upto_region 4 with (go_at_call 78; (with_reducible refine (HN.out).mono ?_); rintro en wn ⟨rfl, hw⟩; have HX3 := hD (show Wx w F G g gb _ _ (im3 x s) _ from (wListF_list 1 x.segs noSg fSg _) ▸ hw); clear hw)
 clear HN hc d0 d1 d2 d3 d4 d5 d6 d7 d8 d9 d10 d11 d12 d13 d14 HX2
 have HN := hD ((wlNeed_any 1 p.nd.1 x.needed.length p.nd.2 x.needed BN 81 1400 (fun k => fNd (x.needed.getD k noNd)) _ HX3.out.wi ((HN1.out.keep fun k hk _ => HX3.out.kp.block k hk).weak fun _ hk => .inl hk) (fun _ _ => by go_simp) (fun k t hk => by have h1 := fNd_len (x.needed.getD k noNd) t; have h2 := HM.out.needed.2 _ (getD_mem (d := noNd) hk); omega) (by have := HM.out.needed.1; omega) (by have := HM.out.needed.1; have := L3.out; omega) (fun k t X hk hw hkp hl => wneed_any (x.needed.getD k noNd) (BN k) X hw (((HN2.out k hk).kp HX3.out.kp |>.weak fun _ hk => .inl hk).kp hkp) (by have h2 := HM.out.needed.2 _ (getD_mem (d := noNd) hk); omega))).mono fun _ _ k => HX3.out.step k)
 have hc := HX3.out.ptr
 have dq := HX3.out.bx.c; have d0 := dq 0; have d1 := dq 1; have d2 := dq 2; have d3 := dq 3; have d4 := dq 4; have d5 := dq 5; have d6 := dq 6; have d7 := dq 7; have d8 := dq 8; have d9 := dq 9; have d10 := dq 10; have d11 := dq 11; have d12 := dq 12; have d13 := dq 13; have d14 := dq 14; clear dq
 simp only [gA, gB, gC] at d0 d1 d2 d3 d4 d5 d6 d7 d8 d9 d10 d11 d12 d13 d14
 go_upto_region 5 with (go_at_call 80; (with_reducible refine (HN.out).mono ?_); rintro en wn ⟨rfl, hw⟩; have HX4 := hD (show Wx w F G g gb _ _ (im4 x s) _ from (wListF_list 1 x.needed noNd fNd _) ▸ hw); clear hw)
 clear HN hc d0 d1 d2 d3 d4 d5 d6 d7 d8 d9 d10 d11 d12 d13 d14 HX3
 have HN := hD ((wtexts_any p.rp.1 p.rp.2 x.run _ HX4.out.wi ((HIM.out.run.kp HX4.out.kp).weak fun _ hk => .inl hk) (by have := HM.out.run.2; have := L4.out; omega)).mono fun _ _ k => HX4.out.step k)
 have hc := HX4.out.ptr
 have dq := HX4.out.bx.c; have d0 := dq 0; have d1 := dq 1; have d2 := dq 2; have d3 := dq 3; have d4 := dq 4; have d5 := dq 5; have d6 := dq 6; have d7 := dq 7; have d8 := dq 8; have d9 := dq 9; have d10 := dq 10; have d11 := dq 11; have d12 := dq 12; have d13 := dq 13; have d14 := dq 14; clear dq
 simp only [gA, gB, gC] at d0 d1 d2 d3 d4 d5 d6 d7 d8 d9 d10 d11 d12 d13 d14
 go_upto_region 6 with (go_at_call 82; (with_reducible refine (HN.out).mono ?_); rintro en wn ⟨rfl, hw⟩; have HX5 := hD (show Wx w F G g gb _ _ (im5 x s) _ from hw); clear hw)
 clear HN hc d0 d1 d2 d3 d4 d5 d6 d7 d8 d9 d10 d11 d12 d13 d14 HX4
 have HN := hD ((wlSym_any 2 p.sy.1 x.syms.length p.sy.2 x.syms 84 200 (fun k => fSym (x.syms.getD k noSy)) _ HX5.out.wi ((HIM.out.syms.els.keep fun k hk _ => HX5.out.kp.block k hk).weak fun _ hk => .inl hk) (fun _ _ => by go_simp) (fun k t hk => by have h1 := fSym_len (x.syms.getD k noSy) t; have h2 := HM.out.syms.2 _ (getD_mem (d := noSy) hk); omega) (by have := HM.out.syms.1; omega) (by have := HM.out.syms.1; have := L5.out; omega) (fun k t X hk hw hkp hl => wsymbol_any (x.syms.getD k noSy) X hw (HI.out.sym _ (getD_mem (d := noSy) hk)) (by have h2 := HM.out.syms.2 _ (getD_mem (d := noSy) hk); omega))).mono fun _ _ k => HX5.out.step k)
 have hc := HX5.out.ptr
 have dq := HX5.out.bx.c; have d0 := dq 0; have d1 := dq 1; have d2 := dq 2; have d3 := dq 3; have d4 := dq 4; have d5 := dq 5; have d6 := dq 6; have d7 := dq 7; have d8 := dq 8; have d9 := dq 9; have d10 := dq 10; have d11 := dq 11; have d12 := dq 12; have d13 := dq 13; have d14 := dq 14; clear dq
 simp only [gA, gB, gC] at d0 d1 d2 d3 d4 d5 d6 d7 d8 d9 d10 d11 d12 d13 d14
 go_upto_region 7 with (go_at_call 83; (with_reducible refine (HN.out).mono ?_); rintro en wn ⟨rfl, hw⟩; have HX6 := hD (show Wx w F G g gb _ _ (im6 x s) _ from (wListF_list 2 x.syms noSy fSym _) ▸ hw); clear hw)
 clear HN hc d0 d1 d2 d3 d4 d5 d6 d7 d8 d9 d10 d11 d12 d13 d14 HX5
 have HN := hD ((wtable_any p.bk.1 p.bk.2 p.fw.1 p.fw.2 x.rows x.words x.shift _ HX6.out.wi ((HIM.out.tab.keep fun k hk _ => HX6.out.kp.block k hk).weak fun _ hk => .inl hk) (fun r hr => ⟨HM.out.rows.2 r hr, HI.out.row r hr⟩) (by have := HM.out.rows.1; omega) (by have := HM.out.words; omega) HI.out.shift (by have := HM.out.rows.1; have := HM.out.words; have := L6.out; omega)).mono fun _ _ k => HX6.out.step k)
 have hc := HX6.out.ptr
 have dq := HX6.out.bx.c; have d0 := dq 0; have d1 := dq 1; have d2 := dq 2; have d3 := dq 3; have d4 := dq 4; have d5 := dq 5; have d6 := dq 6; have d7 := dq 7; have d8 := dq 8; have d9 := dq 9; have d10 := dq 10; have d11 := dq 11; have d12 := dq 12; have d13 := dq 13; have d14 := dq 14; clear dq
 simp only [gA, gB, gC] at d0 d1 d2 d3 d4 d5 d6 d7 d8 d9 d10 d11 d12 d13 d14
 go_upto_region 8 with (go_at_call 85; (with_reducible refine (HN.out).mono ?_); rintro en wn ⟨rfl, hw⟩; have HX7 := hD (show Wx w F G g gb _ _ (im7 x s) _ from hw); clear hw)
 clear HN hc d0 d1 d2 d3 d4 d5 d6 d7 d8 d9 d10 d11 d12 d13 d14 HX6
 have HN := hD ((wlRel_any 2 p.rl.1 x.relocs.length p.rl.2 x.relocs 87 32 (fun k => fRl (x.relocs.getD k noRl)) _ HX7.out.wi ((HIM.out.relocs.els.keep fun k hk _ => HX7.out.kp.block k hk).weak fun _ hk => .inl hk) (fun _ _ => by go_simp) (fun k t hk => fRl_len _ t) (by have := HM.out.relocs; omega) (by have := HM.out.relocs; have := L7.out; omega) (fun k t X hk hw hkp hl => wreloc_any (x.relocs.getD k noRl) X hw (HI.out.reloc _ (getD_mem (d := noRl) hk)) hl)).mono fun _ _ k => HX7.out.step k)
 have hc := HX7.out.ptr
 have dq := HX7.out.bx.c; have d0 := dq 0; have d1 := dq 1; have d2 := dq 2; have d3 := dq 3; have d4 := dq 4; have d5 := dq 5; have d6 := dq 6; have d7 := dq 7; have d8 := dq 8; have d9 := dq 9; have d10 := dq 10; have d11 := dq 11; have d12 := dq 12; have d13 := dq 13; have d14 := dq 14; clear dq
 simp only [gA, gB, gC] at d0 d1 d2 d3 d4 d5 d6 d7 d8 d9 d10 d11 d12 d13 d14
 go_upto_region 9 with (go_at_call 86; (with_reducible refine (HN.out).mono ?_); rintro en wn ⟨rfl, hw⟩; have HX8 := hD (show Wx w F G g gb _ _ (im8 x s) _ from (wListF_list 2 x.relocs noRl fRl _) ▸ hw); clear hw)
 clear HN hc d0 d1 d2 d3 d4 d5 d6 d7 d8 d9 d10 d11 d12 d13 d14 HX7
 have HN := hD ((wlSlot_any 2 p.sl.1 x.slots.length p.sl.2 x.slots 89 24 (fun k => fSl (x.slots.getD k noSl)) _ HX8.out.wi ((HIM.out.slots.els.keep fun k hk _ => HX8.out.kp.block k hk).weak fun _ hk => .inl hk) (fun _ _ => by go_simp) (fun k t hk => fSl_len _ t) (by have := HM.out.slots; omega) (by have := HM.out.slots; have := L8.out; omega) (fun k t X hk hw hkp hl => wslot_any (x.slots.getD k noSl) X hw (HI.out.slot _ (getD_mem (d := noSl) hk)) hl)).mono fun _ _ k => HX8.out.step k)
 have hc := HX8.out.ptr
 have dq := HX8.out.bx.c; have d0 := dq 0; have d1 := dq 1; have d2 := dq 2; have d3 := dq 3; have d4 := dq 4; have d5 := dq 5; have d6 := dq 6; have d7 := dq 7; have d8 := dq 8; have d9 := dq 9; have d10 := dq 10; have d11 := dq 11; have d12 := dq 12; have d13 := dq 13; have d14 := dq 14; clear dq
 simp only [gA, gB, gC] at d0 d1 d2 d3 d4 d5 d6 d7 d8 d9 d10 d11 d12 d13 d14
 go_upto_region 10 with (go_at_call 88; (with_reducible refine (HN.out).mono ?_); rintro en wn ⟨rfl, hw⟩; have HX9 := hD (show Wx w F G g gb _ _ (im9 x s) _ from (wListF_list 2 x.slots noSl fSl _) ▸ hw); clear hw)
 clear HN hc d0 d1 d2 d3 d4 d5 d6 d7 d8 d9 d10 d11 d12 d13 d14 HX8
 have HN := hD ((wruns_any p.ini.1 p.ini.2 x.init _ HX9.out.wi ((HIM.out.init.kp HX9.out.kp).weak fun _ hk => .inl hk) HI.out.inits (by have := HM.out.init; have := L9.out; unfold cRow; omega)).mono fun _ _ k => HX9.out.step k)
 have hc := HX9.out.ptr
 have dq := HX9.out.bx.c; have d0 := dq 0; have d1 := dq 1; have d2 := dq 2; have d3 := dq 3; have d4 := dq 4; have d5 := dq 5; have d6 := dq 6; have d7 := dq 7; have d8 := dq 8; have d9 := dq 9; have d10 := dq 10; have d11 := dq 11; have d12 := dq 12; have d13 := dq 13; have d14 := dq 14; clear dq
 simp only [gA, gB, gC] at d0 d1 d2 d3 d4 d5 d6 d7 d8 d9 d10 d11 d12 d13 d14
 go_upto_region 11 with (go_at_call 90; (with_reducible refine (HN.out).mono ?_); rintro en wn ⟨rfl, hw⟩; have HX10 := hD (show Wx w F G g gb _ _ (im10 x s) _ from hw); clear hw)
 clear HN hc d0 d1 d2 d3 d4 d5 d6 d7 d8 d9 d10 d11 d12 d13 d14 HX9
 have HN := hD ((wruns_any p.fin.1 p.fin.2 x.fini _ HX10.out.wi ((HIM.out.fini.kp HX10.out.kp).weak fun _ hk => .inl hk) HI.out.finis (by have := HM.out.fini; have := L10.out; unfold cRow; omega)).mono fun _ _ k => HX10.out.step k)
 have hc := HX10.out.ptr
 have dq := HX10.out.bx.c; have d0 := dq 0; have d1 := dq 1; have d2 := dq 2; have d3 := dq 3; have d4 := dq 4; have d5 := dq 5; have d6 := dq 6; have d7 := dq 7; have d8 := dq 8; have d9 := dq 9; have d10 := dq 10; have d11 := dq 11; have d12 := dq 12; have d13 := dq 13; have d14 := dq 14; clear dq
 simp only [gA, gB, gC] at d0 d1 d2 d3 d4 d5 d6 d7 d8 d9 d10 d11 d12 d13 d14
 go_upto_region 12 with (go_at_call 90; (with_reducible refine (HN.out).mono ?_); rintro en wn ⟨rfl, hw⟩; have HX11 := hD (show Wx w F G g gb _ _ (im11 x s) _ from hw); clear hw)
 clear HN hc d0 d1 d2 d3 d4 d5 d6 d7 d8 d9 d10 d11 d12 d13 d14 HX10
 have HN := hD (HX11.out.nums1d 2 x.tlsSize HI.out.tlsSize (by have := L11.out; omega))
 refine wp_region_held_drew (S := WX w F G g gb (imA p x) 40) (by kernel_rfl) ⟨_, HX11.out.drew⟩ (fun hHeld0 => ?_)
 refine tkI 0 66 (.pointer (some ⟨G, 0, none⟩)) ?_
 simp only [Act.put, zI, zJ, zK]
 refine tkI 1 67 (.pointer (some ⟨G, 0, none⟩)) ?_
 simp only [Act.put, zI, zJ, zK]
 refine tkI 2 68 (.pointer (some ⟨G, 0, none⟩)) ?_
 simp only [Act.put, zI, zJ, zK]
 refine tjI 3 69 (.pointer (some ⟨g, 0, none⟩)) ?_ ?_
 ·
  intro X hX; obtain ⟨t, hW⟩ := hX; have hc := hW.ptr; have dq := hW.bx.c; have d0 := dq 0; have d1 := dq 1; have d2 := dq 2; have d3 := dq 3; have d4 := dq 4; have d5 := dq 5; have d6 := dq 6; have d7 := dq 7; have d8 := dq 8; have d9 := dq 9; have d10 := dq 10; have d11 := dq 11; have d12 := dq 12; have d13 := dq 13; have d14 := dq 14; clear dq; simp only [gA, gB, gC] at d0 d1 d2 d3 d4 d5 d6 d7 d8 d9 d10 d11 d12 d13 d14; go_simp
 (try simp only [Act.put, zI, zJ, zK])
 refine tkI 4 70 (.pointer (some ⟨gb, 14, none⟩)) ?_
 simp only [Act.put, zI, zJ, zK]
 refine tjI 5 71 (.int .i64 x.tlsSize) ?_ ?_
 ·
  intro X hX; obtain ⟨t, hW⟩ := hX; have hc := hW.ptr; have dq := hW.bx.c; have d0 := dq 0; have d1 := dq 1; have d2 := dq 2; have d3 := dq 3; have d4 := dq 4; have d5 := dq 5; have d6 := dq 6; have d7 := dq 7; have d8 := dq 8; have d9 := dq 9; have d10 := dq 10; have d11 := dq 11; have d12 := dq 12; have d13 := dq 13; have d14 := dq 14; clear dq; simp only [gA, gB, gC] at d0 d1 d2 d3 d4 d5 d6 d7 d8 d9 d10 d11 d12 d13 d14; go_simp
 (try simp only [Act.put, zI, zJ, zK])
 refine rYI 6 fun K hK => ?_
 go_simp
 refine hK.out _ _ (hHeld0.new _) (fun hHeld1 => ?_)
 clear hK K
 (try simp only [Act.put, zI, zJ, zK])
 refine rYI 7 fun K hK => ?_
 go_simp
 refine (HN.out).mono ?_
 rintro en wn ⟨rfl, hw⟩
 have HY12 := hD hw
 go_simp
 refine hK.out _ _ (⟨_, hw⟩) (fun hHeld2 => ?_)
 clear hK K
 (try simp only [Act.put, zI, zJ, zK])
 refine wpAnyH_done (by kernel_rfl) ?_ _
 have HX12 := hD (show Wx w F G g gb _ _ (im12 x s) _ from HY12.out)
 clear HN HY12 HX11 hHeld0
 go_upto_region 13 with (fail)
 have HN := hD (HX12.out.blockd p.tl.1 x.tls.length p.tl.2 x.tls HIM.out.tls (by have := HM.out.tls; have := L12.out; omega))
 refine wp_region_held_drew (S := WX w F G g gb (imA p x) 40) (by kernel_rfl) ⟨_, HX12.out.drew⟩ (fun hHeld0 => ?_)
 refine tkI 0 74 (.pointer (some ⟨G, 0, none⟩)) ?_
 simp only [Act.put, zI, zJ, zK]
 refine tkI 1 75 (.pointer (some ⟨G, 0, none⟩)) ?_
 simp only [Act.put, zI, zJ, zK]
 refine tkI 2 76 (.pointer (some ⟨G, 0, none⟩)) ?_
 simp only [Act.put, zI, zJ, zK]
 refine tjI 3 77 (.pointer (some ⟨g, 0, none⟩)) ?_ ?_
 ·
  intro X hX; obtain ⟨t, hW⟩ := hX; have hc := hW.ptr; have dq := hW.bx.c; have d0 := dq 0; have d1 := dq 1; have d2 := dq 2; have d3 := dq 3; have d4 := dq 4; have d5 := dq 5; have d6 := dq 6; have d7 := dq 7; have d8 := dq 8; have d9 := dq 9; have d10 := dq 10; have d11 := dq 11; have d12 := dq 12; have d13 := dq 13; have d14 := dq 14; clear dq; simp only [gA, gB, gC] at d0 d1 d2 d3 d4 d5 d6 d7 d8 d9 d10 d11 d12 d13 d14; go_simp
 (try simp only [Act.put, zI, zJ, zK])
 refine tkI 4 78 (.pointer (some ⟨gb, 13, none⟩)) ?_
 simp only [Act.put, zI, zJ, zK]
 refine tjI 5 79 (.slice p.tl.1 x.tls.length p.tl.2) ?_ ?_
 ·
  intro X hX; obtain ⟨t, hW⟩ := hX; have hc := hW.ptr; have dq := hW.bx.c; have d0 := dq 0; have d1 := dq 1; have d2 := dq 2; have d3 := dq 3; have d4 := dq 4; have d5 := dq 5; have d6 := dq 6; have d7 := dq 7; have d8 := dq 8; have d9 := dq 9; have d10 := dq 10; have d11 := dq 11; have d12 := dq 12; have d13 := dq 13; have d14 := dq 14; clear dq; simp only [gA, gB, gC] at d0 d1 d2 d3 d4 d5 d6 d7 d8 d9 d10 d11 d12 d13 d14; go_simp
 (try simp only [Act.put, zI, zJ, zK])
 refine rYI 6 fun K hK => ?_
 go_simp
 refine (HN.out).mono ?_
 rintro en wn ⟨rfl, hw⟩
 have HY13 := hD hw
 go_simp
 refine hK.out _ _ (⟨_, hw⟩) (fun hHeld1 => ?_)
 clear hK K
 (try simp only [Act.put, zI, zJ, zK])
 refine wpAnyH_done (by kernel_rfl) ?_ _
 have HX13 := hD (show Wx w F G g gb _ _ (im13 x s) _ from HY13.out)
 clear HN HY13 HX12 hHeld0
 try go_wp2_with fail
 first | go_end0 | skip
 exact HX13.out.done
end Go.Proofs.YtfljignkjmabpaaGreat
namespace Go.Proofs.YtfljignkjmabpaaGreat
set_option maxRecDepth 100000
open Go.RowKit
theorem slbox_below (w : World) (s : Sl) : Below w.heap.size w (w.alloc (.cells (slA s) 112)) := (Below.refl _ _).alloc (Nat.le_refl _) _
theorem sl_cells (w : World) (s : Sl) : Bx (w.alloc (.cells (slA s) 112)) w.heap.size (slA s) 112 := Bx.new _ _ _
set_option maxHeartbeats 2000000 in
theorem slot_is_any (p : Pl) (x : Im) (s : Sl) (g : Nat) (w : World) (h : ImIn w (fun k => k < w.heap.size) p x) (hf : Fit x) (hs : ∀ s ∈ x.segs, SegOk s) (hr : ∀ r ∈ x.relocs, relB x r = true) (hi : Ix w g p x) :
  Calls Tryz.prog 118 #[.agg (slA s), .pointer (some ⟨g, 0, none⟩)] w fun e w' => e = .returned (.bool (slotB x s)) ∧ Below w.heap.size w w' := by
 have HB := hD (slbox_below w s)
 have HC := hD (isSlot_any p x s (w.alloc (.cells (slA s) 112)) (h.lt HB.out) hf hs hr)
 obtain ⟨d0, d1, d2⟩ := (sl_cells w s).sl
 obtain ⟨c0, c1, c2, c3, c4, c5, c6, c7, c8, c9, c10, c11, c12, c13, c14⟩ := (hi.below HB.out).cells
 generalize slotB x s = b at *
 clear h hf hs hi hr
 go_enter Tryz.func118, Tryz.ntmps118
 go_upto_region 1 with (fail)
 change Code.wp _ _ _ _ (w.alloc (.cells (slA s) 112))
 generalize w.alloc (.cells (slA s) 112) = w1 at *
 go_upto_region 99 with (go_at_call 119; (with_reducible refine (HC.out).mono ?_); rintro e w2 ⟨rfl, hb2⟩)
 first | go_ret | skip
 exact ⟨rfl, HB.out.trans (hb2.mono HB.out.size)⟩
theorem slot_word_any (s : Sl) (w : World) (h0 : 0 ≤ s.at_) (h1 : s.at_ ≤ 65536) :
  Calls Tryz.prog 120 #[.agg (slA s)] w fun e w' => e = .returned (.tuple #[.int .i64 s.at_, .int .i64 (s.at_ + 8)]) ∧ Below w.heap.size w w' := by
 have HB := hD (slbox_below w s)
 obtain ⟨d0, d1, d2⟩ := (sl_cells w s).sl
 have e1 : wrap64 (s.at_ + 8) = s.at_ + 8 := wrap_in (by omega) (by omega)
 have e2 : IntKind.i64.wrap (s.at_ + 8) = s.at_ + 8 := (wrap_i64 _).trans e1
 go_enter Tryz.func120, Tryz.ntmps120
 go_upto_region 1 with (fail)
 change Code.wp _ _ _ _ (w.alloc (.cells (slA s) 112))
 generalize w.alloc (.cells (slA s) 112) = w1 at *
 refine wp_region_still_lit (by kernel_rfl) (by kernel_rfl) ?_
 repeat still_step
 refine wpStill_nil ?_
 go_wp2_with fail
 first | go_ret2 | go_ret | skip
 exact ⟨rfl, HB.out.trans ((drew_below w1).mono HB.out.size)⟩
def slotsB (x : Im) : Bool := decide (x.slots.length ≤ 128) && apartB x.slots.length (fun k => slotB x (x.slots.getD k noSl)) (fun k => (x.slots.getD k noSl).at_) (fun k => (x.slots.getD k noSl).at_ + 8)
theorem slot_range {x : Im} {s : Sl} (hs : ∀ s ∈ x.segs, SegOk s) (h : slotB x s = true) : 0 ≤ s.at_ ∧ s.at_ + 8 ≤ 65536 := by
 unfold slotB at h
 simp only [Bool.and_eq_true] at h
 exact stand_range h.1.2 hs
set_option maxHeartbeats 2000000 in
theorem slots_any (p : Pl) (x : Im) (w : World) (h : ImIn w (fun k => k < w.heap.size) p x) (hf : Fit x) (hs : ∀ s ∈ x.segs, SegOk s) (hr : ∀ r ∈ x.relocs, relB x r = true) :
  Calls Tryz.prog 34 #[imV p x] w fun e w' => e = .returned (.bool (slotsB x)) ∧ Below w.heap.size w w' := by
 have hB := ibox_below w p x
 have hX := Ix.new w p x
 have hl := hf.slots
 unfold Long at hl
 have HA := hD (apartSlot_any p.sl.1 x.slots.length p.sl.2 x.slots 118 120 #[.pointer (some ⟨w.heap.size, 0, none⟩)] #[] (fun k => slotB x (x.slots.getD k noSl)) (fun k => (x.slots.getD k noSl).at_) (fun k => (x.slots.getD k noSl).at_ + 8)
  (w.alloc (.cells (imA p x) 40)) (h.lt hB).slots.els (by omega) (fun _ _ => by go_simp) (fun _ _ => by go_simp)
  (fun k Y hk hY => slot_is_any p x _ _ Y ((h.lt hB).lt hY) hf hs hr (hX.below hY)) (fun k Y hk hp hY => slot_word_any _ Y (slot_range hs hp).1 (by have := slot_range hs hp; omega)))
 have HF := hD (show slotsB x = (decide (x.slots.length ≤ 128) && apartB x.slots.length (fun k => slotB x (x.slots.getD k noSl)) (fun k => (x.slots.getD k noSl).at_) (fun k => (x.slots.getD k noSl).at_ + 8)) from rfl)
 generalize apartB x.slots.length (fun k => slotB x (x.slots.getD k noSl)) (fun k => (x.slots.getD k noSl).at_) (fun k => (x.slots.getD k noSl).at_ + 8) = b2 at *
 have HB := hD hB
 obtain ⟨-, -, -, -, -, -, -, -, -, -, c10, -⟩ := hX.cells
 clear h hf hs hr hB hX
 go_enter Tryz.func34, Tryz.ntmps34
 go_upto_region 1 with (fail)
 change Code.wp _ _ _ _ (w.alloc (.cells (imA p x) 40))
 generalize w.alloc (.cells (imA p x) 40) = w1 at *
 go_wp2_with (go_at_call 121; (with_reducible refine (HA.out).mono ?_); rintro e w2 ⟨rfl, hb2⟩; have HB2 := hD (HB.out.trans (hb2.mono HB.out.size)); clear hb2)
 all_goals
  go_ret
  rw [HF.out]
  first
   | (refine ⟨?_, HB2.out⟩; simp [*] <;> (intros; omega))
   | (refine ⟨?_, HB.out⟩; simp [*] <;> (intros; omega))
def runsB (x : Im) (l : List Int) : Bool := decide (l.length ≤ 8) && l.all fun a => standB x.segs a 8 4
set_option maxHeartbeats 2000000 in
theorem run_is_any (p : Pl) (x : Im) (a : Int) (g : Nat) (w : World) (h : ImIn w (fun k => k < w.heap.size) p x) (hf : Fit x) (hs : ∀ s ∈ x.segs, SegOk s) (hi : Ix w g p x) :
  Calls Tryz.prog 123 #[.int .i64 a, .pointer (some ⟨g, 0, none⟩)] w fun e w' => e = .returned (.bool (standB x.segs a 8 4)) ∧ Below w.heap.size w w' := by
 have HC := hD (has_img p x a 8 4 w h hf.segs hs (by omega) (by omega))
 obtain ⟨c0, c1, c2, c3, c4, c5, c6, c7, c8, c9, c10, c11, c12, c13, c14⟩ := hi.cells
 generalize standB x.segs a 8 4 = b at *
 clear h hf hs hi
 go_enter Tryz.func123, Tryz.ntmps123
 go_upto_region 99 with (go_at_call 124; (with_reducible refine (HC.out).mono ?_); rintro e w2 ⟨rfl, hb2⟩)
 first | go_ret | skip
 exact ⟨rfl, hb2⟩
set_option maxHeartbeats 2000000 in
theorem runs_any (p : Pl) (x : Im) (A : Option Addr) (c : Nat) (l : List Int) (w : World) (h : ImIn w (fun k => k < w.heap.size) p x) (hl : Src w (fun k => k < w.heap.size) A l.length c (ints l)) (hf : Fit x) (hs : ∀ s ∈ x.segs, SegOk s) (hn : Long l.length) :
  Calls Tryz.prog 35 #[imV p x, .slice A l.length c] w fun e w' => e = .returned (.bool (runsB x l)) ∧ Below w.heap.size w w' := by
 have hB := ibox_below w p x
 have hX := Ix.new w p x
 unfold Long at hn
 have HA := hD (allInt_any A l.length c l 123 #[.pointer (some ⟨w.heap.size, 0, none⟩)] (fun k => standB x.segs (l.getD k 0) 8 4) (w.alloc (.cells (imA p x) 40)) ((hl.below hB (fun _ h => h)).lt) (by omega) (fun _ _ => by go_simp)
  (fun k Y hk hY => run_is_any p x _ _ Y ((h.lt hB).lt hY) hf hs (hX.below hY)))
 rw [range_all l 0 (fun a => standB x.segs a 8 4)] at HA
 have HF := hD (show runsB x l = (decide (l.length ≤ 8) && l.all fun a => standB x.segs a 8 4) from rfl)
 generalize (l.all fun a => standB x.segs a 8 4) = b2 at *
 have HB := hD hB
 clear h hf hs hl hB hX
 go_enter Tryz.func35, Tryz.ntmps35
 go_upto_region 1 with (fail)
 change Code.wp _ _ _ _ (w.alloc (.cells (imA p x) 40))
 generalize w.alloc (.cells (imA p x) 40) = w1 at *
 go_wp2_with (go_at_call 122; (with_reducible refine (HA.out).mono ?_); rintro e w2 ⟨rfl, hb2⟩; have HB2 := hD (HB.out.trans (hb2.mono HB.out.size)); clear hb2)
 all_goals
  go_ret
  rw [HF.out]
  first
   | (refine ⟨?_, HB2.out⟩; simp [*] <;> (intros; omega))
   | (refine ⟨?_, HB.out⟩; simp [*] <;> (intros; omega))
end Go.Proofs.YtfljignkjmabpaaGreat
