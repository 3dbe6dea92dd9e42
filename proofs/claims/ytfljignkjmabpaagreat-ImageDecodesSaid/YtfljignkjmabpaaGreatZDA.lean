/- A part of the proof. -/
import Derived.Test.YtfljignkjmabpaaGreatZRA
set_option linter.unusedSimpArgs false
set_option linter.unusedVariables false
namespace Go.Proofs.YtfljignkjmabpaaGreat
set_option maxRecDepth 100000
open Go.RowKit
def flatE (E : Nat → Array Value) : Nat → List Value
 | 0 => []
 | n + 1 => flatE E n ++ (E n).toList
theorem flatE_congr {E E' : Nat → Array Value} : ∀ n, (∀ i, i < n → E i = E' i) → flatE E n = flatE E' n
 | 0, _ => rfl
 | n + 1, h => by
  show flatE E n ++ (E n).toList = flatE E' n ++ (E' n).toList
  rw [flatE_congr n (fun i hi => h i (by omega)), h n (by omega)]
theorem flatE_len {E : Nat → Array Value} {sz : Nat} : ∀ n, (∀ i, i < n → (E i).size = sz) → (flatE E n).length = n * sz
 | 0, _ => by simp [flatE]
 | n + 1, h => by
  show (flatE E n ++ (E n).toList).length = _
  rw [List.length_append, flatE_len n (fun i hi => h i (by omega)), Array.length_toList, h n (by omega), Nat.succ_mul]
theorem flatE_get {E : Nat → Array Value} {sz : Nat} : ∀ n, (∀ i, i < n → (E i).size = sz) → ∀ k, k < n → ∀ j u, (E k)[j]? = some u → (flatE E n)[k * sz + j]? = some u
 | 0, _, k, hk, _, _, _ => by omega
 | n + 1, h, k, hk, j, u, hu => by
  have hl := flatE_len n (fun i hi => h i (by omega))
  show (flatE E n ++ (E n).toList)[k * sz + j]? = some u
  have hj : j < (E k).size := (Array.getElem?_eq_some_iff.1 hu).1
  rw [h k hk] at hj
  rcases Nat.lt_or_ge k n with hkn | hkn
  ·
   have h1 : (k + 1) * sz ≤ n * sz := Nat.mul_le_mul_right _ hkn
   rw [Nat.succ_mul] at h1
   rw [List.getElem?_append_left (by rw [hl]; omega)]
   exact flatE_get n (fun i hi => h i (by omega)) k hkn j u hu
  ·
   obtain rfl : k = n := by omega
   rw [List.getElem?_append_right (by rw [hl]; omega), hl, Nat.add_sub_cancel_left]
   simpa using hu
theorem own_sl {w : World} {base n sz : Nat} {e : TypeId} {v : Value} {xs : List Value} (h : w.ownsRow base e sz v n xs) : ∃ A c, v = .slice A n c := by
 rcases h.2 with ⟨rfl, rfl⟩ | ⟨g, cap, cur, rfl, _⟩
 ·
  exact ⟨_, _, rfl⟩
 ·
  exact ⟨_, _, rfl⟩
theorem els_of_own {w : World} {base n c sz : Nat} {e : TypeId} {A : Option Addr} {E : Nat → Array Value} (hE : ∀ i, i < n → (E i).size = sz) (h : w.ownsRow base e sz (.slice A n c) n (flatE E n)) : Els w (fun k => base ≤ k ∧ k < w.heap.size) A n c sz E := by
 refine ⟨fun hA => ?_, ?_, fun ad hA _ => ?_, fun ad hA k hk j u hu => ?_⟩
 ·
  subst hA
  rcases h.2 with ⟨hv, h0⟩ | ⟨g, cap, cur, hv, _⟩
  ·
   injection hv with _ _ hc
   exact ⟨h0, hc⟩
  ·
   injection hv with h1; cases h1
 ·
  rcases h.2 with ⟨hv, h0⟩ | ⟨g, cap, cur, hv, _, _, hle, _⟩
  ·
   omega
  ·
   injection hv with _ _ hc; subst hc; exact hle
 ·
  subst hA
  exact h.lt ad.block rfl
 ·
  subst hA
  rcases h.2 with ⟨hv, h0⟩ | ⟨g, cap, cur, hv, _⟩
  ·
   cases hv
  ·
   have q := h.cells (g := ad.block) rfl
   injection hv with h1
   injection h1 with h1
   subst h1
   exact q _ u (flatE_get n hE k hk j u hu)
theorem rdMany_snoc {α : Type} (r : St → α × Bool × St) : ∀ n s, rdMany r (n + 1) s = ((rdMany r n s).1 ++ [(r (rdMany r n s).2.2).1], (rdMany r n s).2.1 || (r (rdMany r n s).2.2).2.1, (r (rdMany r n s).2.2).2.2)
 | 0, s => by
  show ([(r s).1], (r s).2.1 || false, (r s).2.2) = ([] ++ [(r s).1], false || (r s).2.1, (r s).2.2)
  simp
 | n + 1, s => by
  show ((r s).1 :: (rdMany r (n + 1) (r s).2.2).1, (r s).2.1 || (rdMany r (n + 1) (r s).2.2).2.1, (rdMany r (n + 1) (r s).2.2).2.2) = _
  rw [rdMany_snoc r n (r s).2.2]
  show _ = ((r s).1 :: (rdMany r n (r s).2.2).1 ++ [_], ((r s).2.1 || (rdMany r n (r s).2.2).2.1) || _, _)
  simp only [List.cons_append, Bool.or_assoc]
  rfl
structure Clean {α : Type} (r : St → α × Bool × St) : Prop where
 stick : ∀ s, s.1 ≠ 0 → (r s).2.2 = s
 clean : ∀ s, s.1 ≠ 0 → (r s).2.1 = false
theorem rdMany_stop {α : Type} {r : St → α × Bool × St} (h : Clean r) (k : Nat) (s : St) (he : (rdMany r k s).2.2.1 ≠ 0) : ∀ m, (rdMany r (k + m) s).2.2 = (rdMany r k s).2.2 ∧ (rdMany r (k + m) s).2.1 = (rdMany r k s).2.1
 | 0 => ⟨rfl, rfl⟩
 | m + 1 => by
  obtain ⟨h1, h2⟩ := rdMany_stop h k s he m
  have e : k + (m + 1) = (k + m) + 1 := by omega
  rw [e, rdMany_snoc]
  rw [← h1] at he
  refine ⟨?_, ?_⟩
  ·
   show (r (rdMany r (k + m) s).2.2).2.2 = _
   rw [h.stick _ he, h1]
  ·
   show ((rdMany r (k + m) s).2.1 || (r (rdMany r (k + m) s).2.2).2.1) = _
   rw [h.clean _ he, Bool.or_false, h2]
theorem rdMany_stop' {α : Type} {r : St → α × Bool × St} (h : Clean r) {k n : Nat} (hk : k ≤ n) (s : St) (he : (rdMany r k s).2.2.1 ≠ 0) : (rdMany r n s).2.2 = (rdMany r k s).2.2 ∧ (rdMany r n s).2.1 = (rdMany r k s).2.1 := by
 have := rdMany_stop h k s he (n - k)
 rwa [show k + (n - k) = n by omega] at this
theorem clean_num (size : Int) : Clean (rdNum size) := ⟨fun s h => rNum_stick size s h, fun _ _ => rfl⟩
theorem clean_text : Clean rdText := ⟨fun s h => rMeas_stick 2 4096 s h, fun _ _ => rfl⟩
theorem clean_block : Clean rdBlock := ⟨fun s h => rMeas_stick 4 1048576 s h, fun _ _ => rfl⟩
theorem rTake_err (n : Nat) (s : St) (h : s.1 ≠ 0) : rTake n s = ([], s) := by unfold rTake; rw [if_neg h]
theorem rNum_err (size : Int) (s : St) (h : s.1 ≠ 0) : (rNum size s).1 = 0 := by
 unfold rNum
 split
 ·
  rw [rTake_err _ _ h]
  show val [] = 0
  simp [val, valN, wrap64]
 ·
  rfl
theorem clean_bit : Clean rdBit := by
 refine ⟨fun s h => ?_, fun s h => ?_⟩
 ·
  rw [rdBit_eq, mkBit_st]; exact rNum_stick 1 s h
 ·
  rw [rdBit_eq, mkBit_bad, rNum_err 1 s h]; rfl
theorem Clean.pair {α β : Type} {r1 : St → α × Bool × St} {r2 : St → β × Bool × St} (h1 : Clean r1) (h2 : Clean r2) : Clean (rdPair r1 r2) := by
 refine ⟨fun s h => ?_, fun s h => ?_⟩
 ·
  show (r2 (r1 s).2.2).2.2 = s
  rw [h1.stick s h, h2.stick s h]
 ·
  show ((r1 s).2.1 || (r2 (r1 s).2.2).2.1) = false
  rw [h1.stick s h, h1.clean s h, h2.clean s h]
  rfl
theorem Clean.map {α β : Type} {r : St → α × Bool × St} (h : Clean r) (g : α → β) : Clean (fun s => (g (r s).1, (r s).2)) := ⟨fun s hs => h.stick s hs, fun s hs => h.clean s hs⟩
theorem Clean.list {α : Type} {r : St → α × Bool × St} (h : Clean r) (size : Int) : Clean (rdList size r) := by
 refine ⟨fun s hs => ?_, fun s hs => ?_⟩
 ·
  show (rdMany r _ (rNum size s).2).2.2 = s
  rw [rNum_stick size s hs]
  exact (rdMany_stop' h (Nat.zero_le _) s hs).1
 ·
  show (rdMany r _ (rNum size s).2).2.1 = false
  rw [rNum_stick size s hs]
  exact (rdMany_stop' h (Nat.zero_le _) s hs).2
theorem clean_sg : Clean rdSg := ((clean_num 4).pair ((clean_num 4).pair ((clean_num 1).pair clean_block))).map mkSg
theorem clean_tx : Clean rdTx := clean_text.list 1
theorem clean_nd : Clean rdNd := (clean_text.pair clean_tx).map mkNd
theorem clean_sym : Clean rdSym := (clean_text.pair (clean_text.pair ((clean_num 1).pair ((clean_num 1).pair (clean_bit.pair (clean_bit.pair (clean_bit.pair ((clean_num 8).pair (clean_num 8))))))))).map mkSym
theorem clean_row : Clean rdRow := (clean_num 2).list 2
theorem clean_rl : Clean rdRl := ((clean_num 1).pair ((clean_num 8).pair ((clean_num 8).pair (clean_num 8)))).map mkRl
theorem clean_sl : Clean rdSl := ((clean_num 4).pair ((clean_num 4).pair (clean_num 4))).map mkSl
theorem clean_wd : Clean rdWd := ⟨fun s h => rNum_stick 8 s h, fun _ _ => rfl⟩
end Go.Proofs.YtfljignkjmabpaaGreat
namespace Go.Proofs.YtfljignkjmabpaaGreat
set_option maxRecDepth 100000
open Go.RowKit
structure Rq (w : World) (B g : Nat) (s : St) : Prop where
 ex : ∃ A c, Rr w (fun k => k < B) g s.1 A c s.2
 le : B ≤ w.heap.size
theorem Rq.e {w : World} {B g : Nat} {s : St} (h : Rq w B g s) : w.cell? ⟨g, 1, none⟩ = some (.int .i64 s.1) := by
 obtain ⟨A, c, h⟩ := h.ex
 exact h.facts.2.1
theorem Rq.ge {w : World} {B g : Nat} {s : St} (h : Rq w B g s) : B ≤ g := by
 obtain ⟨A, c, h⟩ := h.ex
 exact Nat.le_of_not_lt h.ne
theorem Rq.lt {w : World} {B g : Nat} {s : St} (h : Rq w B g s) : g < w.heap.size := by
 obtain ⟨A, c, h⟩ := h.ex
 exact h.lt
theorem Rq.keep {w w' : World} {B g : Nat} {s : St} (h : Rq w B g s) (hs : w.heap.size ≤ w'.heap.size) (hk : ∀ k, k < B → w'.heap[k]? = w.heap[k]?) (hg : w'.heap[g]? = w.heap[g]?) : Rq w' B g s := by
 obtain ⟨A, c, k⟩ := h.ex
 exact ⟨⟨A, c, hg.trans k.blk, k.src.keep fun j hj _ => hk j hj, k.ne, k.lim, k.small⟩, Nat.le_trans h.le hs⟩
theorem Rq.below {w w' : World} {B g : Nat} {s : St} (h : Rq w B g s) (hb : Below w.heap.size w w') : Rq w' B g s :=
 h.keep hb.size (fun k hk => hb.block k (Nat.lt_of_lt_of_le hk h.le)) (hb.block g h.lt)
theorem Rq.of_is {w w' : World} {B g : Nat} {s : St} (h : Rq w B g s) {t : St} (hi : IsR w (fun k => k < B) g t.1 t.2 w') : Rq w' B g t ∧ w.grownBy w' (some g) := by
 obtain ⟨A, c, h1, h2⟩ := hi
 exact ⟨⟨⟨A, c, h1⟩, Nat.le_trans h.le h2.size⟩, h2⟩
theorem rnum_d {w : World} {B g : Nat} {s : St} (h : Rq w B g s) (size : Int) : Calls Tryz.prog 56 #[.pointer (some ⟨g, 0, none⟩), .int .i64 size] w fun e w' => e = .returned (.int .i64 (rNum size s).1) ∧ Rq w' B g (rNum size s).2 ∧ w.grownBy w' (some g) := by
 obtain ⟨A, c, k⟩ := h.ex
 refine (mnum_any _ g s A c size w k).mono fun e w' hh => ?_
 exact ⟨hh.1, h.of_is hh.2⟩
theorem rtext_d {w : World} {B g : Nat} {s : St} (h : Rq w B g s) : Calls Tryz.prog 55 #[.pointer (some ⟨g, 0, none⟩)] w fun e w' => e = .returned (str (rMeas 2 4096 s).1) ∧ Rq w' B g (rMeas 2 4096 s).2 ∧ w.grownBy w' (some g) := by
 obtain ⟨A, c, k⟩ := h.ex
 refine (mtext_any _ g s A c w k).mono fun e w' hh => ?_
 exact ⟨hh.1, h.of_is hh.2⟩
theorem grown_trans {a w w' : World} {row : Option Nat} (h : a.grownBy w row) (k : w.grownBy w' row) : a.grownBy w' row :=
 ⟨k.os.trans h.os, k.tape.trans h.tape, k.output.trans h.output, Nat.le_trans h.size k.size, fun j hj hn => (k.block j (Nat.lt_of_lt_of_le hj h.size) hn).trans (h.block j hj hn)⟩
theorem grown_row {a w w' : World} {g : Nat} {row : Option Nat} (h : a.grownBy w (some g)) (k : w.grownBy w' row) (hr : ∀ j, row = some j → a.heap.size ≤ j) : a.grownBy w' (some g) :=
 ⟨k.os.trans h.os, k.tape.trans h.tape, k.output.trans h.output, Nat.le_trans h.size k.size, fun j hj hn => (k.block j (Nat.lt_of_lt_of_le hj h.size) (fun e => by have := hr j e.symm; omega)).trans (h.block j hj hn)⟩
theorem many_end {α : Type} {r : St → α × Bool × St} (h : Clean r) {k n : Nat} (hk : k ≤ n) {s : St} (he : (rdMany r k s).2.2.1 ≠ 0) : (rdMany r n s).2.2 = (rdMany r k s).2.2 ∧ (rdMany r n s).2.1 = (rdMany r k s).2.1 := by
 have := rdMany_stop h k s he (n - k)
 rwa [show k + (n - k) = n by omega] at this
theorem own_grown {w wr w1 : World} {g : Nat} {e : TypeId} {v : Value} {n : Nat} {xs : List Value} (h : wr.ownsRow w.heap.size e 1 v n xs) (hg : wr.grownBy w1 (some g)) (hl : g < w.heap.size) : w1.ownsRow w.heap.size e 1 v n xs :=
 h.kept hg (by
  cases hq : v.ownBlock with
  | none => exact .inl rfl
  | some q =>
   refine .inr fun e => ?_
   have h1 := (h.lt q hq).1
   injection e with e
   omega)
theorem grown_below {a w w' : World} {row : Option Nat} (h : a.grownBy w row) (hb : Below w.heap.size w w') : a.grownBy w' row :=
 ⟨hb.os.trans h.os, hb.tape.trans h.tape, hb.output.trans h.output, Nat.le_trans h.size hb.size, fun j hj hn => (hb.block j (Nat.lt_of_lt_of_le hj h.size)).trans (h.block j hj hn)⟩
theorem cells_new1 (w : World) (v : Value) (t : TypeId) : ∀ j u, ([v] : List Value)[j]? = some u → (w.alloc (.cells #[v] t)).cell? ((⟨w.heap.size, 0, none⟩ : Addr).add j) = some u := by
 intro j u hu
 rw [plainAdd, Nat.zero_add, (Bx.new w #[v] t).c j]
 simpa using hu
set_option maxHeartbeats 2000000 in
theorem dlist_any (B g : Nat) (s : St) (size : Int) (n : Nat) (w : World) (h : Rq w B g s) (hn : n ≤ 70000) :
  Calls Tryz.prog 57 #[.pointer (some ⟨g, 0, none⟩), .int .i64 (n : Int), .int .i64 size] w fun e w' => ∃ A c, ∃ L : List Int, e = .returned (.slice A L.length c) ∧ w'.ownsRow w.heap.size 3 1 (.slice A L.length c) L.length (ints L) ∧ L.length ≤ n ∧
   Rq w' B g (rdMany (rdNum size) n s).2.2 ∧ ((rdMany (rdNum size) n s).2.2.1 = 0 → L = (rdMany (rdNum size) n s).1) ∧ w.grownBy w' (some g) := by
 obtain ⟨i0, hi0, hz0, hz1, hz2⟩ := info_parts (show (Tryz.prog.info? 3).map (fun i => (i.zero, i.size, i.bytes)) = some (some (.int .i64 0), 1, 8) by kernel_rfl)
 have H := hD h
 have HG := hD h.lt
 clear h
 go_enter Tryz.func57, Tryz.ntmps57
 go_upto_region 3 with (fail)
 go_loopw [7, 8] (fun t i wr => ∃ (k : Nat) (L : List Int) (A : Option Addr) (c : Nat), k ≤ n ∧ i = .int .i64 (k : Int) ∧ t = .slice A L.length c ∧ L.length ≤ k ∧ wr.ownsRow w.heap.size 3 1 (.slice A L.length c) L.length (ints L) ∧ Rq wr B g (rdMany (rdNum size) k s).2.2 ∧ ((rdMany (rdNum size) k s).2.2.1 = 0 → L = (rdMany (rdNum size) k s).1) ∧ w.grownBy wr (some g)) (fun _ i _ => n - (intOf i).toNat)
 case atStart => exact ⟨0, [], none, 0, Nat.zero_le _, rfl, rfl, Nat.le_refl _, World.ownsRow_nil _ _ _ _, H.out, fun _ => rfl, World.grownBy.refl _ _⟩
 case round =>
  obtain ⟨k, L, A, c, hk, rfl, rfl, hL, ho, hr, hl, hg⟩ := hrel
  have HO := hD ho
  have HR := hD hr
  have HLQ := hD hl
  have HGR := hD hg
  have he := hr.e
  by_cases hlt : k < n
  ·
   by_cases h0 : (rdMany (rdNum size) k s).2.2.1 = 0
   ·
    have HSN := hD (rdMany_snoc (rdNum size) k s)
    have HN := hD (rnum_d hr size)
    have HLE := hD (hl h0)
    rw [h0] at he
    generalize rdMany (rdNum size) k s = t at *
    obtain ⟨tl, tb, ts⟩ := t
    simp only at *
    clear ho hr hl hg
    have m1 : L.length + 1 ≤ maxLen := by simp only [maxLen]; omega
    have m2 : (L.length + 1) * 8 ≤ 140737488355328 := by omega
    go_wp2_with (first
     | (go_at_call 56; (with_reducible refine (HN.out).mono ?_); rintro en w1 ⟨rfl, hr1, hg1⟩; have HR1 := hD hr1; have HG1 := hD (grown_trans HGR.out hg1); have HO1 := hD (own_grown HO.out hg1 HG.out); have hbx : Below w1.heap.size w1 (w1.alloc (.cells #[.int .i64 (rNum size ts).1] 3)) := (Below.refl _ _).alloc (Nat.le_refl _) _; have HOA := hD (HO1.out.alloc (.cells #[.int .i64 (rNum size ts).1] 3)); have HCN := hD (cells_new1 w1 (.int .i64 (rNum size ts).1) 3); have HRA := hD (HR1.out.below hbx); have HGA := hD (grown_below HG1.out hbx); clear hr1 hg1 hbx)
     | (at_builtin; refine wpList_append_src rfl (.tmp 21) (.tmp 25) 38 rfl w.heap.size 3 i0 _ 8 Tryz.underlying38 hi0 hz0 hz1 hz2 rfl (.slice A L.length c) L.length (ints L) rfl HOA.out (fun _ => True) _ 1 1 [.int .i64 (rNum size ts).1] rfl ⟨rfl, (by intro h; cases h), Nat.le_refl _, (by intro _ _ _; trivial), (by intro ad h; cases h; exact HCN.out)⟩ (by intro u hu; simp at hu; subst hu; rfl) m1 m2 HGA.out.size ?_; intro v' w2 hown hg2 hat; obtain ⟨A', c', rfl⟩ := own_slice hown; have HO2 := hD hown; have HG2 := hD (grown_row HGA.out hg2 (fun j hj => (HOA.out.lt j hj).1)); have HR2 := hD (HRA.out.keep hg2.size (fun j hj => hg2.block j (by have := HRA.out.le; omega) (fun e => by have := (HOA.out.lt j e.symm).1; have := H.out.le; omega)) (hg2.block g HRA.out.lt (fun e => by have := (HOA.out.lt g e.symm).1; have := HG.out; omega))); clear hown hg2 hat))
    go_roundw
    case rel =>
     refine ⟨k + 1, L ++ [(rNum size ts).1], A', c', by omega, by go_num, by rw [List.length_append]; rfl, by rw [List.length_append]; simp; omega, ?_, ?_, ?_, HG2.out⟩
     ·
      have e : ints (L ++ [(rNum size ts).1]) = ints L ++ [.int .i64 (rNum size ts).1] := by simp [ints]
      rw [e, List.length_append]
      exact HO2.out
     ·
      rw [HSN.out]
      exact HR2.out
     ·
      intro hz
      rw [HSN.out]
      exact congrArg (· ++ [(rNum size ts).1]) HLE.out
    case measure => simp [intOf]; omega
   ·
    have HEND := hD (many_end (clean_num size) (Nat.le_of_lt hlt) h0)
    have he0 : ((rdMany (rdNum size) k s).2.2.1 == 0) = false := by simpa using h0
    clear ho hr hl hg
    go_wp2_with (fail)
    go_ret
    exact ⟨A, c, L, rfl, HO.out, by omega, by rw [HEND.out.1]; exact HR.out, fun hz => absurd (by rw [HEND.out.1] at hz; exact hz) h0, HGR.out⟩
  ·
   obtain rfl : k = n := by omega
   clear ho hr hl hg
   go_wp2_with (fail)
   go_ret
   exact ⟨A, c, L, rfl, HO.out, hL, HR.out, HLQ.out, HGR.out⟩
end Go.Proofs.YtfljignkjmabpaaGreat
