/-
  Rows of elements that the call owns; many readings, one more.
-/
import Derived.Test.YtacknedekhpklaaGreatZCNb
namespace Go.Proofs.YtacknedekhpklaaGreat
set_option maxRecDepth 100000
set_option linter.unusedSimpArgs false
set_option linter.unusedVariables false
open Go.RowKit

/-- The cells of n elements, one behind the other. -/
def flatE (E : Nat → Array Value) : Nat → List Value
  | 0 => []
  | n + 1 => flatE E n ++ (E n).toList
theorem flatE_congr {E E' : Nat → Array Value} : ∀ n, (∀ i, i < n → E i = E' i) → flatE E n = flatE E' n
  | 0, _ => rfl
  | n + 1, h => by
    show flatE E n ++ (E n).toList = flatE E' n ++ (E' n).toList
    rw [flatE_congr n (fun i hi => h i (by omega)), h n (by omega)]
theorem flatE_len {E : Nat → Array Value} {sz : Nat} : ∀ n, (∀ i, i < n → (E i).size = sz) → (flatE E n).length = n * sz
  | 0, _ => by simp [flatE]
  | n + 1, h => by
    show (flatE E n ++ (E n).toList).length = _
    rw [List.length_append, flatE_len n (fun i hi => h i (by omega)), Array.length_toList, h n (by omega), Nat.succ_mul]
theorem flatE_get {E : Nat → Array Value} {sz : Nat} : ∀ n, (∀ i, i < n → (E i).size = sz) → ∀ k, k < n → ∀ j u, (E k)[j]? = some u → (flatE E n)[k * sz + j]? = some u
  | 0, _, k, hk, _, _, _ => by omega
  | n + 1, h, k, hk, j, u, hu => by
    have hl := flatE_len n (fun i hi => h i (by omega))
    show (flatE E n ++ (E n).toList)[k * sz + j]? = some u
    have hj : j < (E k).size := (Array.getElem?_eq_some_iff.1 hu).1
    rw [h k hk] at hj
    rcases Nat.lt_or_ge k n with hkn | hkn
    · have h1 : (k + 1) * sz ≤ n * sz := Nat.mul_le_mul_right _ hkn
      rw [Nat.succ_mul] at h1
      rw [List.getElem?_append_left (by rw [hl]; omega)]
      exact flatE_get n (fun i hi => h i (by omega)) k hkn j u hu
    · obtain rfl : k = n := by omega
      rw [List.getElem?_append_right (by rw [hl]; omega), hl, Nat.add_sub_cancel_left]
      simpa using hu
theorem own_sl {w : World} {base n sz : Nat} {e : TypeId} {v : Value} {xs : List Value} (h : w.ownsRow base e sz v n xs) : ∃ A c, v = .slice A n c := by
  rcases h.2 with ⟨rfl, rfl⟩ | ⟨g, cap, cur, rfl, _⟩
  · exact ⟨_, _, rfl⟩
  · exact ⟨_, _, rfl⟩
/-- Elements of a row of the call's own can be read. -/
theorem els_of_own {w : World} {base n c sz : Nat} {e : TypeId} {A : Option Addr} {E : Nat → Array Value} (hE : ∀ i, i < n → (E i).size = sz) (h : w.ownsRow base e sz (.slice A n c) n (flatE E n)) : Els w (fun k => base ≤ k ∧ k < w.heap.size) A n c sz E := by
  refine ⟨fun hA => ?_, ?_, fun ad hA _ => ?_, fun ad hA k hk j u hu => ?_⟩
  · subst hA
    rcases h.2 with ⟨hv, h0⟩ | ⟨g, cap, cur, hv, _⟩
    · injection hv with _ _ hc
      exact ⟨h0, hc⟩
    · injection hv with h1; cases h1
  · rcases h.2 with ⟨hv, h0⟩ | ⟨g, cap, cur, hv, _, _, hle, _⟩
    · omega
    · injection hv with _ _ hc; subst hc; exact hle
  · subst hA
    exact h.lt ad.block rfl
  · subst hA
    rcases h.2 with ⟨hv, h0⟩ | ⟨g, cap, cur, hv, _⟩
    · cases hv
    · have q := h.cells (g := ad.block) rfl
      injection hv with h1
      injection h1 with h1
      subst h1
      exact q _ u (flatE_get n hE k hk j u hu)
/-- Many readings, one more at the end. -/
theorem rdMany_snoc {α : Type} (r : St → α × Bool × St) : ∀ n s, rdMany r (n + 1) s = ((rdMany r n s).1 ++ [(r (rdMany r n s).2.2).1], (rdMany r n s).2.1 || (r (rdMany r n s).2.2).2.1, (r (rdMany r n s).2.2).2.2)
  | 0, s => by
    show ([(r s).1], (r s).2.1 || false, (r s).2.2) = ([] ++ [(r s).1], false || (r s).2.1, (r s).2.2)
    simp
  | n + 1, s => by
    show ((r s).1 :: (rdMany r (n + 1) (r s).2.2).1, (r s).2.1 || (rdMany r (n + 1) (r s).2.2).2.1, (rdMany r (n + 1) (r s).2.2).2.2) = _
    rw [rdMany_snoc r n (r s).2.2]
    show _ = ((r s).1 :: (rdMany r n (r s).2.2).1 ++ [_], ((r s).2.1 || (rdMany r n (r s).2.2).2.1) || _, _)
    simp only [List.cons_append, Bool.or_assoc]
    rfl
/-- Behind an error nothing is read, and nothing is found to stand in no form. -/
structure Clean {α : Type} (r : St → α × Bool × St) : Prop where
  stick : ∀ s, s.1 ≠ 0 → (r s).2.2 = s
  clean : ∀ s, s.1 ≠ 0 → (r s).2.1 = false
theorem rdMany_stop {α : Type} {r : St → α × Bool × St} (h : Clean r) (k : Nat) (s : St) (he : (rdMany r k s).2.2.1 ≠ 0) : ∀ m, (rdMany r (k + m) s).2.2 = (rdMany r k s).2.2 ∧ (rdMany r (k + m) s).2.1 = (rdMany r k s).2.1
  | 0 => ⟨rfl, rfl⟩
  | m + 1 => by
    obtain ⟨h1, h2⟩ := rdMany_stop h k s he m
    have e : k + (m + 1) = (k + m) + 1 := by omega
    rw [e, rdMany_snoc]
    rw [← h1] at he
    refine ⟨?_, ?_⟩
    · show (r (rdMany r (k + m) s).2.2).2.2 = _
      rw [h.stick _ he, h1]
    · show ((rdMany r (k + m) s).2.1 || (r (rdMany r (k + m) s).2.2).2.1) = _
      rw [h.clean _ he, Bool.or_false, h2]
theorem rdMany_stop' {α : Type} {r : St → α × Bool × St} (h : Clean r) {k n : Nat} (hk : k ≤ n) (s : St) (he : (rdMany r k s).2.2.1 ≠ 0) : (rdMany r n s).2.2 = (rdMany r k s).2.2 ∧ (rdMany r n s).2.1 = (rdMany r k s).2.1 := by
  have := rdMany_stop h k s he (n - k)
  rwa [show k + (n - k) = n by omega] at this
theorem clean_num (size : Int) : Clean (rdNum size) := ⟨fun s h => rNum_stick size s h, fun _ _ => rfl⟩
theorem clean_text : Clean rdText := ⟨fun s h => rMeas_stick 2 4096 s h, fun _ _ => rfl⟩
theorem clean_block : Clean rdBlock := ⟨fun s h => rMeas_stick 4 1048576 s h, fun _ _ => rfl⟩
theorem rTake_err (n : Nat) (s : St) (h : s.1 ≠ 0) : rTake n s = ([], s) := by unfold rTake; rw [if_neg h]
theorem rNum_err (size : Int) (s : St) (h : s.1 ≠ 0) : (rNum size s).1 = 0 := by
  unfold rNum
  split
  · rw [rTake_err _ _ h]
    show val [] = 0
    simp [val, valN, wrap64]
  · rfl
theorem clean_bit : Clean rdBit := by
  refine ⟨fun s h => ?_, fun s h => ?_⟩
  · rw [rdBit_eq, mkBit_st]; exact rNum_stick 1 s h
  · rw [rdBit_eq, mkBit_bad, rNum_err 1 s h]; rfl
theorem Clean.pair {α β : Type} {r1 : St → α × Bool × St} {r2 : St → β × Bool × St} (h1 : Clean r1) (h2 : Clean r2) : Clean (rdPair r1 r2) := by
  refine ⟨fun s h => ?_, fun s h => ?_⟩
  · show (r2 (r1 s).2.2).2.2 = s
    rw [h1.stick s h, h2.stick s h]
  · show ((r1 s).2.1 || (r2 (r1 s).2.2).2.1) = false
    rw [h1.stick s h, h1.clean s h, h2.clean s h]
    rfl
theorem Clean.map {α β : Type} {r : St → α × Bool × St} (h : Clean r) (g : α → β) : Clean (fun s => (g (r s).1, (r s).2)) := ⟨fun s hs => h.stick s hs, fun s hs => h.clean s hs⟩
theorem Clean.list {α : Type} {r : St → α × Bool × St} (h : Clean r) (size : Int) : Clean (rdList size r) := by
  refine ⟨fun s hs => ?_, fun s hs => ?_⟩
  · show (rdMany r _ (rNum size s).2).2.2 = s
    rw [rNum_stick size s hs]
    exact (rdMany_stop' h (Nat.zero_le _) s hs).1
  · show (rdMany r _ (rNum size s).2).2.1 = false
    rw [rNum_stick size s hs]
    exact (rdMany_stop' h (Nat.zero_le _) s hs).2
theorem clean_sg : Clean rdSg := ((clean_num 4).pair ((clean_num 4).pair ((clean_num 1).pair clean_block))).map mkSg
theorem clean_tx : Clean rdTx := clean_text.list 1
theorem clean_nd : Clean rdNd := (clean_text.pair clean_tx).map mkNd
theorem clean_sym : Clean rdSym := (clean_text.pair (clean_text.pair ((clean_num 1).pair ((clean_num 1).pair (clean_bit.pair (clean_bit.pair (clean_bit.pair ((clean_num 8).pair (clean_num 8))))))))).map mkSym
theorem clean_row : Clean rdRow := (clean_num 2).list 2
theorem clean_rl : Clean rdRl := ((clean_num 1).pair ((clean_num 8).pair ((clean_num 8).pair (clean_num 8)))).map mkRl
theorem clean_sl : Clean rdSl := ((clean_num 4).pair ((clean_num 4).pair (clean_num 4))).map mkSl
theorem clean_wd : Clean rdWd := ⟨fun s h => rNum_stick 8 s h, fun _ _ => rfl⟩
end Go.Proofs.YtacknedekhpklaaGreat
