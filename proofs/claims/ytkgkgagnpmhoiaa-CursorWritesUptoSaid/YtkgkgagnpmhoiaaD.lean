/-
  A new reader, and the laws' common head: the document's examples.
-/
import Derived.Test.YtkgkgagnpmhoiaaC
namespace Go.Proofs.Ytkgkgagnpmhoiaa
open Go.RowKit

/-- A new reader at the beginning of these bytes, of which it has a copy. -/
def Opened (w : World) (l : List UInt8) (en : Ending) (w' : World) : Prop :=
  ∃ g A c, en = .returned (.pointer (some ⟨g, 0, none⟩)) ∧ Rd w' (fun k => w.heap.size ≤ k ∧ k < g) g 0 A c l ∧ Below w.heap.size w w' ∧ w.heap.size ≤ g

theorem own_cap {w : World} {B : Nat} {e : TypeId} {n c : Nat} {A : Option Addr} {xs : List Value} (h : w.ownsRow B e 1 (.slice A n c) n xs) : c ≤ 9223372036854775807 := by
  rcases h.2 with ⟨h1, _⟩ | ⟨g', cap, cur, hv, _, _, _, hm, _⟩
  · injection h1 with _ _ h1; omega
  · injection hv with _ _ h1; subst h1; simpa [maxLen] using hm

set_option maxHeartbeats 400000 in
theorem rnew_any (P : Nat → Prop) (A : Option Addr) (n c : Nat) (l : List UInt8) (w : World) (h : Src w P A n c (cells l)) (hn : n ≤ 140737488355328) :
    Calls Try.prog 20 #[.slice A n c] w (Opened w l) := by
  have hl : l.length = n := by have := h.len; simpa [cells_len] using this
  subst hl
  have C := Lib.hid (clone_any P A l.length c l w h hn)
  clear h
  go_enter Try.func20, Try.ntmps20
  go_wp2_with (go_at_call 40; refine C.out.mono ?_; rintro en w1 ⟨A1, c1, rfl, hown, hb⟩; have HO := Lib.hid hown; have HB := Lib.hid hb; clear hown hb)
  go_ret
  have hs := HB.out.size
  refine ⟨w1.heap.size, A1, c1, rfl, ⟨heap_alloc_new _ _, ?_, (by intro h; omega), own_cap HO.out, hn⟩, HB.out.alloc hs _, hs⟩
  have hsrc := Src.of_own HO.out
  exact (hsrc.weak fun k hk => ⟨hk.2.1, hk.2.2⟩).keep fun k _ hkl => Below.heap_alloc _ _ _ hkl

/-- A new block of one int. -/
theorem src_int (w : World) (x : Int) : Src (w.alloc (.cells #[.int .i64 x] 3)) (fun k => k = w.heap.size) (some ⟨w.heap.size, 0, none⟩) 1 1 (ints [x]) := by
  refine ⟨rfl, (by intro h; cases h), Nat.le_refl _, (by intro ad h _; cases h; rfl), ?_⟩
  intro ad h j u hj
  cases h
  exact cell_one_new w _ 3 j u hj
/-- A new block of one string. -/
theorem src_str (w : World) (l : List UInt8) : Src (w.alloc (.cells #[.string ⟨l.toArray⟩] 9)) (fun k => k = w.heap.size) (some ⟨w.heap.size, 0, none⟩) 1 1 (strs [l]) := by
  refine ⟨rfl, (by intro h; cases h), Nat.le_refl _, (by intro ad h _; cases h; rfl), ?_⟩
  intro ad h j u hj
  cases h
  exact cell_one_new w _ 9 j u hj
theorem Step.to_below {g B : Nat} {w w' : World} {r r' : Option Nat} (h : Step g w r w' r') (hg : B ≤ g) (hr : ∀ k, r = some k → B ≤ k) (hB : B ≤ w.heap.size) : Below B w w' :=
  ⟨h.os, h.tape, h.output, h.size, fun k hk => h.block k (by omega) (by omega) (fun e => by have := hr k e; omega)⟩
theorem num_258 : wNumsA 2 [258] (0, []) = (0, [2, 1]) := by decide +kernel
theorem text_a : wTexts [[97]] (0, [2, 1]) = (0, [2, 1, 1, 0, 97]) := by decide +kernel

theorem rnum_two : rNum 2 (0, [2, 1, 1, 0, 97]) = (258, (0, [1, 0, 97])) := by decide +kernel
theorem rtext_a : rMeas 2 4096 (0, [1, 0, 97]) = ([97], (0, [])) := by decide +kernel
theorem rnum_none : rNum 1 (0, []) = (0, (11, [])) := by decide +kernel
theorem Is.to_below {w w' : World} {P : Nat → Prop} {g B : Nat} {e : Int} {rest : List UInt8} (h : Is w P g e rest w') (hg : B ≤ g) (hB : B ≤ w.heap.size) : Below B w w' := by
  obtain ⟨A, c, _, h⟩ := h
  exact ⟨h.os, h.tape, h.output, h.size, fun k hk => h.block k (by omega) (fun e => by injection e with e; omega)⟩

set_option maxHeartbeats 1000000 in
set_option maxRecDepth 100000 in
theorem awake_any (w : World) : Calls Try.prog 11 #[] w fun en w' => en = .returned (.bool true) ∧ Below w.heap.size w w' := by
  go_enter Try.func11, Try.ntmps11
  go_wp2_with fail
  refine (wnew_any _).mono ?_
  rintro en w1 ⟨rfl, hw1, hb1, hz1⟩
  have hz1' : w.heap.size < w1.heap.size := by omega
  have C2 := wnum_any w1.heap.size w.heap.size (0, []) none 0 2 _ 1 1 [258] _ (hw1.alloc (.cells #[.int .i64 258] 3)) (by intro x hx; simp at hx; subst hx; unfold I64; omega)
    ((src_int w1 258).weak fun k hk => (by subst hk; exact ⟨by omega, by simp [row]⟩)) (by simp)
  rw [num_258] at C2
  have HC2 := Lib.hid C2
  have HB1 := Lib.hid hb1
  clear hw1 hb1 hz1 C2
  go_wp2_with fail
  refine HC2.out.mono ?_
  rintro en w2 ⟨rfl, A2, c2, hw2, hs2⟩
  have hl2 : w1.heap.size < w2.heap.size := by have := hs2.size; simp at this; omega
  have C3 := wtext_any w1.heap.size w.heap.size (0, [2, 1]) A2 c2 _ 1 1 [[97]] _ (hw2.alloc (.cells #[.string ⟨#[97]⟩] 9))
    ((src_str w2 [97]).weak fun k hk => (by subst hk; exact ⟨by omega, fun e => by have := (hw2.rowLt _ e).2; omega⟩)) (by simp [room])
  rw [text_a] at C3
  have HC3 := Lib.hid C3
  have HS2 := Lib.hid hs2
  have HR2 := Lib.hid hw2.rowLt
  clear hw2 hs2 C3
  go_wp2_with fail
  refine HC3.out.mono ?_
  rintro en w3 ⟨rfl, A3, c3, hw3, hs3⟩
  have hl3 : w2.heap.size < w3.heap.size := by have := hs3.size; simp at this; omega
  have HC4 := Lib.hid (bytes_ok _ _ _ _ _ w3 hw3 (by simp))
  have HS3 := Lib.hid hs3
  clear hw3 hs3
  go_wp2_with fail
  refine HC4.out.mono ?_
  rintro en w4 ⟨A4, c4, rfl, hown, hb4⟩
  have HC5 := Lib.hid (rnew_any _ A4 _ c4 _ w4 (Src.of_own hown) (by simp))
  have HB4 := Lib.hid hb4
  have HO := Lib.hid hown
  have hl4 : w3.heap.size ≤ w4.heap.size := hb4.size
  clear hown hb4
  go_wp2_with fail
  refine HC5.out.mono ?_
  rintro en w5 ⟨g, A5, c5, rfl, hr5, hb5, hg5⟩
  have hcv := conv_string ((Src.of_own HO.out).keep (w' := w5) fun k _ hk => hb5.block k hk)
  change Sem.run Try.prog (convert 27 9 (.slice A4 5 c4)) w5 = .ok (.string ⟨#[2, 1, 1, 0, 97]⟩) w5 at hcv
  have C6 := rnum_any _ g (0, [2, 1, 1, 0, 97]) A5 c5 2 w5 hr5
  rw [rnum_two] at C6
  have HC6 := Lib.hid C6
  have HB5 := Lib.hid hb5
  have hl5 : w4.heap.size ≤ w5.heap.size := hb5.size
  clear C6 hr5 hb5
  go_wp2_with fail
  refine HC6.out.mono ?_
  rintro en w6 ⟨rfl, his⟩
  have hl6 : w5.heap.size ≤ w6.heap.size := by obtain ⟨_, _, _, h⟩ := his; exact h.size
  have HB6 := Lib.hid (his.to_below (B := w.heap.size) (by omega) (by omega))
  obtain ⟨A6, c6, hr6, _⟩ := his
  have C7 := rtext_any _ g (0, [1, 0, 97]) A6 c6 w6 hr6
  rw [rtext_a] at C7
  have HC7 := Lib.hid C7
  clear C7 hr6 hcv
  go_wp2_with fail
  refine HC7.out.mono ?_
  rintro en w7 ⟨rfl, his⟩
  have hl7 : w6.heap.size ≤ w7.heap.size := by obtain ⟨_, _, _, h⟩ := his; exact h.size
  have HB7 := Lib.hid (his.to_below (B := w.heap.size) (by omega) (by omega))
  obtain ⟨A7, c7, hr7, _⟩ := his
  have C8 := rnum_any _ g (0, []) A7 c7 1 w7 hr7
  rw [rnum_none] at C8
  have HC8 := Lib.hid C8
  clear C8 hr7
  go_wp2_with fail
  refine HC8.out.mono ?_
  rintro en w8 ⟨rfl, his⟩
  have HB8 := Lib.hid (his.to_below (B := w.heap.size) (by omega) (by omega))
  obtain ⟨A8, c8, hr8, _⟩ := his
  have HC9 := Lib.hid (rfault_any _ g _ A8 c8 _ w8 hr8)
  clear hr8
  go_wp2_with fail
  refine HC9.out.mono ?_
  rintro en w9 ⟨rfl, rfl⟩
  go_wp2_with fail
  go_ret
  refine ⟨rfl, ?_⟩
  have b2 : Below w.heap.size w1 w2 := ((Below.refl _ _).alloc (by omega) _).trans (HS2.out.to_below (Nat.le_refl _) (by intro k hk; cases hk) (by simp; omega))
  have b3 : Below w.heap.size w2 w3 := ((Below.refl _ _).alloc (by omega) _).trans (HS3.out.to_below (Nat.le_refl _) (by intro k hk; have := (HR2.out k hk).1; omega) (by simp; omega))
  exact (((((((HB1.out.trans b2).trans b3).trans (HB4.out.mono (by omega))).trans (HB5.out.mono (by omega))).trans HB6.out).trans HB7.out).trans HB8.out)
end Go.Proofs.Ytkgkgagnpmhoiaa
