/-
  The document's examples.
-/
import Derived.Test.YtlkhmpnahbbpeaaI
namespace Go.Proofs.Ytlkhmpnahbbpeaa
open Go.RowKit

def defS (l : Str) : Sym := ⟨l, [], false, 1, false, 0, true, 0, 0⟩
theorem def_any (l : Str) (w : World) : Calls Try.prog 28 #[str l] w fun e w' => e = .returned (symV (defS l)) ∧ Below w.heap.size w w' := by
  have HB := Lib.hid (box_below w (defS l))
  have q := (Sx.new w (defS l)).cells
  obtain ⟨q0, q1, q2, q3, q4, q5, q6, q7, q8⟩ := q
  simp only [defS] at q0 q1 q2 q3 q4 q5 q6 q7 q8
  go_enter Try.func28, Try.ntmps28
  go_wp2
  refine bodyPost_ret (v := symV (defS l)) ?_ rfl ⟨rfl, HB.out⟩
  simp [results, Try.results28, go_sem, q0, q1, q2, q3, q4, q5, q6, q7, q8, defS]
def exS : List Sym := [defS [102], defS [103]]
def exR : Sym := ⟨[103], [], false, 0, false, 0, false, 0, 0⟩
def exL : List UInt64 := filS exS
def exT : Nat → List Int := fillS exS 1 2
theorem ex_cnt : cntS exS = 1 := by decide +kernel
theorem ex_wl : wlS exS = 1 := by decide +kernel
theorem ex_len : exL.length = 1 := by unfold exL; rw [fil_len, ex_wl]
theorem ex_find : findT 1 exT exL 6 exR exS = (1, 2) := by decide +kernel
theorem ex_right : rightT 1 exT exL 6 exS = true := by decide +kernel
theorem ex_count : cntT 5 = 2 := by decide
abbrev exA : Array Value := #[str [102], str [], .bool false, .int .i64 1, .bool false, .int .i64 0, .bool true, .int .i64 0, .int .i64 0, str [103], str [], .bool false, .int .i64 1, .bool false, .int .i64 0, .bool true, .int .i64 0, .int .i64 0]
theorem ex_syl {w : World} {b : Nat} (h : Bx w b exA 43) : Syl w (fun k => k < w.heap.size) (some ⟨b, 0, none⟩) 2 2 exS := by
  refine ⟨rfl, (by intro h; cases h), Nat.le_refl _, (fun ad e _ => by cases e; exact h.lt), ?_⟩
  intro ad e k hk j u hu
  cases e
  rw [plainAdd, Nat.zero_add, h.c]
  have hk2 : k < 2 := hk
  have hj : j < 9 := by
    have := (Array.getElem?_eq_some_iff.1 hu).1
    simpa using this
  rcases (by omega : k = 0 ∨ k = 1) with rfl | rfl
  · rw [← hu]
    rcases (by omega : j = 0 ∨ j = 1 ∨ j = 2 ∨ j = 3 ∨ j = 4 ∨ j = 5 ∨ j = 6 ∨ j = 7 ∨ j = 8) with rfl | rfl | rfl | rfl | rfl | rfl | rfl | rfl | rfl <;> rfl
  · rw [← hu]
    rcases (by omega : j = 0 ∨ j = 1 ∨ j = 2 ∨ j = 3 ∨ j = 4 ∨ j = 5 ∨ j = 6 ∨ j = 7 ∨ j = 8) with rfl | rfl | rfl | rfl | rfl | rfl | rfl | rfl | rfl <;> rfl
theorem ex_named : Named exS := by
  intro s hs
  simp only [exS, List.mem_cons, List.not_mem_nil, or_false] at hs
  rcases hs with rfl | rfl <;> simp [defS]
theorem ex_make (A : Option Addr) (c : Nat) (w : World) (h : Syl w (fun k => k < w.heap.size) A 2 c exS) :
    Calls Try.prog 12 #[.slice A 2 c] w fun e w' => ∃ g Af cf, e = .returned (.tuple #[.agg (tabA (some ⟨g, 0, none⟩) 1 1 Af 1 cf 6), .int .i64 0]) ∧ TabV w' (fun k => k < w'.heap.size) (some ⟨g, 0, none⟩) 1 1 Af cf exT exL ∧ Below w.heap.size w w' := by
  have H := tmake_any A c exS w h (by decide) ex_named
  refine H.mono ?_
  rintro e w' ⟨g, s, Af, cf, he, ht⟩
  have hv := ht.tabv
  rw [ex_cnt, ex_wl] at he
  rw [ex_cnt] at hv
  exact ⟨g, Af, cf, he, hv, ht.2.2⟩
theorem exT_le (k : Nat) : (exT k).length ≤ 2 := fill_len exS 1 2 k
theorem ex_find_any (g : Nat) (Af : Option Addr) (cf : Nat) (B : Option Addr) (d : Nat) (w : World) (ht : TabV w (fun k => k < w.heap.size) (some ⟨g, 0, none⟩) 1 1 Af cf exT exL) (h : Syl w (fun k => k < w.heap.size) B 2 d exS) :
    Calls Try.prog 19 #[.agg (tabA (some ⟨g, 0, none⟩) 1 1 Af 1 cf 6), symV exR, .slice B 2 d] w fun e w' => e = .returned (.tuple #[.int .i64 1, .int .i64 2]) ∧ Below w.heap.size w w' := by
  have H := tfind_any (some ⟨g, 0, none⟩) 1 1 Af cf exT exL 6 exR B d exS w ht h (by decide) (by rw [ex_len]; decide) (by decide) (by decide) (fun k _ => Nat.le_trans (exT_le k) (by decide))
  rw [ex_find, ex_len] at H
  exact H
theorem ex_right_any (g : Nat) (Af : Option Addr) (cf : Nat) (B : Option Addr) (d : Nat) (w : World) (ht : TabV w (fun k => k < w.heap.size) (some ⟨g, 0, none⟩) 1 1 Af cf exT exL) (h : Syl w (fun k => k < w.heap.size) B 2 d exS) :
    Calls Try.prog 16 #[.agg (tabA (some ⟨g, 0, none⟩) 1 1 Af 1 cf 6), .slice B 2 d] w fun e w' => e = .returned (.int .i64 0) ∧ Below w.heap.size w w' := by
  have H := tright_any (some ⟨g, 0, none⟩) 1 1 Af cf exT exL 6 B d exS w ht h ex_named (by decide) (by rw [ex_len]; decide) (by decide) (fun k _ => Nat.le_trans (exT_le k) (by decide))
  rw [ex_right, ex_len] at H
  exact H
set_option maxRecDepth 100000 in
set_option maxHeartbeats 4000000 in
theorem awake_any (w : World) : Calls Try.prog 11 #[] w fun e w' => e = .returned (.bool true) ∧ Below w.heap.size w w' := by
  have H1 := Lib.hid (fun X => def_any [102] X)
  have H2 := Lib.hid (fun X => def_any [103] X)
  simp only [defS] at H1 H2
  have HC := Lib.hid (fun X => tcount_any 5 (by unfold I64; omega) X)
  rw [ex_count] at HC
  go_enter Try.func11, Try.ntmps11
  go_wp2_with fail
  refine (H1.out _).mono ?_
  rintro e w1 ⟨rfl, hb⟩
  have HB1 := Lib.hid hb
  clear hb
  go_wp2_with fail
  refine (H2.out _).mono ?_
  rintro e w2 ⟨rfl, hb⟩
  have HB2 := Lib.hid (HB1.out.trans (hb.mono HB1.out.size))
  clear hb HB1
  have hbx := Bx.new w2 exA 43
  have HS3 := Lib.hid (ex_syl hbx)
  have HB3 := Lib.hid (HB2.out.alloc HB2.out.size (.cells exA 43))
  clear hbx
  go_upto_region 2 with (fail)
  change Code.wp _ _ _ _ (w2.alloc (.cells exA 43))
  generalize w2.alloc (.cells exA 43) = w3 at *
  generalize w2.heap.size = b at *
  go_wp2_with fail
  refine (ex_make _ _ _ HS3.out).mono ?_
  rintro e w4 ⟨g, Af, cf, rfl, ht, hb4⟩
  have hb5 : Below w4.heap.size w4 (w4.alloc (.cells (tabA (some ⟨g, 0, none⟩) 1 1 Af 1 cf 6) 29)) := (Below.refl _ _).alloc (Nat.le_refl _) _
  have HT5 := Lib.hid (ht.lt hb5)
  have hx5 : Tx (w4.alloc (.cells (tabA (some ⟨g, 0, none⟩) 1 1 Af 1 cf 6) 29)) w4.heap.size (tabA (some ⟨g, 0, none⟩) 1 1 Af 1 cf 6) := heap_alloc_new _ _
  have HS5 := Lib.hid ((HS3.out.lt hb4).lt hb5)
  have HB5 := Lib.hid (HB3.out.trans ((hb4.trans (hb5.mono hb4.size)).mono HB3.out.size))
  clear HB3 HB2 HS3 hb4 hb5 ht
  go_upto_region 3 with (fail)
  change Code.wp _ _ _ _ (w4.alloc (.cells (tabA (some ⟨g, 0, none⟩) 1 1 Af 1 cf 6) 29))
  generalize w4.alloc (.cells (tabA (some ⟨g, 0, none⟩) 1 1 Af 1 cf 6) 29) = w5 at *
  generalize w4.heap.size = tb at *
  have t0 := cell_of_row w5 tb 0 _ _ _ hx5
  have t1 := cell_of_row w5 tb 1 _ _ _ hx5
  have t2 := cell_of_row w5 tb 2 _ _ _ hx5
  simp only [List.getElem?_toArray, List.getElem?_cons_succ, List.getElem?_cons_zero] at t0 t1 t2
  clear hx5
  go_wp2_with fail
  refine (ex_find_any _ _ _ _ _ _ HT5.out HS5.out).mono ?_
  rintro e w6 ⟨rfl, hb6⟩
  have p0 := cell_below hb6 t0
  have p1 := cell_below hb6 t1
  have p2 := cell_below hb6 t2
  have HT6 := Lib.hid (HT5.out.lt hb6)
  have HS6 := Lib.hid (HS5.out.lt hb6)
  have HB6 := Lib.hid (HB5.out.trans (hb6.mono HB5.out.size))
  clear t0 t1 t2 hb6 HT5 HS5 HB5
  go_wp2_with fail
  refine (ex_right_any _ _ _ _ _ _ HT6.out HS6.out).mono ?_
  rintro e w7 ⟨rfl, hb7⟩
  have HB7 := Lib.hid (HB6.out.trans (hb7.mono HB6.out.size))
  clear p0 p1 p2 hb7 HT6 HS6 HB6
  go_wp2_with fail
  refine (HC.out _).mono ?_
  rintro e w8 ⟨rfl, rfl⟩
  go_wp2_with fail
  first | go_ret | skip
  exact ⟨rfl, HB7.out⟩
end Go.Proofs.Ytlkhmpnahbbpeaa
