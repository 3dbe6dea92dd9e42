/-
  The law on which tables are right, walked.
-/
import Derived.Test.YtlkhmpnahbbpeaaU
import Derived.Test.YtlkhmpnahbbpeaaR
namespace Go.Proofs.Ytlkhmpnahbbpeaa
open Go.RowKit

set_option maxRecDepth 100000 in
set_option maxHeartbeats 2000000 in
theorem rights_any (A : Option Addr) (n c : Nat) (Af : Option Addr) (cf : Nat) (f : Nat → List Int) (L : List UInt64) (sh : Int) (B : Option Addr) (m d : Nat) (ss : List Sym) (w : World)
    (ht : TabV w (fun k => k < w.heap.size) A n c Af cf f L) (h : Syl w (fun k => k < w.heap.size) B m d ss) (hn : n * 24 ≤ 140737488351232) (hL : L.length * 8 ≤ 140737488351232) (hm : m ≤ 140737488355328) (hf : ∀ k, k < n → (f k).length * 8 ≤ 140737488351232) (hs : Named ss) :
    Calls Try.prog 4 #[.agg (tabA A n c Af L.length cf sh), .slice B m d] w fun e w' => e = .returned (.bool true) ∧ Below w.heap.size w w' := by
  obtain rfl := h.len
  have HA := Lib.hid awake_any
  obtain ⟨hb1, hx1⟩ := tab_box w (tabA A n c Af L.length cf sh)
  have hf' : ∀ k, k < n → (f k).length ≤ 140737488355328 := fun k hk => by have := hf k hk; omega
  have HCO := Lib.hid (fun (X : World) (hX : Below w.heap.size w X) => copied_any A n c Af cf f L sh X (ht.lt hX) hn hL hf)
  have HRT := Lib.hid (fun (X : World) A' c' Af' cf' (hX : Below w.heap.size w X) (h1 : TabV X (fun k => k < X.heap.size) A' n c' Af' cf' f L) => tright_any A' n c' Af' cf' f L sh B d ss X h1 (h.lt hX) hs (by omega) (by omega) (by omega) (fun k hk => by have := hf k hk; omega))
  have HQR := Lib.hid (fun (X : World) (hX : Below w.heap.size w X) => qright_any A n c Af cf f L sh B d ss X (ht.lt hX) (h.lt hX) hs (by omega) (by omega) hm hf')
  have HSY := Lib.hid (fun (X : World) A' c' Af' cf' (hX : Below w.heap.size w X) (h1 : TabV X (fun k => k < X.heap.size) A' n c' Af' cf' f L) => same_yes A' n c' Af' cf' A c Af cf f L sh X h1 (ht.lt hX) (by omega) (by omega) hf')
  clear h ht hf hf'
  generalize rightT n f L sh ss = rt at *
  go_enter Try.func4, Try.ntmps4
  go_upto_region 1 with (fail)
  change Code.wp _ _ _ _ (w.alloc (.cells (tabA A n c Af L.length cf sh) 29))
  generalize w.alloc (.cells (tabA A n c Af L.length cf sh) 29) = w1 at *
  have HB1 := Lib.hid hb1
  have HX1 := Lib.hid hx1
  clear hb1 hx1
  go_upto_region 2 with (go_at_call 11; refine (HA.out _).mono ?_; rintro e w2 ⟨rfl, hb2⟩; have HB2 := Lib.hid (HB1.out.trans (hb2.mono HB1.out.size)); have HX2 := Lib.hid (HX1.out.below hb2); clear hb2)
  clear HB1 HX1
  have t0 := cell_of_row w2 w.heap.size 0 _ _ _ HX2.out
  have t1 := cell_of_row w2 w.heap.size 1 _ _ _ HX2.out
  have t2 := cell_of_row w2 w.heap.size 2 _ _ _ HX2.out
  simp only [List.getElem?_toArray, List.getElem?_cons_succ, List.getElem?_cons_zero] at t0 t1 t2
  go_upto_region 3 with (go_at_call 17; refine (HCO.out _ HB2.out).mono ?_; rintro e w3 ⟨A', c', Af', cf', rfl, ht3, hb3⟩)
  have hbx := tab_box w3 (tabA A' n c' Af' L.length cf' sh)
  have HB4 := Lib.hid ((HB2.out.trans (hb3.mono HB2.out.size)).trans (hbx.1.mono (HB2.out.trans (hb3.mono HB2.out.size)).size))
  have HX4 := Lib.hid ((HX2.out.below hb3).below hbx.1)
  have HZ4 := Lib.hid hbx.2
  have HT4 := Lib.hid (ht3.lt hbx.1)
  clear t0 t1 t2 HX2 HB2 hbx ht3 hb3
  change Code.wp _ _ _ _ (w3.alloc (.cells (tabA A' n c' Af' L.length cf' sh) 29))
  generalize w3.alloc (.cells (tabA A' n c' Af' L.length cf' sh) 29) = w4 at *
  generalize w3.heap.size = ob at *
  have t0 := cell_of_row w4 ob 0 _ _ _ HZ4.out
  have t1 := cell_of_row w4 ob 1 _ _ _ HZ4.out
  have t2 := cell_of_row w4 ob 2 _ _ _ HZ4.out
  simp only [List.getElem?_toArray, List.getElem?_cons_succ, List.getElem?_cons_zero] at t0 t1 t2
  cases rt
  all_goals
    go_upto_region 4 with (go_at_call 16; refine (HRT.out _ A' c' Af' cf' HB4.out HT4.out).mono ?_; rintro e w5 ⟨rfl, hb5⟩; (first | rw [show errT false = Value.int .i64 80 from rfl] | rw [show errT true = Value.int .i64 0 from rfl]); have HB5 := Lib.hid (HB4.out.trans (hb5.mono HB4.out.size)); have HX5 := Lib.hid (HX4.out.below hb5); have HZ5 := Lib.hid (HZ4.out.below hb5); have HT5 := Lib.hid (HT4.out.lt hb5); clear hb5)
    clear t0 t1 t2 HX4 HZ4 HT4 HB4
    have t0 := cell_of_row w5 w.heap.size 0 _ _ _ HX5.out
    have t1 := cell_of_row w5 w.heap.size 1 _ _ _ HX5.out
    have t2 := cell_of_row w5 w.heap.size 2 _ _ _ HX5.out
    simp only [List.getElem?_toArray, List.getElem?_cons_succ, List.getElem?_cons_zero] at t0 t1 t2
    go_upto_region 99 with (first
      | (go_at_call 18; refine (HQR.out _ HB5.out).mono ?_; rintro e w6 ⟨rfl, hb6⟩; have HB6 := Lib.hid (HB5.out.trans (hb6.mono HB5.out.size)); have HX6 := Lib.hid (HX5.out.below hb6); have HZ6 := Lib.hid (HZ5.out.below hb6); have HT6 := Lib.hid (HT5.out.lt hb6); clear hb6; have s0 := cell_of_row w6 w.heap.size 0 _ _ _ HX6.out; have s1 := cell_of_row w6 w.heap.size 1 _ _ _ HX6.out; have s2 := cell_of_row w6 w.heap.size 2 _ _ _ HX6.out; have z0 := cell_of_row w6 ob 0 _ _ _ HZ6.out; have z1 := cell_of_row w6 ob 1 _ _ _ HZ6.out; have z2 := cell_of_row w6 ob 2 _ _ _ HZ6.out; simp only [List.getElem?_toArray, List.getElem?_cons_succ, List.getElem?_cons_zero] at s0 s1 s2 z0 z1 z2)
      | (go_at_call 15; refine (HSY.out _ A' c' Af' cf' HB6.out HT6.out).mono ?_; rintro e w7 ⟨rfl, hb7⟩; have HB7 := Lib.hid (HB6.out.trans (hb7.mono HB6.out.size)); clear hb7))
    first | go_ret | skip
    exact ⟨rfl, HB7.out⟩
end Go.Proofs.Ytlkhmpnahbbpeaa
