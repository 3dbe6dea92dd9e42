/-
  The law on what is found first, walked.
-/
import Derived.Test.YtlkhmpnahbbpeaaL
import Derived.Test.YtlkhmpnahbbpeaaMLoad
namespace Go.Proofs.Ytlkhmpnahbbpeaa
open Go.RowKit

theorem errT_is {b : Bool} : errT b = .int .i64 (if b then 0 else 80) := rfl
set_option maxRecDepth 100000 in
set_option maxHeartbeats 2000000 in
theorem first_any (A : Option Addr) (n c : Nat) (Af : Option Addr) (cf : Nat) (f : Nat → List Int) (L : List UInt64) (sh : Int) (r : Sym) (B : Option Addr) (m d : Nat) (ss : List Sym) (w : World)
    (ht : TabV w (fun k => k < w.heap.size) A n c Af cf f L) (h : Syl w (fun k => k < w.heap.size) B m d ss) (hn : n ≤ 140737488355328) (hL : L.length ≤ 140737488355328) (hm : m ≤ 140737488355328) (hf : ∀ k, k < n → (f k).length ≤ 140737488355328) (hs : Named ss) (hr : r.name.length ≤ 140737488351232) :
    Calls Try.prog 7 #[.agg (tabA A n c Af L.length cf sh), symV r, .slice B m d] w fun e w' => e = .returned (.bool true) ∧ Below w.heap.size w w' := by
  obtain rfl := h.len
  have HA := Lib.hid awake_any
  have hb1 : Below w.heap.size w ((w.alloc (.cells (tabA A n c Af L.length cf sh) 29)).alloc (.cells (symA r) 43)) := ((Below.refl _ _).alloc (Nat.le_refl _) _).alloc (by simp) _
  have hx1 : Tx ((w.alloc (.cells (tabA A n c Af L.length cf sh) 29)).alloc (.cells (symA r) 43)) w.heap.size (tabA A n c Af L.length cf sh) := (Below.heap_alloc _ _ _ (by simp)).trans (heap_alloc_new _ _)
  have hy1 : Sx ((w.alloc (.cells (tabA A n c Af L.length cf sh) 29)).alloc (.cells (symA r) 43)) (w.heap.size + 1) r := by
    have := Sx.new (w.alloc (.cells (tabA A n c Af L.length cf sh) 29)) r
    simpa using this
  have HRT := Lib.hid (fun (X : World) (hX : Below w.heap.size w X) => tright_any A n c Af cf f L sh B d ss X (ht.lt hX) (h.lt hX) hs (by omega) (by omega) (by omega) (fun k hk => by have := hf k hk; omega))
  have HFD := Lib.hid (fun (X : World) (hX : Below w.heap.size w X) => tfind_any A n c Af cf f L sh r B d ss X (ht.lt hX) (h.lt hX) hn hL hm (by omega) hf)
  have HQF := Lib.hid (fun (X : World) (hX : Below w.heap.size w X) => qfirst_any r B ss.length d ss X (h.lt hX) (by omega))
  have HFF := Lib.hid (fun (hq : rightT n f L sh ss = true) => find_first (r := r) hq)
  clear h ht hf
  go_enter Try.func7, Try.ntmps7
  go_upto_region 1 with (fail)
  change Code.wp _ _ _ _ ((w.alloc (.cells (tabA A n c Af L.length cf sh) 29)).alloc (.cells (symA r) 43))
  generalize (w.alloc (.cells (tabA A n c Af L.length cf sh) 29)).alloc (.cells (symA r) 43) = w1 at *
  have HB1 := Lib.hid hb1
  have HX1 := Lib.hid hx1
  have HY1 := Lib.hid hy1
  clear hb1 hx1 hy1
  generalize hft : findT n f L sh r ss = ft at *
  obtain ⟨fi, fe⟩ := ft
  clear hft
  generalize hrt : rightT n f L sh ss = rt at *
  clear hrt
  go_upto_region 2 with (go_at_call 11; refine (HA.out _).mono ?_; rintro e w2 ⟨rfl, hb2⟩; have HB2 := Lib.hid (HB1.out.trans (hb2.mono HB1.out.size)); have HX2 := Lib.hid (HX1.out.below hb2); have HY2 := Lib.hid (HY1.out.below hb2); clear hb2)
  clear HB1 HX1 HY1
  have t0 := cell_of_row w2 w.heap.size 0 _ _ _ HX2.out
  have t1 := cell_of_row w2 w.heap.size 1 _ _ _ HX2.out
  have t2 := cell_of_row w2 w.heap.size 2 _ _ _ HX2.out
  simp only [List.getElem?_toArray, List.getElem?_cons_succ, List.getElem?_cons_zero] at t0 t1 t2
  cases rt
  · go_upto_region 99 with (go_at_call 16; refine (HRT.out _ HB2.out).mono ?_; rintro e w3 ⟨rfl, hb3⟩; rw [show errT false = Value.int .i64 80 from rfl]; have HB3 := Lib.hid (HB2.out.trans (hb3.mono HB2.out.size)); clear hb3)
    first | go_ret | skip
    exact ⟨rfl, HB3.out⟩
  · obtain ⟨hi, he⟩ := HFF.out rfl
    change fi = _ at hi
    change 0 ≤ fi → 1 ≤ fe at he
    rw [← hi] at HQF
    clear hi HFF
    go_upto_region 4 with (go_at_call 16; refine (HRT.out _ HB2.out).mono ?_; rintro e w3 ⟨rfl, hb3⟩; rw [show errT true = Value.int .i64 0 from rfl]; have HB3 := Lib.hid (HB2.out.trans (hb3.mono HB2.out.size)); have HX3 := Lib.hid (HX2.out.below hb3); have HY3 := Lib.hid (HY2.out.below hb3); clear hb3)
    clear t0 t1 t2 HX2 HY2 HB2
    have t0 := cell_of_row w3 w.heap.size 0 _ _ _ HX3.out
    have t1 := cell_of_row w3 w.heap.size 1 _ _ _ HX3.out
    have t2 := cell_of_row w3 w.heap.size 2 _ _ _ HX3.out
    simp only [List.getElem?_toArray, List.getElem?_cons_succ, List.getElem?_cons_zero] at t0 t1 t2
    obtain ⟨y0, y1, y2, y3, y4, y5, y6, y7, y8⟩ := HY3.out.cells
    go_upto_region 5 with (go_at_call 19; refine (HFD.out _ HB3.out).mono ?_; rintro e w4 ⟨rfl, hb4⟩; have HB4 := Lib.hid (HB3.out.trans (hb4.mono HB3.out.size)); have HY4 := Lib.hid (HY3.out.below hb4); clear hb4)
    clear t0 t1 t2 y0 y1 y2 y3 y4 y5 y6 y7 y8 HX3 HY3 HB3
    obtain ⟨y0, y1, y2, y3, y4, y5, y6, y7, y8⟩ := HY4.out.cells
    have d1 : (0 : Int) ≤ (fe : Int) := by omega
    by_cases hfi : fi < 0
    · clear he
      go_upto_region 99 with (go_at_call 23; refine (HQF.out _ HB4.out).mono ?_; rintro e w5 ⟨rfl, hb5⟩; have HB5 := Lib.hid (HB4.out.trans (hb5.mono HB4.out.size)); clear hb5)
      first | go_ret | skip
      exact ⟨rfl, HB5.out⟩
    · have d2 : (1 : Int) ≤ (fe : Int) := by have := he (by omega); omega
      clear he
      go_upto_region 99 with (go_at_call 23; refine (HQF.out _ HB4.out).mono ?_; rintro e w5 ⟨rfl, hb5⟩; have HB5 := Lib.hid (HB4.out.trans (hb5.mono HB4.out.size)); clear hb5)
      first | go_ret | skip
      exact ⟨rfl, HB5.out⟩
end Go.Proofs.Ytlkhmpnahbbpeaa
