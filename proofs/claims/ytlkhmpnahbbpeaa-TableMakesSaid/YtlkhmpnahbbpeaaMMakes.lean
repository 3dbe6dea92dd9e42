/-
  The law on what is made, walked.
-/
import Derived.Test.YtlkhmpnahbbpeaaW
import Derived.Test.YtlkhmpnahbbpeaaV
import Derived.Test.YtlkhmpnahbbpeaaN
namespace Go.Proofs.Ytlkhmpnahbbpeaa
open Go.RowKit

theorem spoil_nil (w : World) : Calls Try.prog 13 #[.agg (tabA none 0 0 none 0 0 0)] w fun e w' => e = .returned (.tuple #[]) ∧ Below w.heap.size w w' := by
  obtain ⟨hb1, hx1⟩ := tab_box w (tabA none 0 0 none 0 0 0)
  have HB := Lib.hid hb1
  have t0 := cell_of_row _ w.heap.size 0 _ _ _ hx1
  have t1 := cell_of_row _ w.heap.size 1 _ _ _ hx1
  simp only [List.getElem?_toArray, List.getElem?_cons_succ, List.getElem?_cons_zero] at t0 t1
  clear hx1 hb1
  go_enter Try.func13, Try.ntmps13
  go_upto_region 2 with (fail)
  change Code.wp _ _ _ _ (w.alloc (.cells (tabA none 0 0 none 0 0 0) 29))
  generalize w.alloc (.cells (tabA none 0 0 none 0 0 0) 29) = w1 at *
  go_loopw [2] (fun t wr => t = .int .i64 0 ∧ wr = w1) (fun _ _ => 0)
  case atStart => exact ⟨rfl, rfl⟩
  case round =>
    obtain ⟨rfl, rfl⟩ := hrel
    go_upto_region 9 with (fail)
    go_loopw [4] (fun t wq => t = .int .i64 0 ∧ wq = wr) (fun _ _ => 0)
    case atStart => exact ⟨rfl, rfl⟩
    case round =>
      obtain ⟨rfl, rfl⟩ := hrel
      go_wp2_with fail
      go_end0
      exact ⟨rfl, HB.out⟩
theorem TabM.tabv2 {w0 w' : World} {ss : List Sym} {g : Nat} {s : Nat → Option Addr × Nat} {Af : Option Addr} {cf : Nat} (h : TabM w0 w' ss g s Af cf) : TabV w' (fun k => w0.heap.size ≤ k ∧ k < w'.heap.size) (some ⟨g, 0, none⟩) (cntS ss) (cntS ss) Af cf (fillS ss (cntS ss) ss.length) (filS ss) := by
  obtain ⟨h1, h2, h3⟩ := h
  refine ⟨h1.rws, ?_⟩
  have := (Src.of_own h2).weak (Q := fun k => w0.heap.size ≤ k ∧ k < w'.heap.size) fun q hq => hq.2
  rw [fil_len]
  exact this
theorem Bsd.below {B M : Nat} {w w5 w6 : World} (h : Bsd B M w5 w6) (hb : Below w.heap.size w w5) (hB : w.heap.size ≤ B) : Below w.heap.size w w6 :=
  ⟨h.os.trans hb.os, h.tape.trans hb.tape, h.output.trans hb.output, Nat.le_trans hb.size h.size, fun q hq => (h.block q (Nat.lt_of_lt_of_le hq hb.size) (.inl (by omega))).trans (hb.block q hq)⟩
set_option maxRecDepth 100000 in
set_option maxHeartbeats 4000000 in
theorem makes_any (A : Option Addr) (n c : Nat) (ss : List Sym) (w : World) (h : Syl w (fun k => k < w.heap.size) A n c ss) (hn : n ≤ 1000000000000000000) (hs : Named ss) : Calls Try.prog 3 #[.slice A n c] w fun e w' => e = .returned (.bool true) ∧ Below w.heap.size w w' := by
  obtain rfl := h.len
  have H := Lib.hid h
  have HA := Lib.hid (awake_any w)
  by_cases h5 : 512 < ss.length
  · have HM := Lib.hid (fun X => tmake_no A ss.length c X h5 (by omega))
    have HQ := Lib.hid (fun X => qmake_no A ss.length c X h5 (by omega))
    have HSY := Lib.hid (fun X => same_yes none 0 0 none 0 none 0 none 0 (fun _ => []) [] 0 X ⟨⟨fun _ => ⟨rfl, rfl⟩, Nat.le_refl _, (by intro ad h; cases h), (by intro ad h; cases h)⟩, ⟨rfl, fun _ => ⟨rfl, rfl⟩, Nat.le_refl _, (by intro ad h; cases h), (by intro ad h; cases h)⟩⟩ ⟨⟨fun _ => ⟨rfl, rfl⟩, Nat.le_refl _, (by intro ad h; cases h), (by intro ad h; cases h)⟩, ⟨rfl, fun _ => ⟨rfl, rfl⟩, Nat.le_refl _, (by intro ad h; cases h), (by intro ad h; cases h)⟩⟩ (by decide) (by decide) (by intro k hk; omega))
    have HSP := Lib.hid spoil_nil
    clear h5 h
    go_enter Try.func3, Try.ntmps3
    go_upto_region 2 with (go_at_call 11; refine (HA.out).mono ?_; rintro e w1 ⟨rfl, hb1⟩; have HB1 := Lib.hid hb1; clear hb1)
    go_upto_region 3 with (go_at_call 12; refine (HM.out _).mono ?_; rintro e w2 ⟨rfl, hb2⟩; have HB2 := Lib.hid (HB1.out.trans (hb2.mono HB1.out.size)); clear hb2)
    have hbx := tab_box w2 (tabA none 0 0 none 0 0 0)
    have HB3 := Lib.hid (HB2.out.trans (hbx.1.mono HB2.out.size))
    have HX3 := Lib.hid hbx.2
    clear hbx
    change Code.wp _ _ _ _ (w2.alloc (.cells (tabA none 0 0 none 0 0 0) 29))
    generalize w2.alloc (.cells (tabA none 0 0 none 0 0 0) 29) = w3 at *
    generalize w2.heap.size = b4 at *
    go_upto_region 4 with (go_at_call 12; refine (HM.out _).mono ?_; rintro e w4 ⟨rfl, hb4⟩; have HB4 := Lib.hid (HB3.out.trans (hb4.mono HB3.out.size)); have HX4 := Lib.hid (HX3.out.below hb4); clear hb4)
    have hbx := tab_box w4 (tabA none 0 0 none 0 0 0)
    have HB5 := Lib.hid (HB4.out.trans (hbx.1.mono HB4.out.size))
    have HX5 := Lib.hid (HX4.out.below hbx.1)
    have HY5 := Lib.hid hbx.2
    clear hbx
    change Code.wp _ _ _ _ (w4.alloc (.cells (tabA none 0 0 none 0 0 0) 29))
    generalize w4.alloc (.cells (tabA none 0 0 none 0 0 0) 29) = w5 at *
    generalize w4.heap.size = b6 at *
    have t0 := cell_of_row w5 b4 0 _ _ _ HX5.out
    have t1 := cell_of_row w5 b4 1 _ _ _ HX5.out
    have t2 := cell_of_row w5 b4 2 _ _ _ HX5.out
    simp only [List.getElem?_toArray, List.getElem?_cons_succ, List.getElem?_cons_zero] at t0 t1 t2
    go_upto_region 5 with (go_at_call 13; refine (HSP.out _).mono ?_; rintro e w6 ⟨rfl, hb6⟩; have HB6 := Lib.hid (HB5.out.trans (hb6.mono HB5.out.size)); have HY6 := Lib.hid (HY5.out.below hb6); clear hb6)
    clear t0 t1 t2
    go_upto_region 6 with (go_at_call 14; refine (HQ.out _).mono ?_; rintro e w7 ⟨rfl, hb7⟩; have HB7 := Lib.hid (HB6.out.trans (hb7.mono HB6.out.size)); have HY7 := Lib.hid (HY6.out.below hb7); clear hb7)
    have hbx := tab_box w7 (tabA none 0 0 none 0 0 0)
    have HB8 := Lib.hid (HB7.out.trans (hbx.1.mono HB7.out.size))
    have HY8 := Lib.hid (HY7.out.below hbx.1)
    have HZ8 := Lib.hid hbx.2
    clear hbx
    change Code.wp _ _ _ _ (w7.alloc (.cells (tabA none 0 0 none 0 0 0) 29))
    generalize w7.alloc (.cells (tabA none 0 0 none 0 0 0) 29) = w8 at *
    generalize w7.heap.size = b8 at *
    have t0 := cell_of_row w8 b6 0 _ _ _ HY8.out
    have t1 := cell_of_row w8 b6 1 _ _ _ HY8.out
    have t2 := cell_of_row w8 b6 2 _ _ _ HY8.out
    have u0 := cell_of_row w8 b8 0 _ _ _ HZ8.out
    have u1 := cell_of_row w8 b8 1 _ _ _ HZ8.out
    have u2 := cell_of_row w8 b8 2 _ _ _ HZ8.out
    simp only [List.getElem?_toArray, List.getElem?_cons_succ, List.getElem?_cons_zero] at t0 t1 t2 u0 u1 u2
    go_upto_region 99 with (go_at_call 15; refine (HSY.out _).mono ?_; rintro e w9 ⟨rfl, hb9⟩; have HB9 := Lib.hid (HB8.out.trans (hb9.mono HB8.out.size)); clear hb9)
    first | go_ret | skip
    exact ⟨rfl, HB9.out⟩
  · have hss : ss.length ≤ 512 := by omega
    have HM := Lib.hid (fun (X : World) (hX : Below w.heap.size w X) => tmake_any A c ss X (H.out.lt hX) hss hs)
    have HQ := Lib.hid (fun (X : World) (hX : Below w.heap.size w X) => qmake_any A c ss X (H.out.lt hX) hss hs)
    have hct := cntS_le hss
    have hwl : (filS ss).length = wlS ss := fil_len ss
    have hw64 : wlS ss ≤ 64 := by
      unfold wlS wcN
      repeat' split
      all_goals omega
    have hfl : ∀ k, (fillS ss (cntS ss) ss.length k).length ≤ 512 := fun k => Nat.le_trans (fill_len ss (cntS ss) ss.length k) hss
    have HSY := Lib.hid (fun (X : World) g Af cf B d Bf df h1 h2 => same_yes (some ⟨g, 0, none⟩) (cntS ss) (cntS ss) Af cf B d Bf df (fillS ss (cntS ss) ss.length) (filS ss) 6 X h1 h2 (by omega) (by omega) (fun k _ => by have := hfl k; omega))
    rw [hwl] at HSY
    have HRT := Lib.hid (fun (X : World) g Af cf h1 (hX : Below w.heap.size w X) => tright_any (some ⟨g, 0, none⟩) (cntS ss) (cntS ss) Af cf (fillS ss (cntS ss) ss.length) (filS ss) 6 A c ss X h1 (H.out.lt hX) hs (by omega) (by omega) (by omega) (fun k _ => by have := hfl k; omega))
    rw [hwl, made_right hss] at HRT
    have HFL := Lib.hid hfl
    clear h5 h hfl hwl
    go_enter Try.func3, Try.ntmps3
    go_upto_region 2 with (go_at_call 11; refine (HA.out).mono ?_; rintro e w1 ⟨rfl, hb1⟩; have HB1 := Lib.hid hb1; clear hb1)
    go_upto_region 3 with (go_at_call 12; refine (HM.out _ HB1.out).mono ?_; rintro e w2 ⟨g, s, Af, cf, rfl, ht2⟩)
    have hb2 := HB1.out.trans (ht2.2.2.mono HB1.out.size)
    have hbx := tab_box w2 (tabA (some ⟨g, 0, none⟩) (cntS ss) (cntS ss) Af (wlS ss) cf 6)
    have HK3 := Lib.hid (ht2.1.below hbx.1)
    have HO3 := Lib.hid (Siv.own_below ht2.2.1 hbx.1)
    have hog := (ht2.1.out.lt g rfl).2
    have hom : ∀ i, i < cntS ss → ∀ q, (sl (s i) (fillS ss (cntS ss) ss.length i)).ownBlock = some q → q < w2.heap.size := fun i hi q hq => ((ht2.1.own i hi).lt q hq).2
    have how : ∀ q, (Value.slice Af (wlS ss) cf).ownBlock = some q → q < w2.heap.size := fun q hq => (ht2.2.1.lt q hq).2
    have HOM := Lib.hid hom
    have HOW := Lib.hid how
    have HB3 := Lib.hid (hb2.trans (hbx.1.mono hb2.size))
    have HX3 := Lib.hid hbx.2
    have hz3 : w2.heap.size ≤ (w2.alloc (.cells (tabA (some ⟨g, 0, none⟩) (cntS ss) (cntS ss) Af (wlS ss) cf 6) 29)).heap.size := hbx.1.size
    have hz1 := HB1.out.size
    have hz12 := ht2.2.2.size
    clear hbx ht2 hb2 hom how
    change Code.wp _ _ _ _ (w2.alloc (.cells (tabA (some ⟨g, 0, none⟩) (cntS ss) (cntS ss) Af (wlS ss) cf 6) 29))
    generalize w2.alloc (.cells (tabA (some ⟨g, 0, none⟩) (cntS ss) (cntS ss) Af (wlS ss) cf 6) 29) = w3 at *
    generalize w2.heap.size = b4 at *
    generalize w1.heap.size = b1 at *
    go_upto_region 4 with (go_at_call 12; refine (HM.out _ HB3.out).mono ?_; rintro e w4 ⟨g', s', Af', cf', rfl, ht4⟩)
    have hb4 := HB3.out.trans (ht4.2.2.mono HB3.out.size)
    have hbx := tab_box w4 (tabA (some ⟨g', 0, none⟩) (cntS ss) (cntS ss) Af' (wlS ss) cf' 6)
    have HK5 := Lib.hid ((HK3.out.below ht4.2.2).below hbx.1)
    have HO5 := Lib.hid (Siv.own_below (Siv.own_below HO3.out ht4.2.2) hbx.1)
    have HT5 := Lib.hid (ht4.tabv2.keep (w' := w4.alloc (.cells (tabA (some ⟨g', 0, none⟩) (cntS ss) (cntS ss) Af' (wlS ss) cf' 6) 29)) fun q hq hlt => hbx.1.block q hlt)
    have HB5 := Lib.hid (hb4.trans (hbx.1.mono hb4.size))
    have HX5 := Lib.hid ((HX3.out.below ht4.2.2).below hbx.1)
    have HY5 := Lib.hid hbx.2
    have hz4 := ht4.2.2.size
    have hz5 : w4.heap.size < (w4.alloc (.cells (tabA (some ⟨g', 0, none⟩) (cntS ss) (cntS ss) Af' (wlS ss) cf' 6) 29)).heap.size := by simp
    clear hbx ht4 hb4 HK3 HO3 HX3 HB3
    change Code.wp _ _ _ _ (w4.alloc (.cells (tabA (some ⟨g', 0, none⟩) (cntS ss) (cntS ss) Af' (wlS ss) cf' 6) 29))
    generalize w4.alloc (.cells (tabA (some ⟨g', 0, none⟩) (cntS ss) (cntS ss) Af' (wlS ss) cf' 6) 29) = w5 at *
    generalize w4.heap.size = b6 at *
    generalize w3.heap.size = b3 at *
    have HSP := Lib.hid (tspoil_any b1 b4 g (cntS ss) (fillS ss (cntS ss) ss.length) s Af (wlS ss) cf 6 _ w5 ⟨HK5.out, hog, HOM.out⟩ HO5.out HOW.out (by omega) (by omega) hw64 HFL.out)
    have t0 := cell_of_row w5 b4 0 _ _ _ HX5.out
    have t1 := cell_of_row w5 b4 1 _ _ _ HX5.out
    have t2 := cell_of_row w5 b4 2 _ _ _ HX5.out
    simp only [List.getElem?_toArray, List.getElem?_cons_succ, List.getElem?_cons_zero] at t0 t1 t2
    clear HK5 HO5 HOM HOW HM
    generalize hcn : cntS ss = cn at *
    generalize hwn : wlS ss = wl at *
    go_upto_region 5 with (go_at_call 13; refine (HSP.out).mono ?_; rintro e w6 ⟨rfl, hb6⟩)
    have HB6 := Lib.hid (hb6.below HB5.out (by omega : w.heap.size ≤ b1))
    have HY6 := Lib.hid (show Tx w6 b6 (tabA (some ⟨g', 0, none⟩) cn cn Af' wl cf' 6) from (hb6.block b6 (by omega) (.inr (by omega))).trans HY5.out)
    have HT6 := Lib.hid ((HT5.out.keep (w' := w6) fun q hq hlt => hb6.block q hlt (.inr (by omega))).weak (Q := fun k => k < w6.heap.size) fun q hq => by have := hb6.size; omega)
    clear t0 t1 t2 hb6 HX5 HY5 HT5 HB5 HSP
    go_upto_region 6 with (go_at_call 14; refine (HQ.out _ HB6.out).mono ?_; rintro e w7 ⟨A7, c7, Af7, cf7, rfl, ht7, hb7⟩)
    have hbx := tab_box w7 (tabA A7 cn c7 Af7 wl cf7 6)
    have hbw7 := HB6.out.trans (hb7.mono HB6.out.size)
    have HB8 := Lib.hid (hbw7.trans (hbx.1.mono hbw7.size))
    have HY8 := Lib.hid ((HY6.out.below hb7).below hbx.1)
    have HZ8 := Lib.hid hbx.2
    have HT8 := Lib.hid ((HT6.out.lt hb7).lt hbx.1)
    have HU8 := Lib.hid (ht7.lt hbx.1)
    clear hbx hb7 hbw7 ht7 HY6 HT6 HB6
    change Code.wp _ _ _ _ (w7.alloc (.cells (tabA A7 cn c7 Af7 wl cf7 6) 29))
    generalize w7.alloc (.cells (tabA A7 cn c7 Af7 wl cf7 6) 29) = w8 at *
    generalize w7.heap.size = b8 at *
    have t0 := cell_of_row w8 b6 0 _ _ _ HY8.out
    have t1 := cell_of_row w8 b6 1 _ _ _ HY8.out
    have t2 := cell_of_row w8 b6 2 _ _ _ HY8.out
    have u0 := cell_of_row w8 b8 0 _ _ _ HZ8.out
    have u1 := cell_of_row w8 b8 1 _ _ _ HZ8.out
    have u2 := cell_of_row w8 b8 2 _ _ _ HZ8.out
    simp only [List.getElem?_toArray, List.getElem?_cons_succ, List.getElem?_cons_zero] at t0 t1 t2 u0 u1 u2
    go_upto_region 8 with (go_at_call 15; refine (HSY.out _ _ _ _ _ _ _ _ HT8.out HU8.out).mono ?_; rintro e w9 ⟨rfl, hb9⟩)
    have HB9 := Lib.hid (HB8.out.trans (hb9.mono HB8.out.size))
    have HY9 := Lib.hid (HY8.out.below hb9)
    have HT9 := Lib.hid (HT8.out.lt hb9)
    clear t0 t1 t2 u0 u1 u2 hb9
    have t0 := cell_of_row w9 b6 0 _ _ _ HY9.out
    have t1 := cell_of_row w9 b6 1 _ _ _ HY9.out
    have t2 := cell_of_row w9 b6 2 _ _ _ HY9.out
    simp only [List.getElem?_toArray, List.getElem?_cons_succ, List.getElem?_cons_zero] at t0 t1 t2
    go_upto_region 99 with (go_at_call 16; refine (HRT.out _ _ _ _ HT9.out HB9.out).mono ?_; rintro e w10 ⟨rfl, hb10⟩; rw [show errT true = Value.int .i64 0 from rfl]; have HB10 := Lib.hid (HB9.out.trans (hb10.mono HB9.out.size)); clear hb10)
    first | go_ret | skip
    exact ⟨rfl, HB10.out⟩
end Go.Proofs.Ytlkhmpnahbbpeaa
