/-
  The document's Find.
-/
import Derived.Test.YtpcgedngikpnoaaTL
import Derived.Test.YtpcgedngikpnoaaTMLoad
namespace Go.Proofs.Ytpcgedngikpnoaa
set_option maxRecDepth 100000
set_option linter.unusedSimpArgs false
set_option linter.unusedVariables false
open Go.RowKit

set_option maxRecDepth 100000 in
set_option maxHeartbeats 4000000 in
theorem qfind_any (A : Option Addr) (n c : Nat) (Af : Option Addr) (cf : Nat) (f : Nat → List Int) (L : List UInt64) (sh : Int) (r : Sym) (B : Option Addr) (d : Nat) (ss : List Sym) (w : World)
    (ht : TabV w (fun k => k < w.heap.size) A n c Af cf f L) (h : Syl w (fun k => k < w.heap.size) B ss.length d ss) (hn : n ≤ 140737488355328) (hL : L.length ≤ 140737488355328) (hs : ss.length ≤ 140737488355328) (hr : r.name.length ≤ 140737488355328) (hrow : ∀ k, k < n → (f k).length ≤ 140737488355328) :
    Calls Try.prog 32 #[.agg (tabA A n c Af L.length cf sh), symV r, .slice B ss.length d] w fun e w' => e = .returned (.tuple #[.int .i64 (findT n f L sh r ss).1, .int .i64 ((findT n f L sh r ss).2 : Int)]) ∧ Below w.heap.size w w' := by
  have HT := Lib.hid ht
  have H := Lib.hid h
  have HV := Lib.hid (fun (X : World) (hX : Below w.heap.size w X) => rversioned_any B ss.length d ss X (h.lt hX) (by omega))
  clear ht h
  go_enter Try.func32, Try.ntmps32
  go_upto_region 1 with (fail)
  have HB1 := Lib.hid (show Below w.heap.size w ((w.alloc (.cells (tabA A n c Af L.length cf sh) 57)).alloc (.cells (symA r) 25)) from ((Below.refl _ _).alloc (Nat.le_refl _) _).alloc (by simp) _)
  have hx1 : Tx ((w.alloc (.cells (tabA A n c Af L.length cf sh) 57)).alloc (.cells (symA r) 25)) w.heap.size (tabA A n c Af L.length cf sh) := (Below.heap_alloc _ _ _ (by simp)).trans (heap_alloc_new _ _)
  have hy1 : Sx ((w.alloc (.cells (tabA A n c Af L.length cf sh) 57)).alloc (.cells (symA r) 25)) (w.heap.size + 1) r := by
    have := Sx.new (w.alloc (.cells (tabA A n c Af L.length cf sh) 57)) r
    simpa using this
  change Code.wp _ _ _ _ ((w.alloc (.cells (tabA A n c Af L.length cf sh) 57)).alloc (.cells (symA r) 25))
  generalize (w.alloc (.cells (tabA A n c Af L.length cf sh) 57)).alloc (.cells (symA r) 25) = w1 at *
  have HY1 := Lib.hid hy1
  have HX1 := Lib.hid hx1
  have t0 := cell_of_row w1 w.heap.size 0 _ _ _ hx1
  have t1 := cell_of_row w1 w.heap.size 1 _ _ _ hx1
  have t2 := cell_of_row w1 w.heap.size 2 _ _ _ hx1
  simp only [List.getElem?_toArray, List.getElem?_cons_succ, List.getElem?_cons_zero] at t0 t1 t2
  obtain ⟨y0, -⟩ := hy1.cells
  have HHA := Lib.hid (fun X => qhash_any r.name X (by omega))
  clear hx1 hy1
  by_cases h0 : n = 0
  · have HF := Lib.hid (show findT n f L sh r ss = (-1, 0) from if_pos (.inl h0))
    subst h0
    go_quiet (fail)
    go_upto_region 99 with (fail)
    first | go_ret2 | go_ret | skip
    rw [HF.out]
    exact ⟨rfl, below_drewN HB1.out _⟩
  have hpos : 0 < n := by omega
  have hn0 : ((n : Int) == 0) = false := beq_eq_false_iff_ne.2 (by omega)
  obtain ⟨ad, rfl⟩ : ∃ ad, A = some ad := by
    cases A with
    | none => have := (HT.out.rows.nil rfl).1; omega
    | some ad => exact ⟨ad, rfl⟩
  have HLK := Lib.hid (Siv.rLacks_any _ Af cf L sh (hashS r.name) w1.drew ((HT.out.lt HB1.out).words.below (drew_below w1) (fun _ h => h)) (by omega))
  have HFT := Lib.hid (show findT n f L sh r ss = if n = 0 ∨ Siv.lacksB L sh (hashS r.name) = true then (-1, 0) else goF r ss (ss.any vdB) (f (bkt (hashS r.name) n)) 0 from rfl)
  have hbl := bkt_lt (hashS r.name) hpos
  have HBK := Lib.hid (fun X => home_any r.name n hpos (by omega) X (by omega))
  generalize hashS r.name = hh at *
  generalize Siv.lacksB L sh hh = lk at *
  generalize L.length = ll at *
  go_region_held3 (fun X => X.cell? ⟨w.heap.size, 0, none⟩ = some (.slice (some ad) n c) ∧ X.cell? ⟨w.heap.size, 1, none⟩ = some (.slice Af ll cf) ∧ X.cell? ⟨w.heap.size, 2, none⟩ = some (.int .i64 sh) ∧ X.cell? ⟨w.heap.size + 1, 0, none⟩ = some (str r.name)) (first | (exact ⟨by assumption, by assumption, by assumption, by assumption⟩) | go_keep) (first
    | (go_at_call 26; (with_reducible refine (HHA.out _).mono ?_); rintro e w' ⟨rfl, rfl⟩)
    | (go_at_call 28; (with_reducible refine (HLK.out).mono ?_); rintro e w2 ⟨rfl, hb2⟩; have hq := (drew_below w1).trans hb2; have p0 := cell_below hq t0; have p1 := cell_below hq t1; have p2 := cell_below hq t2; have p3 := cell_below hq y0))
  have HB2 := Lib.hid (HB1.out.trans (hq.mono HB1.out.size))
  have HX2 := Lib.hid (HX1.out.below hq)
  have HY2 := Lib.hid (HY1.out.below hq)
  clear t0 t1 t2 y0 p0 p1 p2 p3 hq hb2 HX1 HY1 HB1 HLK HHA
  cases lk
  rotate_left 1
  · have HF := Lib.hid (HFT.out.trans (if_pos (.inr rfl)))
    clear HFT
    go_upto_region 99 with (fail)
    first | go_ret2 | go_ret | skip
    rw [HF.out]
    exact ⟨rfl, HB2.out⟩
  have HF := Lib.hid (HFT.out.trans (if_neg (show ¬ (n = 0 ∨ false = true) by simp; omega)))
  clear HFT h0
  generalize bkt hh n = bi at *
  go_upto_region 3 with (fail)
  have t0 : w2.drew.cell? ⟨w.heap.size, 0, none⟩ = some (.slice (some ad) n c) := cell_of_row w2 w.heap.size 0 _ _ _ HX2.out
  obtain ⟨y0, -⟩ := (HY2.out.below (drew_below w2)).cells
  have HT3 := Lib.hid (HT.out.lt (HB2.out.trans ((drew_below w2).mono HB2.out.size)))
  obtain ⟨Ai, ci, hac, hsr⟩ := HT3.out.rows.at_ ad rfl bi hbl
  have HRO := Lib.hid hsr
  have hfl := hrow bi hbl
  have hb0 : (0 : Int) ≤ (bi : Int) := by omega
  have hb1 : (bi : Int) < (n : Int) := by omega
  have hcn := HT3.out.rows.cap
  generalize f bi = l at *
  clear hsr HT3
  refine wp_region_still_lit (by kernel_rfl) (by kernel_rfl) ?_
  repeat still_step
  still_call ((HBK.out _).mono fun e w' h => ⟨h.1, h.2.symm⟩)
  repeat still_step
  refine wpStill_nil ?_
  have HB4 := Lib.hid (HB2.out.trans ((drew_below w2).mono HB2.out.size))
  have HY4 := Lib.hid (HY2.out.below (drew_below w2))
  clear t0 y0 hac HX2 HY2 HB2
  go_upto_region 6 with (fail)
  change Code.wp _ _ _ _ w2.drew
  generalize w2.drew = w4 at *
  generalize hvd : ss.any vdB = v at *
  go_loopw [9, 10] (fun x t wr => ∃ j e : Nat, j ≤ l.length ∧ t = .int .i64 (j : Int) ∧ x = .int .i64 (e : Int) ∧ e ≤ j ∧ Below w4.heap.size w4 wr ∧ goF r ss v l 0 = goF r ss v (l.drop j) e) (fun _ t _ => l.length - (intOf t).toNat)
  case atStart => exact ⟨0, 0, Nat.zero_le _, rfl, rfl, Nat.le_refl _, Below.refl _ _, rfl⟩
  case round =>
    obtain ⟨j, e, hj, rfl, rfl, hej, hb, hgo⟩ := hrel
    have HB := Lib.hid (HB4.out.trans (hb.mono HB4.out.size))
    have HB5 := Lib.hid hb
    have HG := Lib.hid (HF.out.trans hgo)
    have HYR := Lib.hid (HY4.out.below hb)
    have HRR := Lib.hid (HRO.out.below hb (fun k hk => hk))
    clear hb hgo
    by_cases hjl : j < l.length
    · obtain ⟨aa, rfl⟩ : ∃ aa, Ai = some aa := by
        cases Ai with
        | none => have := (HRR.out.nil rfl).1; omega
        | some aa => exact ⟨aa, rfl⟩
      have hcap := HRR.out.cap
      have hc : wr.cell? (aa.add j) = some (.int .i64 l[j]) := HRR.out.at_ aa rfl j _ (by simp [il, hjl])
      have hj0 : (0 : Int) ≤ (j : Int) := by omega
      have hj1 : (j : Int) < (l.length : Int) := by omega
      by_cases hbad : l[j] < 0 ∨ (ss.length : Int) ≤ l[j]
      · have HN := Lib.hid (HG.out.trans (goF_skip hjl hbad))
        generalize l[j] = i at *
        by_cases hi0 : i < 0
        · have d0 : decide (i < 0) = true := decide_eq_true hi0
          clear hbad
          go_wp2_with fail
          go_roundw
          case rel => exact ⟨j + 1, e, hjl, by go_num, rfl, by omega, HB5.out, HF.out.symm.trans HN.out⟩
          case measure => simp [intOf]; omega
        · have d0 : decide (i < 0) = false := decide_eq_false hi0
          have d1 : (ss.length : Int) ≤ i := by omega
          clear hbad
          go_wp2_with fail
          go_roundw
          case rel => exact ⟨j + 1, e, hjl, by go_num, rfl, by omega, HB5.out, HF.out.symm.trans HN.out⟩
          case measure => simp [intOf]; omega
      · obtain ⟨k, hk⟩ : ∃ k : Nat, l[j] = (k : Int) := ⟨l[j].toNat, by omega⟩
        have hks : k < ss.length := by omega
        have HYE := Lib.hid (fun h => HG.out.trans (goF_yes hjl hk hks h))
        have HNO := Lib.hid (fun h => HG.out.trans (goF_no hjl hk hks h))
        rw [hk] at hc
        obtain ⟨bb, rfl⟩ : ∃ bb, B = some bb := by
          cases B with
          | none => have := (H.out.nil rfl).1; omega
          | some bb => exact ⟨bb, rfl⟩
        obtain ⟨b, o, rfl⟩ := H.out.plain (by omega)
        have hcap2 := H.out.cap
        have hbw : Below w.heap.size w wr.drew := HB.out.trans ((drew_below wr).mono HB.out.size)
        have HVR := Lib.hid (HV.out _ hbw)
        obtain ⟨c0, c1, c2, c3, c4, c5, c6, c7, c8⟩ := (H.out.below hbw (fun _ h => h)).get k hks
        obtain ⟨y0, y1, y2, y3, y4, y5, y6, y7, y8⟩ := (HYR.out.below (drew_below wr)).cells
        have hcd : wr.drew.cell? (aa.add j) = some (.int .i64 (k : Int)) := hc
        have hk0 : (0 : Int) ≤ (k : Int) := by omega
        have hk1 : (k : Int) < (ss.length : Int) := by omega
        have d0 : ¬ (k : Int) < 0 := by omega
        have d1 : ¬ (ss.length : Int) ≤ (k : Int) := by omega
        have HMA := Lib.hid (rmatch_any r ss[k] v wr.drew)
        clear hbad hk hbw
        generalize ss[k] = y at *
        generalize hml : matchB r y v = ml at *
        go_upto_region 10 with (fail)
        go_still_tail 10, (by kernel_rfl)
        still_call (HVR.out.mono fun e w' h => ⟨h.1, h.2.symm⟩)
        repeat still_step
        refine wpStill_nil ?_
        change wpList _ _ _ _ _ wr.drew
        cases ml
        · have HN := Lib.hid (HNO.out rfl)
          go_upto_region 11 with (go_at_call 39; refine (HMA.out).mono ?_; rintro en w5 ⟨rfl, hb5⟩; have HB6 := Lib.hid (HB5.out.trans (((drew_below wr).trans hb5).mono HB5.out.size)); clear hb5)
          clear hc hcd c0 c1 c2 c3 c4 c5 c6 c7 c8 y0 y1 y2 y3 y4 y5 y6 y7 y8 HMA HYE HNO
          go_wp2_with fail
          go_roundw
          case rel => exact ⟨j + 1, e + 1, hjl, by go_num, by go_num, Nat.succ_le_succ hej, HB6.out, HF.out.symm.trans HN.out⟩
          case measure => simp [intOf]; omega
        · have HN := Lib.hid (HYE.out rfl)
          go_upto_region 11 with (go_at_call 39; refine (HMA.out).mono ?_; rintro en w5 ⟨rfl, hb5⟩; have hcw := cell_below ((drew_below wr).trans hb5) hc; have HB6 := Lib.hid (HB.out.trans (((drew_below wr).trans hb5).mono HB.out.size)); clear hb5)
          clear hc hcd c0 c1 c2 c3 c4 c5 c6 c7 c8 y0 y1 y2 y3 y4 y5 y6 y7 y8 HMA HYE HNO
          go_upto_region 99 with (fail)
          first | go_ret2 | go_ret | skip
          rw [HN.out]
          exact ⟨rfl, HB6.out⟩
    · obtain rfl : j = l.length := by omega
      have HN := Lib.hid (show findT n f L sh r ss = (-1, e) by rw [HG.out, List.drop_length]; rfl)
      have hj1 : ¬ (l.length : Int) < (l.length : Int) := by omega
      go_upto_region 99 with (fail)
      first | go_ret2 | go_ret | skip
      rw [HN.out]
      exact ⟨rfl, HB.out⟩
end Go.Proofs.Ytpcgedngikpnoaa
