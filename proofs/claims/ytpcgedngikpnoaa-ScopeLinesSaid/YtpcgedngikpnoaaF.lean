/-
  The document's Linear and Right.
-/
import Derived.Test.YtpcgedngikpnoaaE
namespace Go.Proofs.Ytpcgedngikpnoaa
set_option maxRecDepth 100000
set_option linter.unusedSimpArgs false
set_option linter.unusedVariables false
open Go.RowKit

set_option maxRecDepth 100000 in
set_option maxHeartbeats 4000000 in
theorem dlinear_any (r : Sym) (skip : Int) (A : Option Addr) (n c : Nat) (xs : List Im) (w : World) (h : Ims w (fun k => k < w.heap.size) A n c xs) (hf : FitsS xs) (hn : n ≤ 17592186044416) :
    Calls Try.prog 18 #[symV r, .int .i64 skip, .slice A n c] w fun e w' => e = .returned (fdV (lookP (linI r) skip 0 xs)) ∧ Below w.heap.size w w' := by
  obtain ⟨hl, q, h1, h2⟩ := h
  obtain rfl := hl
  have hcap := h1.cap
  have hb1 : Below w.heap.size w ((w.alloc (.cells (symA r) 25)).alloc (.cells (fdA (0, 0, false)) 34)) := ((Below.refl _ _).alloc (Nat.le_refl _) _).alloc (by simp) _
  have HB1 := Lib.hid hb1
  have HR1 := Lib.hid (show Sx ((w.alloc (.cells (symA r) 25)).alloc (.cells (fdA (0, 0, false)) 34)) w.heap.size r from ⟨(Bx.new w (symA r) 25).alloc _⟩)
  have HX1 := Lib.hid (show Bx ((w.alloc (.cells (symA r) 25)).alloc (.cells (fdA (0, 0, false)) 34)) (w.heap.size + 1) (fdA (0, 0, false)) 34 from by
    have := Bx.new (w.alloc (.cells (symA r) 25)) (fdA (0, 0, false)) 34
    simpa using this)
  have HE1 := Lib.hid h1
  have HY := Lib.hid h2
  have HF := Lib.hid hf
  obtain ⟨L, hL⟩ : ∃ L, L = lookP (linI r) skip 0 xs := ⟨_, rfl⟩
  rw [← hL]
  have HL := Lib.hid hL
  clear hb1 h1 h2 hf hL
  go_enter Try.func18, Try.ntmps18
  go_upto_region 1 with (fail)
  change Code.wp _ _ _ _ ((w.alloc (.cells (symA r) 25)).alloc (.cells (fdA (0, 0, false)) 34))
  generalize (w.alloc (.cells (symA r) 25)).alloc (.cells (fdA (0, 0, false)) 34) = w1 at *
  go_upto_region 2 with (fail)
  go_loopw [7] (fun t wr => ∃ k : Nat, k ≤ xs.length ∧ t = .int .i64 (k : Int) ∧ L = lookP (linI r) skip k (xs.drop k) ∧
    Below w.heap.size w wr ∧ Sx wr w.heap.size r ∧ Bx wr (w.heap.size + 1) (fdA (0, 0, false)) 34) (fun t _ => xs.length - (intOf t).toNat)
  case atStart => exact ⟨0, Nat.zero_le _, rfl, HL.out, HB1.out, HR1.out, HX1.out⟩
  case round =>
    obtain ⟨k, hk, rfl, hl, hbw, hry, hrx⟩ := hrel
    have HLK := Lib.hid hl
    have HBR := Lib.hid hbw
    have HYR := Lib.hid hry
    have HXR := Lib.hid hrx
    clear hl hbw hry hrx
    by_cases hlt : k < xs.length
    · obtain ⟨ad, rfl⟩ : ∃ ad, A = some ad := by
        cases A with
        | none => have := (HE1.out.nil rfl).1; omega
        | some ad => exact ⟨ad, rfl⟩
      obtain ⟨b, o, rfl⟩ := HE1.out.plain (by omega) rfl
      have HON := Lib.hid (fun h => look_on (f := linI r) (skip := skip) hlt h)
      have HAT := Lib.hid (fun h h2 => look_at (f := linI r) (skip := skip) hlt h h2)
      have hx : xs.getD k noIm ∈ xs := by rw [List.getD_eq_getElem?_getD, List.getElem?_eq_getElem hlt, Option.getD_some]; exact List.getElem_mem hlt
      have HFK := Lib.hid (HF.out.2 _ hx)
      have HSY := Lib.hid ((HY.out k hlt).lt HBR.out)
      have HCE := Lib.hid (Ims.cells (HE1.out.lt HBR.out) k hlt)
      have HLO := Lib.hid (lin_low r (xs.getD k noIm))
      clear hx
      generalize xs.getD k noIm = x at *
      generalize q k = p at *
      have hk0 : (0 : Int) ≤ (k : Int) := by omega
      have hk1 : (k : Int) < (xs.length : Int) := by omega
      go_upto_region 4 with (fail)
      have hd := drew_below wr
      obtain ⟨c0, c1, c2, c3, c4, c5, c6, c7, c8, c9, c10, c11, c12, c13, c14⟩ := HCE.out
      replace c5 := cell_below hd c5
      have HS9 := Lib.hid (HSY.out.lt hd)
      have HB9 := Lib.hid (HBR.out.trans (hd.mono HBR.out.size))
      have HY9 := Lib.hid (HYR.out.below hd)
      have HX9 := Lib.hid (HXR.out.below hd)
      clear hd c0 c1 c2 c3 c4 c6 c7 c8 c9 c10 c11 c12 c13 c14 HCE HYR HXR HBR HSY
      refine wp_region_held_drew (S := fun X => Below wr.drew.heap.size wr.drew X) (by kernel_rfl) (Below.refl _ _) (fun hHeld0 => ?_)
      generalize wr.drew = w9 at *
      have HFI := Lib.hid (fun (X : World) (hX : Below w9.heap.size w9 X) => qfirst_any r p.sy.1 x.syms.length p.sy.2 x.syms X (HS9.out.lt hX).syms (Nat.le_trans HFK.out.syms (by decide)))
      have HT := Lib.hid (show firstS r x.syms = linI r x from rfl)
      rw [HT.out] at HFI
      clear HT
      generalize linI r x = t at *
      refine take_at (i := 0) (d := 15) (v := (symV r)) rfl rfl (by kernel_rfl) (by kernel_rfl) (by kernel_rfl) (fun _ _ _ h => h) (Or.inl ⟨by rfl, ?_⟩) (by assumption) ?_
      · intro X hX; obtain ⟨y0, y1, y2, y3, y4, y5, y6, y7, y8⟩ := (HY9.out.below hX).cells; go_simp
      (try simp only [Act.put, List.setIfInBounds_toArray, List.set_cons_zero, List.set_cons_succ])
      refine take_at (i := 1) (d := 16) (v := (.slice (some ⟨b, o, none⟩) xs.length c)) rfl rfl (by kernel_rfl) (by kernel_rfl) (by kernel_rfl) (fun _ _ _ h => h) (Or.inl ⟨by rfl, ?_⟩) (by assumption) ?_
      · intro X hX; go_simp
      (try simp only [Act.put, List.setIfInBounds_toArray, List.set_cons_zero, List.set_cons_succ])
      refine take_at (i := 2) (d := 17) (v := (.int .i64 (k : Int))) rfl rfl (by kernel_rfl) (by kernel_rfl) (by kernel_rfl) (fun _ _ _ h => h) (Or.inl ⟨by rfl, ?_⟩) (by assumption) ?_
      · intro X hX; go_simp
      (try simp only [Act.put, List.setIfInBounds_toArray, List.set_cons_zero, List.set_cons_succ])
      refine take_at (i := 3) (d := 18) (v := (.pointer (some ⟨b, o + k * 15, none⟩))) rfl rfl (by kernel_rfl) (by kernel_rfl) (by kernel_rfl) (fun _ _ _ h => h) (Or.inl ⟨by rfl, ?_⟩) (by assumption) ?_
      · intro X hX; go_simp
      (try simp only [Act.put, List.setIfInBounds_toArray, List.set_cons_zero, List.set_cons_succ])
      refine take_at (i := 4) (d := 19) (v := (.pointer (some ⟨b, o + k * 15 + 5, none⟩))) rfl rfl (by kernel_rfl) (by kernel_rfl) (by kernel_rfl) (fun _ _ _ h => h) (Or.inl ⟨by rfl, ?_⟩) (by assumption) ?_
      · intro X hX; go_simp
      (try simp only [Act.put, List.setIfInBounds_toArray, List.set_cons_zero, List.set_cons_succ])
      refine take_at (i := 5) (d := 20) (v := (.slice p.sy.1 x.syms.length p.sy.2)) rfl rfl (by kernel_rfl) (by kernel_rfl) (by kernel_rfl) (fun _ _ _ h => h) (Or.inl ⟨by rfl, ?_⟩) (by assumption) ?_
      · intro X hX; have a5 := cell_below hX c5; go_simp
      (try simp only [Act.put, List.setIfInBounds_toArray, List.set_cons_zero, List.set_cons_succ])
      refine wpAnyH_ready (rs := [6]) (by kernel_rfl) (by simp) ?_
      refine AllReadyH.cons rfl (fun K hK => ?_) AllReadyH.nil
      go_simp
      (with_reducible refine (HFI.out _ hHeld0).mono ?_)
      rintro e w4 ⟨rfl, hb4⟩
      have HB4 := Lib.hid hb4; clear hb4
      go_simp
      refine hK.out _ _ (HB4.out) (fun hHeld1 => ?_)
      clear hK K
      (try simp only [Act.put, List.setIfInBounds_toArray, List.set_cons_zero, List.set_cons_succ])
      refine take_at (i := 7) (d := 8) (v := (.int .i64 t)) rfl rfl (by kernel_rfl) (by kernel_rfl) (by kernel_rfl) (fun _ _ _ h => h) (Or.inl ⟨by rfl, ?_⟩) (by assumption) ?_
      · intro X hX; go_simp
      (try simp only [Act.put, List.setIfInBounds_toArray, List.set_cons_zero, List.set_cons_succ])
      refine wpAnyH_done (by kernel_rfl) ?_ _
      clear c5 HFI hHeld0 hHeld1
      have HS4 := Lib.hid (HB9.out.trans (HB4.out.mono HB9.out.size))
      have HY4 := Lib.hid (HY9.out.below HB4.out)
      have HX4 := Lib.hid (HX9.out.below HB4.out)
      clear HB9 HY9 HX9 HB4
      by_cases hsk : (k : Int) = skip
      · have d0 : ((k : Int) == skip) = true := by simp [hsk]
        have HN := Lib.hid (HON.out (.inl hsk))
        have d3 : ((k : Int) != skip) = false := by simp [hsk]
        clear hsk
        go_upto_region 6 with (fail)
        go_wp2
        go_roundw
        case rel => exact ⟨k + 1, by omega, by go_num, HLK.out.trans HN.out.1, HS4.out, HY4.out, HX4.out⟩
        case measure => simp [intOf]; omega
      · have d0 : ((k : Int) == skip) = false := by simp [hsk]
        by_cases hf : t = -1
        · have HN := Lib.hid (HON.out (.inr hf))
          have d1 : decide (0 ≤ t) = false := decide_eq_false (by omega)
          have d2 : ¬ 0 ≤ t := by omega
          have d3 : ((k : Int) != skip) = true := by simp [hsk]
          clear hf
          go_wp2
          go_roundw
          case rel => exact ⟨k + 1, by omega, by go_num, HLK.out.trans HN.out.1, HS4.out, HY4.out, HX4.out⟩
          case measure => simp [intOf]; omega
        · have HN := Lib.hid (HAT.out hsk hf)
          have HN1 := Lib.hid (show L = ((k : Int), t, true) by rw [HLK.out, HN.out.1])
          have d2 : 0 ≤ t := by have := HLO.out; omega
          have d1 : decide (0 ≤ t) = true := decide_eq_true d2
          have d3 : ((k : Int) != skip) = true := by simp [hsk]
          clear hf HLO
          have x0 := HX4.out.c 0
          have x1 := HX4.out.c 1
          have x2 := HX4.out.c 2
          have f0 := HX4.out.f 0
          have f1 := HX4.out.f 1
          have f2 := HX4.out.f 2
          go_wp2
          have hq := fd_set HX4.out ((k : Int), t, true)
          have HB6 := Lib.hid (HS4.out.trans (hq.2.mono (by omega)))
          have HX6 := Lib.hid hq.1
          clear hq x0 x1 x2 f0 f1 f2
          change bodyPost _ _ _ _ _ (fd3 w4 (w.heap.size + 1) ((k : Int), t, true))
          generalize fd3 w4 (w.heap.size + 1) ((k : Int), t, true) = w6 at *
          have x0 := HX6.out.c 0
          have x1 := HX6.out.c 1
          have x2 := HX6.out.c 2
          exact bodyPost_ret (v := fdV ((k : Int), t, true)) (by simp [results, Try.results18, go_sem, x0, x1, x2]) rfl ⟨by rw [HN1.out], HB6.out⟩
    · obtain rfl : k = xs.length := by omega
      have HN := Lib.hid (look_end (f := linI r) (skip := skip) (xs := xs))
      have x0 := HXR.out.c 0
      have x1 := HXR.out.c 1
      have x2 := HXR.out.c 2
      have f0 := HXR.out.f 0
      have f1 := HXR.out.f 1
      have f2 := HXR.out.f 2
      go_wp2
      have hq := fd_set HXR.out (0, 0, false)
      have HB6 := Lib.hid (HBR.out.trans (hq.2.mono (by omega)))
      have HX6 := Lib.hid hq.1
      clear hq x0 x1 x2 f0 f1 f2
      change bodyPost _ _ _ _ _ (fd3 wr (w.heap.size + 1) (0, 0, false))
      generalize fd3 wr (w.heap.size + 1) (0, 0, false) = w6 at *
      have x0 := HX6.out.c 0
      have x1 := HX6.out.c 1
      have x2 := HX6.out.c 2
      exact bodyPost_ret (v := fdV (0, 0, false)) (by simp [results, Try.results18, go_sem, x0, x1, x2]) rfl ⟨by rw [HLK.out, HN.out.1], HB6.out⟩
/-- Are all tables right? -/
def rightsB (xs : List Im) : Bool := xs.all rightI
set_option maxRecDepth 100000 in
set_option maxHeartbeats 4000000 in
theorem dright_any (A : Option Addr) (n c : Nat) (xs : List Im) (w : World) (h : Ims w (fun k => k < w.heap.size) A n c xs) (hf : FitsS xs) (hn : n ≤ 17592186044416) :
    Calls Try.prog 23 #[.slice A n c] w fun e w' => e = .returned (.bool (rightsB xs)) ∧ Below w.heap.size w w' := by
  obtain ⟨hl, q, h1, h2⟩ := h
  obtain rfl := hl
  have hcap := h1.cap
  have HE1 := Lib.hid h1
  have HY := Lib.hid h2
  have HF := Lib.hid hf
  obtain ⟨R, hR⟩ : ∃ R, R = rightsB xs := ⟨_, rfl⟩
  rw [← hR]
  have HR := Lib.hid hR
  clear h1 h2 hf hR
  go_enter Try.func23, Try.ntmps23
  go_upto_region 2 with (fail)
  go_loopw [3] (fun t wr => ∃ k : Nat, k ≤ xs.length ∧ t = .int .i64 (k : Int) ∧ rightsB (xs.take k) = true ∧ Below w.heap.size w wr) (fun t _ => xs.length - (intOf t).toNat)
  case atStart => exact ⟨0, Nat.zero_le _, rfl, rfl, Below.refl _ _⟩
  case round =>
    obtain ⟨k, hk, rfl, hl, hbw⟩ := hrel
    have HLK := Lib.hid hl
    have HBR := Lib.hid hbw
    clear hl hbw
    by_cases hlt : k < xs.length
    · obtain ⟨ad, rfl⟩ : ∃ ad, A = some ad := by
        cases A with
        | none => have := (HE1.out.nil rfl).1; omega
        | some ad => exact ⟨ad, rfl⟩
      obtain ⟨b, o, rfl⟩ := HE1.out.plain (by omega) rfl
      have hx : xs.getD k noIm ∈ xs := by rw [List.getD_eq_getElem?_getD, List.getElem?_eq_getElem hlt, Option.getD_some]; exact List.getElem_mem hlt
      have HON := Lib.hid (show rightI (xs.getD k noIm) = true → rightsB (xs.take (k + 1)) = true from fun h => by
        have e : xs[k] = xs.getD k noIm := by rw [List.getD_eq_getElem?_getD, List.getElem?_eq_getElem hlt, Option.getD_some]
        have hh := HLK.out
        unfold rightsB at *
        rw [List.take_succ_eq_append_getElem hlt, List.all_append, hh, e]
        simp only [List.all_cons, h, List.all_nil]
        rfl)
      have HOF := Lib.hid (show rightI (xs.getD k noIm) = false → rightsB xs = false from fun h => by
        cases hr : rightsB xs with
        | false => rfl
        | true => have := List.all_eq_true.1 hr _ hx; rw [h] at this; cases this)
      have HFK := Lib.hid (HF.out.2 _ hx)
      have HSY := Lib.hid ((HY.out k hlt).lt HBR.out)
      have HCE := Lib.hid (Ims.cells (HE1.out.lt HBR.out) k hlt)
      clear hx
      generalize xs.getD k noIm = x at *
      generalize q k = p at *
      have hk0 : (0 : Int) ≤ (k : Int) := by omega
      have hk1 : (k : Int) < (xs.length : Int) := by omega
      go_upto_region 4 with (fail)
      have hd := drew_below wr
      obtain ⟨c0, c1, c2, c3, c4, c5, c6, c7, c8, c9, c10, c11, c12, c13, c14⟩ := HCE.out
      replace c5 := cell_below hd c5
      replace c6 := cell_below hd c6
      replace c7 := cell_below hd c7
      replace c8 := cell_below hd c8
      have HS9 := Lib.hid (HSY.out.lt hd)
      have HB9 := Lib.hid (HBR.out.trans (hd.mono HBR.out.size))
      clear hd c0 c1 c2 c3 c4 c9 c10 c11 c12 c13 c14 HCE HBR HSY
      refine wp_region_held_drew (S := fun X => Below wr.drew.heap.size wr.drew X) (by kernel_rfl) (Below.refl _ _) (fun hHeld0 => ?_)
      generalize wr.drew = w9 at *
      have HFI := Lib.hid (fun (X : World) (hX : Below w9.heap.size w9 X) => qright_any p.bk.1 x.rows.length p.bk.2 p.fw.1 p.fw.2 (rowF x.rows) x.words x.shift p.sy.1 p.sy.2 x.syms X (HS9.out.lt hX).tab (HS9.out.lt hX).syms HFK.out.name HFK.out.rows HFK.out.words HFK.out.syms (fun k _ => HFK.out.row k))
      have HT := Lib.hid (show rightT x.rows.length (rowF x.rows) x.words x.shift x.syms = rightI x from rfl)
      rw [HT.out] at HFI
      clear HT
      generalize rightI x = t at *
      refine take_at (i := 0) (d := 10) (v := (.slice (some ⟨b, o, none⟩) xs.length c)) rfl rfl (by kernel_rfl) (by kernel_rfl) (by kernel_rfl) (fun _ _ _ h => h) (Or.inl ⟨by rfl, ?_⟩) (by assumption) ?_
      · intro X hX; go_simp
      (try simp only [Act.put, List.setIfInBounds_toArray, List.set_cons_zero, List.set_cons_succ])
      refine take_at (i := 1) (d := 11) (v := (.int .i64 (k : Int))) rfl rfl (by kernel_rfl) (by kernel_rfl) (by kernel_rfl) (fun _ _ _ h => h) (Or.inl ⟨by rfl, ?_⟩) (by assumption) ?_
      · intro X hX; go_simp
      (try simp only [Act.put, List.setIfInBounds_toArray, List.set_cons_zero, List.set_cons_succ])
      refine take_at (i := 2) (d := 12) (v := (.pointer (some ⟨b, o + k * 15, none⟩))) rfl rfl (by kernel_rfl) (by kernel_rfl) (by kernel_rfl) (fun _ _ _ h => h) (Or.inl ⟨by rfl, ?_⟩) (by assumption) ?_
      · intro X hX; go_simp
      (try simp only [Act.put, List.setIfInBounds_toArray, List.set_cons_zero, List.set_cons_succ])
      refine take_at (i := 3) (d := 13) (v := (.pointer (some ⟨b, o + k * 15 + 6, none⟩))) rfl rfl (by kernel_rfl) (by kernel_rfl) (by kernel_rfl) (fun _ _ _ h => h) (Or.inl ⟨by rfl, ?_⟩) (by assumption) ?_
      · intro X hX; go_simp
      (try simp only [Act.put, List.setIfInBounds_toArray, List.set_cons_zero, List.set_cons_succ])
      refine take_at (i := 4) (d := 14) (v := (.agg (tabA p.bk.1 x.rows.length p.bk.2 p.fw.1 x.words.length p.fw.2 x.shift))) rfl rfl (by kernel_rfl) (by kernel_rfl) (by kernel_rfl) (fun _ _ _ h => h) (Or.inl ⟨by rfl, ?_⟩) (by assumption) ?_
      · intro X hX; have a6 := cell_below hX c6; have a7 := cell_below hX c7; have a8 := cell_below hX c8; go_simp
      (try simp only [Act.put, List.setIfInBounds_toArray, List.set_cons_zero, List.set_cons_succ])
      refine take_at (i := 5) (d := 15) (v := (.slice (some ⟨b, o, none⟩) xs.length c)) rfl rfl (by kernel_rfl) (by kernel_rfl) (by kernel_rfl) (fun _ _ _ h => h) (Or.inl ⟨by rfl, ?_⟩) (by assumption) ?_
      · intro X hX; go_simp
      (try simp only [Act.put, List.setIfInBounds_toArray, List.set_cons_zero, List.set_cons_succ])
      refine take_at (i := 6) (d := 16) (v := (.int .i64 (k : Int))) rfl rfl (by kernel_rfl) (by kernel_rfl) (by kernel_rfl) (fun _ _ _ h => h) (Or.inl ⟨by rfl, ?_⟩) (by assumption) ?_
      · intro X hX; go_simp
      (try simp only [Act.put, List.setIfInBounds_toArray, List.set_cons_zero, List.set_cons_succ])
      refine take_at (i := 7) (d := 17) (v := (.pointer (some ⟨b, o + k * 15, none⟩))) rfl rfl (by kernel_rfl) (by kernel_rfl) (by kernel_rfl) (fun _ _ _ h => h) (Or.inl ⟨by rfl, ?_⟩) (by assumption) ?_
      · intro X hX; go_simp
      (try simp only [Act.put, List.setIfInBounds_toArray, List.set_cons_zero, List.set_cons_succ])
      refine take_at (i := 8) (d := 18) (v := (.pointer (some ⟨b, o + k * 15 + 5, none⟩))) rfl rfl (by kernel_rfl) (by kernel_rfl) (by kernel_rfl) (fun _ _ _ h => h) (Or.inl ⟨by rfl, ?_⟩) (by assumption) ?_
      · intro X hX; go_simp
      (try simp only [Act.put, List.setIfInBounds_toArray, List.set_cons_zero, List.set_cons_succ])
      refine take_at (i := 9) (d := 19) (v := (.slice p.sy.1 x.syms.length p.sy.2)) rfl rfl (by kernel_rfl) (by kernel_rfl) (by kernel_rfl) (fun _ _ _ h => h) (Or.inl ⟨by rfl, ?_⟩) (by assumption) ?_
      · intro X hX; have a5 := cell_below hX c5; go_simp
      (try simp only [Act.put, List.setIfInBounds_toArray, List.set_cons_zero, List.set_cons_succ])
      refine wpAnyH_ready (rs := [10]) (by kernel_rfl) (by simp) ?_
      refine AllReadyH.cons rfl (fun K hK => ?_) AllReadyH.nil
      go_simp
      (with_reducible refine (HFI.out _ hHeld0).mono ?_)
      rintro e w4 ⟨rfl, hb4⟩
      have HB4 := Lib.hid hb4; clear hb4
      go_simp
      refine hK.out _ _ (HB4.out) (fun hHeld1 => ?_)
      clear hK K
      (try simp only [Act.put, List.setIfInBounds_toArray, List.set_cons_zero, List.set_cons_succ])
      refine take_at (i := 11) (d := 21) (v := (.bool (!t))) rfl rfl (by kernel_rfl) (by kernel_rfl) (by kernel_rfl) (fun _ _ _ h => h) (Or.inl ⟨by rfl, ?_⟩) (by assumption) ?_
      · intro X hX; go_simp
      (try simp only [Act.put, List.setIfInBounds_toArray, List.set_cons_zero, List.set_cons_succ])
      refine wpAnyH_done (by kernel_rfl) ?_ _
      clear c5 c6 c7 c8 HFI hHeld0 hHeld1
      have HS4 := Lib.hid (HB9.out.trans (HB4.out.mono HB9.out.size))
      clear HB9 HB4
      cases t
      · have HN := Lib.hid (HR.out.trans (HOF.out rfl))
        go_wp2
        first | go_ret2 | go_ret | skip
        exact ⟨by rw [HN.out]; rfl, HS4.out⟩
      · have HN := Lib.hid (HON.out rfl)
        go_wp2
        go_roundw
        case rel => exact ⟨k + 1, by omega, by go_num, HN.out, HS4.out⟩
        case measure => simp [intOf]; omega
    · obtain rfl : k = xs.length := by omega
      have HN := Lib.hid (show R = true by rw [HR.out]; have := HLK.out; rwa [List.take_length] at this)
      go_wp2
      first | go_ret2 | go_ret | skip
      exact ⟨by rw [HN.out]; rfl, HBR.out⟩
end Go.Proofs.Ytpcgedngikpnoaa
