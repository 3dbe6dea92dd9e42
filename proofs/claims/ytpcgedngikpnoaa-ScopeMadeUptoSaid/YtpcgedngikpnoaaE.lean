/-
  The document's Look, Linear, Right.
-/
import Derived.Test.YtpcgedngikpnoaaD
namespace Go.Proofs.Ytpcgedngikpnoaa
set_option maxRecDepth 100000
set_option linter.unusedSimpArgs false
set_option linter.unusedVariables false
open Go.RowKit

theorem own_fz {w : World} {B n c r : Nat} {e : TypeId} {xs : List Value} (h : w.ownsRow B e 1 (.slice (some ⟨r, 0, none⟩) n c) n xs) (j : Nat) : w.frozen? ⟨r, j, none⟩ = false := by
  obtain ⟨h1, h2⟩ := h
  rcases h2 with h1 | ⟨g2, cap, cur, hv, hb, hh, h4, h5, h6, hx⟩
  · cases h1.1
  · injection hv with h1 _ h3
    injection h1 with h1
    injection h1 with h1
    subst h1
    exact frozen_of_row w r j _ _ hh
set_option maxRecDepth 100000 in
set_option maxHeartbeats 4000000 in
theorem dlook_any (r : Sym) (skip : Int) (A : Option Addr) (n c : Nat) (xs : List Im) (w : World) (h : Ims w (fun k => k < w.heap.size) A n c xs) (hf : FitsS xs) (hn : n ≤ 17592186044416) (hrn : r.name.length ≤ 140737488355328) :
    Calls Try.prog 14 #[symV r, .int .i64 skip, .slice A n c] w fun e w' => ∃ nb, e = .returned (.tuple #[fdV (lookP (fun x => (tabI r x).1) skip 0 xs), .slice (some ⟨nb, 0, none⟩) n n]) ∧
      w'.ownsRow w.heap.size 3 1 (.slice (some ⟨nb, 0, none⟩) n n) n (ints (numL (tabN r) skip xs (goneP (fun x => (tabI r x).1) skip 0 xs))) ∧ Below w.heap.size w w' := by
  obtain ⟨i0, hi, hz0, hz1, hz2⟩ := info3 (show (Try.prog.info? 3).map (fun i => (i.zero, i.size, i.bytes)) = some (some (.int .i64 0), 1, 8) by kernel_rfl)
  obtain ⟨hl, q, h1, h2⟩ := h
  obtain rfl := hl
  have hcap := h1.cap
  have hb1 : Below w.heap.size w ((w.alloc (.cells (symA r) 25)).alloc (.cells (fdA (0, 0, false)) 34)) := ((Below.refl _ _).alloc (Nat.le_refl _) _).alloc (by simp) _
  have HB1 := Lib.hid hb1
  have HR1 := Lib.hid (show Sx ((w.alloc (.cells (symA r) 25)).alloc (.cells (fdA (0, 0, false)) 34)) w.heap.size r from ⟨(Bx.new w (symA r) 25).alloc _⟩)
  have HX1 := Lib.hid (show Bx ((w.alloc (.cells (symA r) 25)).alloc (.cells (fdA (0, 0, false)) 34)) (w.heap.size + 1) (fdA (0, 0, false)) 34 from by
    have := Bx.new (w.alloc (.cells (symA r) 25)) (fdA (0, 0, false)) 34
    simpa using this)
  have hs1 : ((w.alloc (.cells (symA r) 25)).alloc (.cells (fdA (0, 0, false)) 34)).heap.size = w.heap.size + 2 := by simp
  have HZ1 := Lib.hid hs1
  have HE1 := Lib.hid h1
  have HY := Lib.hid h2
  have HF := Lib.hid hf
  obtain ⟨L, hL⟩ : ∃ L, L = lookP (fun x => (tabI r x).1) skip 0 xs := ⟨_, rfl⟩
  obtain ⟨G, hG⟩ : ∃ G, G = goneP (fun x => (tabI r x).1) skip 0 xs := ⟨_, rfl⟩
  rw [← hL, ← hG]
  have HL := Lib.hid hL
  have HG := Lib.hid hG
  clear hb1 hs1 h1 h2 hf hL hG
  go_enter Try.func14, Try.ntmps14
  go_upto_region 1 with (fail)
  change Code.wp _ _ _ _ ((w.alloc (.cells (symA r) 25)).alloc (.cells (fdA (0, 0, false)) 34))
  generalize (w.alloc (.cells (symA r) 25)).alloc (.cells (fdA (0, 0, false)) 34) = w1 at *
  go_upto_region 2 with (at_make; refine wpList_make_full _ rfl _ _ 30 rfl w1.heap.size 3 i0 _ 1 (by kernel_rfl) hi hz0 hz1 .i64 .i64 _ _ xs.length rfl rfl rfl rfl (by rw [hz2]; omega) (by simp only [maxLen]; omega) (Nat.le_refl _) ?_; intro w2 hown hg2; rw [noughts] at hown; have HO2 := Lib.hid hown; have HB2 := Lib.hid ((Below.refl w1.heap.size w1).grown hg2 (Nat.le_refl _) (fun k hk => by cases hk)); clear hown hg2)
  have HI0 := Lib.hid (show Below w.heap.size w w2 ∧ Sx w2 w.heap.size r ∧ Bx w2 (w.heap.size + 1) (fdA (0, 0, false)) 34 ∧ w2.ownsRow w.heap.size 3 1 (.slice (some ⟨w1.heap.size, 0, none⟩) xs.length xs.length) xs.length (ints (numL (tabN r) skip xs 0)) from
    ⟨HB1.out.trans (HB2.out.mono (by have := HZ1.out; omega)), HR1.out.below HB2.out, HX1.out.below HB2.out, by rw [numL_zero]; exact own_more HO2.out (by have := HZ1.out; omega)⟩)
  have HNB := Lib.hid (show w.heap.size + 2 ≤ w1.heap.size by have := HZ1.out; omega)
  clear HO2 HB2 HR1 HX1 HB1 HZ1
  generalize w1.heap.size = nb at *
  go_upto_region 3 with (fail)
  go_loopw [9] (fun t wr => ∃ k : Nat, k ≤ xs.length ∧ t = .int .i64 (k : Int) ∧ L = lookP (fun x => (tabI r x).1) skip k (xs.drop k) ∧ G = goneP (fun x => (tabI r x).1) skip k (xs.drop k) ∧
    Below w.heap.size w wr ∧ Sx wr w.heap.size r ∧ Bx wr (w.heap.size + 1) (fdA (0, 0, false)) 34 ∧ wr.ownsRow w.heap.size 3 1 (.slice (some ⟨nb, 0, none⟩) xs.length xs.length) xs.length (ints (numL (tabN r) skip xs k))) (fun t _ => xs.length - (intOf t).toNat)
  case atStart => exact ⟨0, Nat.zero_le _, rfl, HL.out, HG.out, HI0.out⟩
  case round =>
    obtain ⟨k, hk, rfl, hl, hg, hbw, hry, hrx, hro⟩ := hrel
    have HLK := Lib.hid hl
    have HGK := Lib.hid hg
    have HBR := Lib.hid hbw
    have HYR := Lib.hid hry
    have HXR := Lib.hid hrx
    have HOR := Lib.hid hro
    clear hl hg hbw hry hrx hro
    by_cases hlt : k < xs.length
    · obtain ⟨ad, rfl⟩ : ∃ ad, A = some ad := by
        cases A with
        | none => have := (HE1.out.nil rfl).1; omega
        | some ad => exact ⟨ad, rfl⟩
      obtain ⟨b, o, rfl⟩ := HE1.out.plain (by omega) rfl
      have HON := Lib.hid (fun h => look_on (f := fun x => (tabI r x).1) (skip := skip) hlt h)
      have HAT := Lib.hid (fun h h2 => look_at (f := fun x => (tabI r x).1) (skip := skip) hlt h h2)
      have HSK := Lib.hid (fun h => numL_skip (g := tabN r) (skip := skip) (xs := xs) (k := k) h)
      have HST := Lib.hid (fun h => numL_set (g := tabN r) (skip := skip) (xs := xs) hlt h)
      have hx : xs.getD k noIm ∈ xs := by rw [List.getD_eq_getElem?_getD, List.getElem?_eq_getElem hlt, Option.getD_some]; exact List.getElem_mem hlt
      have HFK := Lib.hid (HF.out.2 _ hx)
      have HSY := Lib.hid ((HY.out k hlt).lt HBR.out)
      have HCE := Lib.hid (Ims.cells (HE1.out.lt HBR.out) k hlt)
      have HLO := Lib.hid (tab_low r (xs.getD k noIm))
      clear hx
      generalize xs.getD k noIm = x at *
      generalize q k = p at *
      have hk0 : (0 : Int) ≤ (k : Int) := by omega
      have hk1 : (k : Int) < (xs.length : Int) := by omega
      by_cases hsk : (k : Int) = skip
      · have d0 : ((k : Int) == skip) = true := by simp [hsk]
        have HN := Lib.hid (HON.out (.inl hsk))
        have HNS := Lib.hid (HSK.out hsk)
        clear hsk
        go_wp2
        go_roundw
        case rel => exact ⟨k + 1, by omega, by go_num, HLK.out.trans HN.out.1, HGK.out.trans HN.out.2, HBR.out, HYR.out, HXR.out, by rw [HNS.out]; exact HOR.out⟩
        case measure => simp [intOf]; omega
      · have d0 : ((k : Int) == skip) = false := by simp [hsk]
        have HNS := Lib.hid (HST.out hsk)
        have HHT := Lib.hid (fun h2 => HAT.out hsk h2)
        clear hsk
        go_upto_region 6 with (fail)
        have hd := drew_below wr
        obtain ⟨c0, c1, c2, c3, c4, c5, c6, c7, c8, c9, c10, c11, c12, c13, c14⟩ := HCE.out
        replace c5 := cell_below hd c5
        replace c6 := cell_below hd c6
        replace c7 := cell_below hd c7
        replace c8 := cell_below hd c8
        obtain ⟨y0, y1, y2, y3, y4, y5, y6, y7, y8⟩ := (HYR.out.below hd).cells
        have HS9 := Lib.hid (HSY.out.lt hd)
        have HB9 := Lib.hid (HBR.out.trans (hd.mono HBR.out.size))
        have HY9 := Lib.hid (HYR.out.below hd)
        have HX9 := Lib.hid (HXR.out.below hd)
        have HO9 := Lib.hid (own_kept HOR.out fun k hk => hd.block k (HOR.out.lt k hk).2)
        clear hd c0 c1 c2 c3 c4 c9 c10 c11 c12 c13 c14 HCE HYR HXR HOR HBR HSY
        refine wp_region_held_drew (S := fun X => Below wr.drew.heap.size wr.drew X) (by kernel_rfl) (Below.refl _ _) (fun hHeld0 => ?_)
        generalize wr.drew = w9 at *
        have HFI := Lib.hid (fun (X : World) (hX : Below w9.heap.size w9 X) => qfind_any p.bk.1 x.rows.length p.bk.2 p.fw.1 p.fw.2 (rowF x.rows) x.words x.shift r p.sy.1 p.sy.2 x.syms X (HS9.out.lt hX).tab (HS9.out.lt hX).syms HFK.out.rows HFK.out.words HFK.out.syms hrn (fun k _ => HFK.out.row k))
        have HT := Lib.hid (show findT x.rows.length (rowF x.rows) x.words x.shift r x.syms = tabI r x from rfl)
        rw [HT.out] at HFI
        clear HT
        generalize htb : tabI r x = t at *
        have HTB := Lib.hid htb
        clear htb
        refine take_at (i := 0) (d := 25) (v := (.slice (some ⟨b, o, none⟩) xs.length c)) rfl rfl (by kernel_rfl) (by kernel_rfl) (by kernel_rfl) (fun _ _ _ h => h) (Or.inl ⟨by rfl, ?_⟩) (by assumption) ?_
        · intro X hX; go_simp
        (try simp only [Act.put, List.setIfInBounds_toArray, List.set_cons_zero, List.set_cons_succ])
        refine take_at (i := 1) (d := 26) (v := (.int .i64 (k : Int))) rfl rfl (by kernel_rfl) (by kernel_rfl) (by kernel_rfl) (fun _ _ _ h => h) (Or.inl ⟨by rfl, ?_⟩) (by assumption) ?_
        · intro X hX; go_simp
        (try simp only [Act.put, List.setIfInBounds_toArray, List.set_cons_zero, List.set_cons_succ])
        refine take_at (i := 2) (d := 27) (v := (.pointer (some ⟨b, o + k * 15, none⟩))) rfl rfl (by kernel_rfl) (by kernel_rfl) (by kernel_rfl) (fun _ _ _ h => h) (Or.inl ⟨by rfl, ?_⟩) (by assumption) ?_
        · intro X hX; go_simp
        (try simp only [Act.put, List.setIfInBounds_toArray, List.set_cons_zero, List.set_cons_succ])
        refine take_at (i := 3) (d := 28) (v := (.pointer (some ⟨b, o + k * 15 + 6, none⟩))) rfl rfl (by kernel_rfl) (by kernel_rfl) (by kernel_rfl) (fun _ _ _ h => h) (Or.inl ⟨by rfl, ?_⟩) (by assumption) ?_
        · intro X hX; go_simp
        (try simp only [Act.put, List.setIfInBounds_toArray, List.set_cons_zero, List.set_cons_succ])
        refine take_at (i := 4) (d := 29) (v := (.agg (tabA p.bk.1 x.rows.length p.bk.2 p.fw.1 x.words.length p.fw.2 x.shift))) rfl rfl (by kernel_rfl) (by kernel_rfl) (by kernel_rfl) (fun _ _ _ h => h) (Or.inl ⟨by rfl, ?_⟩) (by assumption) ?_
        · intro X hX; have a6 := cell_below hX c6; have a7 := cell_below hX c7; have a8 := cell_below hX c8; go_simp
        (try simp only [Act.put, List.setIfInBounds_toArray, List.set_cons_zero, List.set_cons_succ])
        refine take_at (i := 5) (d := 30) (v := (symV r)) rfl rfl (by kernel_rfl) (by kernel_rfl) (by kernel_rfl) (fun _ _ _ h => h) (Or.inl ⟨by rfl, ?_⟩) (by assumption) ?_
        · intro X hX; obtain ⟨y0, y1, y2, y3, y4, y5, y6, y7, y8⟩ := (HY9.out.below hX).cells; go_simp
        (try simp only [Act.put, List.setIfInBounds_toArray, List.set_cons_zero, List.set_cons_succ])
        refine take_at (i := 6) (d := 31) (v := (.slice (some ⟨b, o, none⟩) xs.length c)) rfl rfl (by kernel_rfl) (by kernel_rfl) (by kernel_rfl) (fun _ _ _ h => h) (Or.inl ⟨by rfl, ?_⟩) (by assumption) ?_
        · intro X hX; go_simp
        (try simp only [Act.put, List.setIfInBounds_toArray, List.set_cons_zero, List.set_cons_succ])
        refine take_at (i := 7) (d := 32) (v := (.int .i64 (k : Int))) rfl rfl (by kernel_rfl) (by kernel_rfl) (by kernel_rfl) (fun _ _ _ h => h) (Or.inl ⟨by rfl, ?_⟩) (by assumption) ?_
        · intro X hX; go_simp
        (try simp only [Act.put, List.setIfInBounds_toArray, List.set_cons_zero, List.set_cons_succ])
        refine take_at (i := 8) (d := 33) (v := (.pointer (some ⟨b, o + k * 15, none⟩))) rfl rfl (by kernel_rfl) (by kernel_rfl) (by kernel_rfl) (fun _ _ _ h => h) (Or.inl ⟨by rfl, ?_⟩) (by assumption) ?_
        · intro X hX; go_simp
        (try simp only [Act.put, List.setIfInBounds_toArray, List.set_cons_zero, List.set_cons_succ])
        refine take_at (i := 9) (d := 34) (v := (.pointer (some ⟨b, o + k * 15 + 5, none⟩))) rfl rfl (by kernel_rfl) (by kernel_rfl) (by kernel_rfl) (fun _ _ _ h => h) (Or.inl ⟨by rfl, ?_⟩) (by assumption) ?_
        · intro X hX; go_simp
        (try simp only [Act.put, List.setIfInBounds_toArray, List.set_cons_zero, List.set_cons_succ])
        refine take_at (i := 10) (d := 35) (v := (.slice p.sy.1 x.syms.length p.sy.2)) rfl rfl (by kernel_rfl) (by kernel_rfl) (by kernel_rfl) (fun _ _ _ h => h) (Or.inl ⟨by rfl, ?_⟩) (by assumption) ?_
        · intro X hX; have a5 := cell_below hX c5; go_simp
        (try simp only [Act.put, List.setIfInBounds_toArray, List.set_cons_zero, List.set_cons_succ])
        refine wpAnyH_ready (rs := [11]) (by kernel_rfl) (by simp) ?_
        refine AllReadyH.cons rfl (fun K hK => ?_) AllReadyH.nil
        go_simp
        (with_reducible refine (HFI.out _ hHeld0).mono ?_)
        rintro e w4 ⟨rfl, hb4⟩
        have HB4 := Lib.hid hb4; clear hb4
        go_simp
        refine hK.out _ _ (HB4.out) (fun hHeld1 => ?_)
        clear hK K
        (try simp only [Act.put, List.setIfInBounds_toArray, List.set_cons_zero, List.set_cons_succ])
        refine take_at (i := 12) (d := 24) (v := (.tuple #[.int .i64 t.1, .int .i64 (t.2 : Int)])) rfl rfl (by kernel_rfl) (by kernel_rfl) (by kernel_rfl) (fun _ _ _ h => h) (Or.inl ⟨by rfl, ?_⟩) (by assumption) ?_
        · intro X hX; go_simp
        (try simp only [Act.put, List.setIfInBounds_toArray, List.set_cons_zero, List.set_cons_succ])
        refine take_at (i := 13) (d := 37) (v := (.int .i64 t.1)) rfl rfl (by kernel_rfl) (by kernel_rfl) (by kernel_rfl) (fun _ _ _ h => h) (Or.inl ⟨by rfl, ?_⟩) (by assumption) ?_
        · intro X hX; go_simp
        (try simp only [Act.put, List.setIfInBounds_toArray, List.set_cons_zero, List.set_cons_succ])
        refine take_at (i := 14) (d := 38) (v := (.int .i64 (t.2 : Int))) rfl rfl (by kernel_rfl) (by kernel_rfl) (by kernel_rfl) (fun _ _ _ h => h) (Or.inl ⟨by rfl, ?_⟩) (by assumption) ?_
        · intro X hX; go_simp
        (try simp only [Act.put, List.setIfInBounds_toArray, List.set_cons_zero, List.set_cons_succ])
        refine take_at (i := 15) (d := 10) (v := (.int .i64 t.1)) rfl rfl (by kernel_rfl) (by kernel_rfl) (by kernel_rfl) (fun _ _ _ h => h) (Or.inl ⟨by rfl, ?_⟩) (by assumption) ?_
        · intro X hX; go_simp
        (try simp only [Act.put, List.setIfInBounds_toArray, List.set_cons_zero, List.set_cons_succ])
        refine take_at (i := 16) (d := 11) (v := (.int .i64 (t.2 : Int))) rfl rfl (by kernel_rfl) (by kernel_rfl) (by kernel_rfl) (fun _ _ _ h => h) (Or.inl ⟨by rfl, ?_⟩) (by assumption) ?_
        · intro X hX; go_simp
        (try simp only [Act.put, List.setIfInBounds_toArray, List.set_cons_zero, List.set_cons_succ])
        refine wpAnyH_done (by kernel_rfl) ?_ _
        clear c5 c6 c7 c8 y0 y1 y2 y3 y4 y5 y6 y7 y8 HFI hHeld0 hHeld1
        have HS4 := Lib.hid (HB9.out.trans (HB4.out.mono HB9.out.size))
        have HY4 := Lib.hid (HY9.out.below HB4.out)
        have HX4 := Lib.hid (HX9.out.below HB4.out)
        have HO4 := Lib.hid (own_kept HO9.out fun k hk => HB4.out.block k (HO9.out.lt k hk).2)
        clear HB9 HY9 HX9 HO9 HB4
        have HLN := Lib.hid (show (numL (tabN r) skip xs k).length = xs.length from numL_len _ _ _ _)
        have hc := own_at HO4.out (ints_get (numL (tabN r) skip xs k) k (by rw [HLN.out]; exact hlt))
        have hfz := own_fz HO4.out k
        have HP := Lib.hid (own_put HO4.out k (.int .i64 (t.2 : Int)))
        have hnbl := (HO4.out.lt nb rfl)
        have HBT := Lib.hid (show But nb w4 (w4.setCell ⟨nb, k, none⟩ (.int .i64 (t.2 : Int))) from ⟨rfl, rfl, rfl, by simp [World.setCell], fun j hj _ => heap_setCell_other w4 ⟨nb, k, none⟩ j _ hj⟩)
        go_upto_region 8 with (fail)
        clear hc hfz
        rw [ints_set] at HP
        have HS5 := Lib.hid (HS4.out.trans (HBT.out.below hnbl.1 HS4.out.size))
        have HY5 := Lib.hid (show Sx (w4.setCell ⟨nb, k, none⟩ (.int .i64 (t.2 : Int))) w.heap.size r from ⟨(HBT.out.block _ (by have := HNB.out; omega) HY4.out.bx.lt).trans HY4.out.bx⟩)
        have HX5 := Lib.hid (show Bx (w4.setCell ⟨nb, k, none⟩ (.int .i64 (t.2 : Int))) (w.heap.size + 1) (fdA (0, 0, false)) 34 from (HBT.out.block _ (by have := HNB.out; omega) HX4.out.lt).trans HX4.out)
        have HO5 := Lib.hid (show (w4.setCell ⟨nb, k, none⟩ (.int .i64 (t.2 : Int))).ownsRow w.heap.size 3 1 (.slice (some ⟨nb, 0, none⟩) xs.length xs.length) xs.length (ints (numL (tabN r) skip xs (k + 1))) from by
          rw [HNS.out, show tabN r x = t.2 from congrArg Prod.snd HTB.out]
          exact HP.out)
        clear HS4 HY4 HX4 HO4 HP hnbl HBT HNS
        generalize w4.setCell ⟨nb, k, none⟩ (.int .i64 (t.2 : Int)) = w5 at *
        have HLT := Lib.hid (show t.1 = -1 ∨ 0 ≤ t.1 by
          have h1 := HLO.out
          omega)
        by_cases hf : t.1 = -1
        · have HN := Lib.hid (HON.out (.inr hf))
          have d1 : decide (0 ≤ t.1) = false := decide_eq_false (by omega)
          have d2 : ¬ 0 ≤ t.1 := by omega
          generalize t.1 = y at *
          clear hf
          go_wp2
          go_roundw
          case rel => exact ⟨k + 1, by omega, by go_num, HLK.out.trans HN.out.1, HGK.out.trans HN.out.2, HS5.out, HY5.out, HX5.out, HO5.out⟩
          case measure => simp [intOf]; omega
        · have HN := Lib.hid (HHT.out hf)
          have HN1 := Lib.hid (show L = ((k : Int), t.1, true) by rw [HLK.out, HN.out.1])
          have HN2 := Lib.hid (HGK.out.trans HN.out.2)
          have d2 : 0 ≤ t.1 := by have := HLT.out; omega
          have d1 : decide (0 ≤ t.1) = true := decide_eq_true d2
          clear hf HTB HLO
          generalize t.1 = y at *
          have x0 := HX5.out.c 0
          have x1 := HX5.out.c 1
          have x2 := HX5.out.c 2
          have f0 := HX5.out.f 0
          have f1 := HX5.out.f 1
          have f2 := HX5.out.f 2
          go_upto_region 99 with (fail)
          have hqr := fd_rest w5 (w.heap.size + 1) ((k : Int), y, true)
          have hq := fd_set HX5.out ((k : Int), y, true)
          have HO6 := Lib.hid (own_kept HO5.out fun j hj => hqr.1.block j (by have := HNB.out; simp [Value.ownBlock] at hj; omega) (HO5.out.lt j hj).2)
          have HB6 := Lib.hid (HS5.out.trans (hq.2.mono (by omega)))
          have HX6 := Lib.hid hq.1
          clear hq hqr x0 x1 x2 f0 f1 f2
          change bodyPost _ _ _ _ _ (fd3 w5 (w.heap.size + 1) ((k : Int), y, true))
          generalize fd3 w5 (w.heap.size + 1) ((k : Int), y, true) = w6 at *
          have x0 := HX6.out.c 0
          have x1 := HX6.out.c 1
          have x2 := HX6.out.c 2
          exact bodyPost_ret (v := .tuple #[fdV ((k : Int), y, true), .slice (some ⟨nb, 0, none⟩) xs.length xs.length]) (by simp [results, Try.results14, go_sem, x0, x1, x2]) rfl ⟨nb, by rw [HN1.out], by rw [HN2.out]; exact HO6.out, HB6.out⟩
    · obtain rfl : k = xs.length := by omega
      have HN := Lib.hid (look_end (f := fun x => (tabI r x).1) (skip := skip) (xs := xs))
      have x0 := HXR.out.c 0
      have x1 := HXR.out.c 1
      have x2 := HXR.out.c 2
      have f0 := HXR.out.f 0
      have f1 := HXR.out.f 1
      have f2 := HXR.out.f 2
      go_wp2
      have hqr := fd_rest wr (w.heap.size + 1) (0, 0, false)
      have hq := fd_set HXR.out (0, 0, false)
      have HO6 := Lib.hid (own_kept HOR.out fun j hj => hqr.1.block j (by have := HNB.out; simp [Value.ownBlock] at hj; omega) (HOR.out.lt j hj).2)
      have HB6 := Lib.hid (HBR.out.trans (hq.2.mono (by omega)))
      have HX6 := Lib.hid hq.1
      clear hq hqr x0 x1 x2 f0 f1 f2
      change bodyPost _ _ _ _ _ (fd3 wr (w.heap.size + 1) (0, 0, false))
      generalize fd3 wr (w.heap.size + 1) (0, 0, false) = w6 at *
      have x0 := HX6.out.c 0
      have x1 := HX6.out.c 1
      have x2 := HX6.out.c 2
      exact bodyPost_ret (v := .tuple #[fdV (0, 0, false), .slice (some ⟨nb, 0, none⟩) xs.length xs.length]) (by simp [results, Try.results14, go_sem, x0, x1, x2]) rfl ⟨nb, by rw [HLK.out, HN.out.1], by rw [HGK.out, HN.out.2]; exact HO6.out, HB6.out⟩
end Go.Proofs.Ytpcgedngikpnoaa
