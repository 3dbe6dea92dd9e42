/-
  The document's Make.
-/
import Derived.Test.YtpcgedngikpnoaaTS
import Derived.Test.YtpcgedngikpnoaaTR
namespace Go.Proofs.Ytpcgedngikpnoaa
set_option maxRecDepth 100000
set_option linter.unusedSimpArgs false
set_option linter.unusedVariables false
open Go.RowKit

def homeAt (ss : List Sym) (cnt b : Nat) (x : Int) : Bool := match ss[x.toNat]? with
  | some s => bkt (hashS s.name) cnt == b
  | none => false
theorem homeAt_at {ss : List Sym} {cnt b j : Nat} (hj : j < ss.length) : homeAt ss cnt b (j : Int) = (bkt (hashS ss[j].name) cnt == b) := by simp [homeAt, hj]
theorem seen_fill (ss : List Sym) (cnt b k : Nat) : (seenL ss k).filter (homeAt ss cnt b) = fillS ss cnt k b := by
  unfold seenL fillS
  rw [List.filter_map, List.filter_filter]
  congr 1
  apply List.filter_congr
  intro j _
  simp only [Function.comp, seenAt, inB, homeAt, Int.toNat_natCast]
  cases ss[j]? with
  | none => rfl
  | some s => simp [Bool.and_comm]
theorem filter_take {l : List Int} {p : Int → Bool} {k : Nat} (hk : k < l.length) : (l.take (k + 1)).filter p = (l.take k).filter p ++ (if p l[k] = true then [l[k]] else []) := by
  rw [List.take_succ_eq_append_getElem hk, List.filter_append]
  congr 1
  by_cases h : p l[k] = true
  · simp [h]
  · simp [h]
theorem rws_own2 {w : World} {B n c : Nat} {A : Option Addr} {f : Nat → List Int} {s : Nat → Option Addr × Nat} (ho : w.ownsRow B 30 1 (.slice A n c) n (slvs n f s)) (hr : ∀ i, i < n → w.ownsRow B 3 1 (sl (s i) (f i)) (f i).length (il (f i))) : Rws w (fun k => B ≤ k ∧ k < w.heap.size) A n c f := by
  have h := Src.of_own ho
  exact ⟨h.nil, h.cap, fun ad hA hn => (h.blk ad hA hn).2, fun ad hA k hk => ⟨(s k).1, (s k).2, h.at_ ad hA k _ (slvs_get hk), (Src.of_own (hr k hk)).weak fun q hq => hq.2⟩⟩
/-- The hash of the name at a place. -/
def hAt (ss : List Sym) (x : Int) : UInt32 := match ss[x.toNat]? with
  | some s => hashS s.name
  | none => 0
theorem hAt_at {ss : List Sym} {j : Nat} (hj : j < ss.length) : hAt ss (j : Int) = hashS ss[j].name := by simp [hAt, hj]
theorem seen_map (ss : List Sym) : ∀ k, k ≤ ss.length → (seenL ss k).map (hAt ss) = hashesS (ss.take k)
  | 0, _ => rfl
  | k + 1, hk => by
    have hkl : k < ss.length := by omega
    rw [seen_succ, hashes_take hkl, List.map_append, seen_map ss k (by omega), seenAt_at hkl]
    congr 1
    cases seenB ss[k]
    · simp
    · simp [hAt_at hkl]
theorem wl_pos (ss : List Sym) : 1 ≤ wlS ss := by
  unfold wlS wcN
  repeat' split
  all_goals omega
set_option maxRecDepth 100000 in
theorem qmake_no (A : Option Addr) (n c : Nat) (w : World) (hn : 512 < n) (hn2 : n ≤ 9223372036854775807) :
    Calls Try.prog 38 #[.slice A n c] w fun e w' => e = .returned (.tuple #[.agg (tabA none 0 0 none 0 0 0), .int .i64 2]) ∧ Below w.heap.size w w' := by
  obtain ⟨hb1, hx1⟩ := tab_box w (tabA none 0 0 none 0 0 0)
  have h1 : (512 : Int) < (n : Int) := by omega
  have HB := Lib.hid (((hb1.setCell (p := ⟨w.heap.size, 0, none⟩) (Nat.le_refl _) (.slice none 0 0)).setCell (p := ⟨w.heap.size, 1, none⟩) (Nat.le_refl _) (.slice none 0 0)).setCell (p := ⟨w.heap.size, 2, none⟩) (Nat.le_refl _) (.int .i64 0))
  clear hb1 hx1
  go_enter Try.func38, Try.ntmps38
  go_wp2_with fail
  first
    | exact bodyPost_ret (v := .tuple #[.agg (tabA none 0 0 none 0 0 0), .int .i64 2]) (by rw [results_tab rfl]; go_simp) rfl ⟨rfl, HB.out⟩
    | exact bodyPost_ret (v := .tuple #[.agg (tabA none 0 0 none 0 0 0), .int .i64 2]) (by rw [results_tab rfl]; go_simp) rfl ⟨rfl, (tab_box w (tabA none 0 0 none 0 0 0)).1⟩
set_option maxRecDepth 100000 in
set_option maxHeartbeats 4000000 in
theorem qmake_own (A : Option Addr) (c : Nat) (ss : List Sym) (w : World) (h : Syl w (fun k => k < w.heap.size) A ss.length c ss) (hn : ss.length ≤ 512) (hs : Named ss) :
    Calls Try.prog 38 #[.slice A ss.length c] w fun e w' => ∃ A' c' Af cf, e = .returned (.tuple #[.agg (tabA A' (cntS ss) c' Af (wlS ss) cf 6), .int .i64 0]) ∧ TabV w' (fun k => w.heap.size ≤ k ∧ k < w'.heap.size) A' (cntS ss) c' Af cf (fillS ss (cntS ss) ss.length) (filS ss) ∧ Below w.heap.size w w' := by
  have H := Lib.hid h
  have HNM := Lib.hid hs
  have hc := cntS_le hn
  have hal := seen_hashes ss ss.length (Nat.le_refl _)
  rw [List.take_length] at hal
  have hall := seen_len ss ss.length
  have HCV := Lib.hid (cntS_val ss)
  have HQC := Lib.hid (fun X => qcount_any ((seenL ss ss.length).length : Int) (by unfold I64; omega) X)
  have HQW := Lib.hid (fun X => qwords_any (seenL ss ss.length).length X)
  rw [show cntT ((seenL ss ss.length).length : Int) = ((cntS ss : Nat) : Int) by rw [hal, HCV.out]] at HQC
  rw [show wcN (seenL ss ss.length).length = wlS ss by unfold wlS; rw [hal]] at HQW
  have HAL := Lib.hid hal
  clear hal HCV
  obtain ⟨hb1, hx1⟩ := tab_box w (tabA none 0 0 none 0 0 0)
  have HQS := Lib.hid (qseen_any A ss.length c ss _ (h.lt hb1) hn)
  have HB1 := Lib.hid hb1
  have HX1 := Lib.hid hx1
  have hz1 : w.heap.size < (w.alloc (.cells (tabA none 0 0 none 0 0 0) 57)).heap.size := by simp
  have hd : ¬ (512 : Int) < (ss.length : Int) := by omega
  clear h hs hb1 hx1
  go_enter Try.func38, Try.ntmps38
  go_upto_region 3 with (fail)
  change Code.wp _ _ _ _ (w.alloc (.cells (tabA none 0 0 none 0 0 0) 57))
  generalize w.alloc (.cells (tabA none 0 0 none 0 0 0) 57) = w1 at *
  go_upto_region 4 with (go_at_call 51; refine (HQS.out).mono ?_; rintro e w2 ⟨A3, c3, rfl, ho, hb⟩)
  have HB2 := Lib.hid (HB1.out.trans (hb.mono HB1.out.size))
  have HX2 := Lib.hid (HX1.out.below hb)
  have HO2 := Lib.hid ho
  have hz2 : w.heap.size < w2.heap.size := Nat.lt_of_lt_of_le hz1 hb.size
  clear ho hb HB1 HX1 HQS
  have HSF := Lib.hid (fun b => seen_fill ss (cntS ss) b ss.length)
  have HMP := Lib.hid (show (seenL ss ss.length).map (hAt ss) = hashesS ss by have := seen_map ss ss.length (Nat.le_refl _); rwa [List.take_length] at this)
  have HSE := Lib.hid (fun k (hk : k < (seenL ss ss.length).length) => show ∃ j, ∃ hj : j < ss.length, (seenL ss ss.length)[k] = (j : Int) from by
    have hm := List.getElem_mem hk
    obtain ⟨j, ⟨h1, h2⟩, h3⟩ := (by simpa only [seenL, List.mem_map, List.mem_filter, List.mem_range] using hm : ∃ a, (a < ss.length ∧ seenAt ss a = true) ∧ (a : Int) = (seenL ss ss.length)[k])
    exact ⟨j, h1, h3.symm⟩)
  generalize seenL ss ss.length = al at *
  go_upto_region 5 with (go_at_call 53; refine (HQC.out _).mono ?_; rintro e w' ⟨rfl, rfl⟩)
  obtain ⟨i0, hi, hy0, hy1, hy2⟩ : ∃ i0, Try.prog.info? 89 = some i0 ∧ i0.zero = some (.int .u64 0) ∧ i0.size = 1 ∧ i0.bytes = 8 := by
    have h := Siv.Try.info_word
    cases hq : Try.prog.info? 89 with
    | none => rw [hq] at h; cases h
    | some i =>
      rw [hq] at h
      simp only [Option.map_some, Option.some.injEq, Prod.mk.injEq] at h
      exact ⟨i, rfl, h⟩
  have hw64 : wlS ss ≤ 64 := by
    unfold wlS wcN
    repeat' split
    all_goals omega
  have hm0 : wlS ss ≤ maxLen := by simp only [maxLen]; omega
  go_upto_region 6 with (first
    | (go_at_call 54; refine (HQW.out _).mono ?_; rintro e w' ⟨rfl, rfl⟩)
    | (at_make; refine wpList_make_full _ rfl _ _ _ rfl w2.heap.size 89 i0 _ 1 Try.underlying53 hi hy0 hy1 .i64 .i64 _ _ (wlS ss) rfl rfl rfl rfl (by rw [hy2]; omega) hm0 (Nat.le_refl _) ?_; intro w3 hown hg1))
  have hbx := tab_box w3 (tabA none 0 0 (some ⟨w2.heap.size, 0, none⟩) (wlS ss) (wlS ss) 6)
  have hz3 : w2.heap.size ≤ w3.heap.size := hg1.size
  have hs4 : (w3.alloc (.cells (tabA none 0 0 (some ⟨w2.heap.size, 0, none⟩) (wlS ss) (wlS ss) 6) 57)).heap.size = w3.heap.size + 1 := by simp
  have hb3 : Below w.heap.size w w3 := HB2.out.grown hg1 HB2.out.size (fun q hq => by cases hq)
  have hx3 : Tx w3 w.heap.size (tabA none 0 0 none 0 0 0) := (hg1.block _ hz2 (by intro e; cases e)).trans HX2.out
  have HB4 := Lib.hid (hb3.trans (hbx.1.mono hb3.size))
  have HX4 := Lib.hid (hx3.below hbx.1)
  have HZ4 := Lib.hid hbx.2
  have HS4 := Lib.hid ((((Src.of_own HO2.out).weak (Q := fun q => q < w2.heap.size) fun q hq => hq.2.2).keep (w' := w3) fun q hq hlt => hg1.block q hlt (by intro e; cases e)).keep (w' := w3.alloc (.cells (tabA none 0 0 (some ⟨w2.heap.size, 0, none⟩) (wlS ss) (wlS ss) 6) 57)) fun q hq hlt => hbx.1.block q hlt)
  rw [Siv.made_blank] at hown
  have HW4 := Lib.hid (((Src.of_own hown).weak (Q := fun q => w2.heap.size ≤ q ∧ q < w3.heap.size) fun q hq => ⟨hq.2.1, hq.2.2⟩).keep (w' := w3.alloc (.cells (tabA none 0 0 (some ⟨w2.heap.size, 0, none⟩) (wlS ss) (wlS ss) 6) 57)) fun q hq hlt => hbx.1.block q hlt)
  change Code.wp _ _ _ _ (w3.alloc (.cells (tabA none 0 0 (some ⟨w2.heap.size, 0, none⟩) (wlS ss) (wlS ss) 6) 57))
  generalize w3.alloc (.cells (tabA none 0 0 (some ⟨w2.heap.size, 0, none⟩) (wlS ss) (wlS ss) 6) 57) = w4 at *
  clear hbx hb3 hx3 hown hg1 HB2 HX2 HO2 HQC HQW hi hy0 hy1 hy2 hm0
  generalize w3.heap.size = g3 at *
  generalize w2.heap.size = z2 at *
  have hg3 : g3 < w4.heap.size := by omega
  generalize hcn : cntS ss = cn at *
  generalize hwn : wlS ss = wl at *
  go_upto_region 7 with (fail)
  go_loopw [7] (fun t wr => ∃ (b : Nat) (A' : Option Addr) (c' : Nat) (s : Nat → Option Addr × Nat), b ≤ cn ∧ t = .int .i64 b ∧ Cp w w4 g3 (fillS ss cn ss.length) (some ⟨z2, 0, none⟩) wl wl 6 wr b A' c' s) (fun t _ => cn - (intOf t).toNat)
  case atStart => exact ⟨0, none, 0, fun _ => (none, 0), Nat.zero_le _, rfl, HB4.out, fun _ _ _ => rfl, Nat.le_refl _, HZ4.out, World.ownsRow_nil _ _ _ _, fun i hi => absurd hi (Nat.not_lt_zero _)⟩
  case round =>
    obtain ⟨b, A', c', s, hb, rfl, hc⟩ := hrel
    have HC := Lib.hid hc
    have hsz := hc.sz
    clear hc
    by_cases hbn : b < cn
    · go_upto_region 11 with (fail)
      rename World => wo
      go_loopw [8, 9] (fun v t wq => ∃ (k : Nat) (A2 : Option Addr) (m c2 : Nat) (l : List Int), k ≤ al.length ∧ t = .int .i64 k ∧ v = .slice A2 m c2 ∧ l = (al.take k).filter (homeAt ss cn b) ∧ l.length = m ∧ m ≤ k ∧ wq.ownsRow wo.heap.size 3 1 (.slice A2 m c2) m (il l) ∧ Below wo.heap.size wo wq) (fun _ t _ => al.length - (intOf t).toNat)
      case atStart => exact ⟨0, none, 0, 0, [], Nat.zero_le _, rfl, rfl, rfl, rfl, Nat.le_refl _, World.ownsRow_nil _ _ _ _, Below.refl _ _⟩
      case round =>
        obtain ⟨k, A2, m, c2, l, hk, rfl, rfl, hl, hm, hmk, ho, hbw⟩ := hrel
        have HL := Lib.hid hl
        have HM := Lib.hid hm
        have HO := Lib.hid ho
        have HBO := Lib.hid hbw
        have HCW := Lib.hid (HC.out.grow hg3 (Siv.grow_below hbw none))
        clear hl hm ho hbw
        by_cases hki : k < al.length
        · obtain ⟨jj, hjj, hal1⟩ := HSE.out k hki
          have HSW := HS4.out.keep (w' := wr) fun q hq hlt => HCW.out.kp q hlt (by omega)
          obtain ⟨a3, rfl⟩ : ∃ a3, A3 = some a3 := by
            cases A3 with
            | none => have := (HSW.nil rfl).1; omega
            | some ad => exact ⟨ad, rfl⟩
          have hc3 := HSW.cap
          have va : wr.cell? (a3.add k) = some (.int .i64 al[k]) := HSW.at_ a3 rfl k _ (il_get al k hki)
          have hft := filter_take (p := homeAt ss cn b) hki
          rw [hal1] at va hft
          rw [homeAt_at hjj] at hft
          have HFT := Lib.hid hft
          obtain ⟨ad, rfl⟩ : ∃ ad, A = some ad := by
            cases A with
            | none => have := (H.out.nil rfl).1; omega
            | some ad => exact ⟨ad, rfl⟩
          obtain ⟨g, o, rfl⟩ := H.out.plain (by omega)
          have hcap := H.out.cap
          obtain ⟨c0, -⟩ := (H.out.below HCW.out.bel (fun _ h => h)).get jj hjj
          have hyl := HNM.out ss[jj] (List.getElem_mem hjj)
          have HQH := Lib.hid (fun X => home_any ss[jj].name cn hc.1 (by omega) X (by omega))
          have k0 : (0 : Int) ≤ (k : Int) := by omega
          have k1 : (k : Int) < (al.length : Int) := by omega
          have j0 : (0 : Int) ≤ (jj : Int) := by omega
          have j1 : (jj : Int) < (ss.length : Int) := by omega
          clear HSW hft hal1
          generalize ss[jj].name = yn at *
          generalize bkt (hashS yn) cn = bi at *
          by_cases hbi : bi = b
          · subst hbi
            have HN := Lib.hid (show l ++ [(jj : Int)] = (al.take (k + 1)).filter (homeAt ss cn bi) by rw [HFT.out, HL.out]; simp)
            have HCN := Lib.hid ((Bx.new wr #[.int .i64 (jj : Int)] 3).c 0)
            have HO3 := Lib.hid (own_alloc HO.out (.cells #[.int .i64 (jj : Int)] 3))
            have HB3 := Lib.hid (HBO.out.alloc HBO.out.size (.cells #[.int .i64 (jj : Int)] 3))
            have m1 : m + 1 ≤ maxLen := by simp only [maxLen]; omega
            have m2 : (m + 1) * 8 ≤ 140737488355328 := by omega
            have HIL := Lib.hid (show il l ++ [.int .i64 (jj : Int)] = il (l ++ [(jj : Int)]) by simp [il])
            clear HFT hjj
            go_upto_region 12 with (first
              | (go_at_call 50; refine (HQH.out _).mono ?_; rintro e w' ⟨rfl, rfl⟩)
              | (at_builtin; refine append_one rfl (.tmp 49) (.tmp 54) 30 3 (.int .i64 0) 8 rfl Try.underlying30 Try.info_int rfl wo.heap.size A2 m c2 (il l) rfl HO3.out wr.heap.size (.int .i64 (jj : Int)) rfl HCN.out rfl m1 m2 HB3.out.size ?_; intro A4 c4 w6 hown hg; have HO4 := Lib.hid hown; have HB4' := Lib.hid (below_grown HB3.out hg (fun q hq => (HO3.out.lt q hq).1)); clear hown hg))
            go_wp2_with fail
            go_roundw
            case rel => exact ⟨k + 1, A4, m + 1, c4, l ++ [(jj : Int)], by omega, by go_num, rfl, HN.out, by simp [HM.out], by omega, by rw [← HIL.out]; exact HO4.out, HB4'.out⟩
            case measure => simp [intOf]; omega
          · have hne : ((bi : Int) == (b : Int)) = false := beq_eq_false_iff_ne.2 (by omega)
            have HN := Lib.hid (show l = (al.take (k + 1)).filter (homeAt ss cn b) by rw [HFT.out, HL.out]; simp [hbi])
            clear HFT hjj
            go_upto_region 12 with (go_at_call 50; refine (HQH.out _).mono ?_; rintro e w' ⟨rfl, rfl⟩)
            go_wp2_with fail
            go_roundw
            case rel => exact ⟨k + 1, A2, m, c2, l, by omega, by go_num, rfl, HN.out, HM.out, by omega, HO.out, HBO.out⟩
            case measure => simp [intOf]; omega
        · obtain rfl : k = al.length := by omega
          have hlf : l = fillS ss cn ss.length b := by rw [HL.out, List.take_length, HSF.out]
          obtain rfl : l.length = m := HM.out
          subst hlf
          have HR4 := Lib.hid (own_more HO.out hsz)
          clear HL HM HO HBO hmk
          have HCN := Lib.hid ((Bx.new wr #[.slice A2 (fillS ss cn ss.length b).length c2] 30).c 0)
          have HC5 := Lib.hid (HCW.out.grow hg3 (Siv.grow_below ((Below.refl wr.heap.size wr).alloc (Nat.le_refl _) (.cells #[.slice A2 (fillS ss cn ss.length b).length c2] 30)) none))
          have HR5 := Lib.hid (own_alloc HR4.out (.cells #[.slice A2 (fillS ss cn ss.length b).length c2] 30))
          have x0 : wr.cell? ⟨g3, 0, none⟩ = some (.slice A' b c') := cell_of_row wr g3 0 _ _ _ HCW.out.box
          have m3 : b + 1 ≤ maxLen := by simp only [maxLen]; omega
          have m4 : (b + 1) * 24 ≤ 140737488355328 := by omega
          have HBX := Lib.hid (fun (X : World) (hg : (wr.alloc (.cells #[.slice A2 (fillS ss cn ss.length b).length c2] 30)).grownBy X (Value.slice A' b c').ownBlock) => show Tx X g3 (tabA A' b c' (some ⟨z2, 0, none⟩) wl wl 6) from (hg.block g3 (Nat.lt_of_lt_of_le hg3 HC5.out.sz) (fun e => by have := (HC5.out.out.lt g3 e.symm).1; omega)).trans HC5.out.box)
          have hbase5 := HC5.out.sz
          go_upto_region 8 with (at_builtin; refine append_one rfl (.tmp 57) (.tmp 59) 52 30 (.slice none 0 0) 24 rfl Try.underlying52 Try.info_ints rfl w4.heap.size A' b c' (slvs b (fillS ss cn ss.length) s) rfl HC5.out.out wr.heap.size (.slice A2 (fillS ss cn ss.length b).length c2) rfl HCN.out rfl m3 m4 hbase5 ?_; intro A5 c5 w6 hown hg; have HC7 := Lib.hid (HC5.out.push hg3 (by omega) HR5.out hown hg); have hb6 := HBX.out w6 hg; have k2 := cell_of_row w6 g3 0 _ _ _ hb6; have k3 := frozen_of_row w6 g3 0 _ _ hb6; clear hown hg hb6)
          clear k2 k3 x0 m3 m4
          go_wp2_with fail
          go_roundw
          case rel => exact ⟨b + 1, A5, c5, _, hbn, by go_num, HC7.out⟩
          case measure => simp [intOf]; omega
    · obtain rfl : b = cn := by omega
      have HC2 := Lib.hid (rws_own2 HC.out.out HC.out.own)
      have HW5 := Lib.hid ((HW4.out.keep (w' := wr) fun q hq hlt => HC.out.kp q hlt (by omega)).weak (Q := fun q => q < wr.heap.size ∧ q ≠ g3 ∧ w.heap.size < q) fun q hq => ⟨by omega, by omega, by omega⟩)
      have HS5 := Lib.hid (HS4.out.keep (w' := wr) fun q hq hlt => HC.out.kp q hlt (by omega))
      have HX5 := Lib.hid (show Tx wr w.heap.size (tabA none 0 0 none 0 0 0) from (HC.out.kp w.heap.size (by omega) (by omega)).trans HX4.out)
      have HZ5 := Lib.hid HC.out.box
      have HB5 := Lib.hid HC.out.bel
      have hg5 : g3 < wr.heap.size := by omega
      clear HC HX4 HZ4 HS4 HW4 HB4 HSF
      go_upto_region 17 with (fail)
      rename World => wo
      go_loopw [10] (fun t wr => ∃ (k : Nat) (Af : Option Addr) (cf : Nat), k ≤ al.length ∧ t = .int .i64 k ∧ Tx wr g3 (tabA A' b c' Af wl cf 6) ∧ Src wr (fun q => q < wr.heap.size ∧ q ≠ g3 ∧ w.heap.size < q) Af wl cf (Siv.wds (Siv.setAll 6 (Siv.blank wl) ((al.map (hAt ss)).take k))) ∧ Below w.heap.size w wr ∧ (∀ q, q < wo.heap.size → q ≠ g3 → wr.heap[q]? = wo.heap[q]?) ∧ wo.heap.size ≤ wr.heap.size) (fun t _ => al.length - (intOf t).toNat)
      case atStart => exact ⟨0, _, _, Nat.zero_le _, rfl, HZ5.out, HW5.out, HB5.out, fun _ _ _ => rfl, Nat.le_refl _⟩
      case round =>
        obtain ⟨k, Af, cf, hk, rfl, hz, hw, hbw, hkp, hsw⟩ := hrel
        have HZ := Lib.hid hz
        have HW := Lib.hid hw
        have HBW := Lib.hid hbw
        have HKP := Lib.hid hkp
        clear hz hw hbw hkp
        by_cases hki : k < al.length
        · obtain ⟨jj, hjj, hal1⟩ := HSE.out k hki
          have HSW := HS5.out.keep (w' := wr) fun q hq hlt => HKP.out q hlt (by omega)
          obtain ⟨a3, rfl⟩ : ∃ a3, A3 = some a3 := by
            cases A3 with
            | none => have := (HSW.nil rfl).1; omega
            | some ad => exact ⟨ad, rfl⟩
          have hc3 := HSW.cap
          have va : wr.cell? (a3.add k) = some (.int .i64 al[k]) := HSW.at_ a3 rfl k _ (il_get al k hki)
          have hmk : k < (al.map (hAt ss)).length := by simp; exact hki
          have hst := Siv.setAll_take 6 (Siv.blank wl) (al.map (hAt ss)) k hmk
          have hmg : (al.map (hAt ss))[k] = hashS ss[jj].name := by simp [hal1, hAt_at hjj]
          rw [hal1] at va
          rw [hmg] at hst
          have HST := Lib.hid hst
          obtain ⟨ad, rfl⟩ : ∃ ad, A = some ad := by
            cases A with
            | none => have := (H.out.nil rfl).1; omega
            | some ad => exact ⟨ad, rfl⟩
          obtain ⟨g, o, rfl⟩ := H.out.plain (by omega)
          have hcap := H.out.cap
          obtain ⟨c0, -⟩ := (H.out.below HBW.out (fun _ h => h)).get jj hjj
          have hyl := HNM.out ss[jj] (List.getElem_mem hjj)
          have HHA := Lib.hid (fun X => qhash_any ss[jj].name X (by omega))
          have k0 : (0 : Int) ≤ (k : Int) := by omega
          have k1 : (k : Int) < (al.length : Int) := by omega
          have j0 : (0 : Int) ≤ (jj : Int) := by omega
          have j1 : (jj : Int) < (ss.length : Int) := by omega
          have z1 : wr.cell? ⟨g3, 1, none⟩ = some (.slice Af wl cf) := cell_of_row wr g3 1 _ _ _ HZ.out
          have z2 : wr.cell? ⟨g3, 2, none⟩ = some (.int .i64 6) := cell_of_row wr g3 2 _ _ _ HZ.out
          generalize hyn : ss[jj].name = yn at *
          generalize hashS yn = hh at *
          have z1a : ∀ ob : Obj, (wr.drew.alloc ob).cell? ⟨g3, 1, none⟩ = some (.slice Af wl cf) := fun ob => Siv.cell_alloc (w := wr.drew) z1 ob
          have z2a : ∀ ob : Obj, (wr.drew.alloc ob).cell? ⟨g3, 2, none⟩ = some (.int .i64 6) := fun ob => Siv.cell_alloc (w := wr.drew) z2 ob
          have z1b : ∀ ob : Obj, (wr.alloc ob).cell? ⟨g3, 1, none⟩ = some (.slice Af wl cf) := fun ob => Siv.cell_alloc z1 ob
          have z2b : ∀ ob : Obj, (wr.alloc ob).cell? ⟨g3, 2, none⟩ = some (.int .i64 6) := fun ob => Siv.cell_alloc z2 ob
          have hsa : (wr.drew.alloc (.cells #[hv hh] 71)).heap.size = wr.heap.size + 1 := by show (wr.drew.heap.push _).size = _; rw [Array.size_push]; rfl
          have hba : Below wr.heap.size wr (wr.drew.alloc (.cells #[hv hh] 71)) := (drew_below wr).trans ((Below.refl wr.drew.heap.size wr.drew).alloc (Nat.le_refl _) (.cells #[hv hh] 71))
          have hl1 : Src (wr.drew.alloc (.cells #[hv hh] 71)) (fun q => q < (wr.drew.alloc (.cells #[hv hh] 71)).heap.size) (some ⟨wr.heap.size, 0, none⟩) 1 1 (Siv.hsh [hh]) := by
            refine ⟨rfl, (by intro h; cases h), Nat.le_refl _, (by intro ad h _; cases h; show wr.heap.size < _; omega), ?_⟩
            intro ad h j u hj
            cases h
            exact cell_one_new wr.drew _ 71 j u hj
          have HAD := Lib.hid ((Siv.radd_any _ Af wl cf 6 (Siv.setAll 6 (Siv.blank wl) ((al.map (hAt ss)).take k)) (some ⟨wr.heap.size, 0, none⟩) 1 [hh] (wr.drew.alloc (.cells #[hv hh] 71)) (HW.out.lt.below hba (fun _ h => h)) hl1 (by simp) (by omega) (.inr ⟨by have := wl_pos ss; omega, by decide, by decide⟩)).mono fun e w' hx => show ∃ A6 c6, e = .returned (.agg #[.slice A6 wl c6, .int .i64 6]) ∧ Src w' (fun q => wr.heap.size < q ∧ q < w'.heap.size) A6 wl c6 (Siv.wds (Siv.setAll 6 (Siv.blank wl) ((al.map (hAt ss)).take (k + 1)))) ∧ Below wr.heap.size wr w' from by
            obtain ⟨A6, c6, h1, h2, h3⟩ := hx
            refine ⟨A6, c6, h1, ?_, hba.trans (h3.mono hba.size)⟩
            rw [HST.out]
            exact (Src.of_own h2).weak fun q hq => ⟨by have := hq.2.1; omega, hq.2.2⟩)
          have HTZ := Lib.hid (fun (X : World) (hX : Below wr.heap.size wr X) => show Tx X g3 (tabA A' b c' Af wl cf 6) from (hX.block g3 (by omega)).trans HZ.out)
          clear HSW hst hmg hmk hba hl1 hyn hal1 hsa
          go_upto_region 19 with (fail)
          go_region_with (first
            | (go_at_call 26; (with_reducible refine (HHA.out _).mono ?_); rintro e w' ⟨rfl, rfl⟩)
            | (go_at_call 55; (refine (HAD.out).mono ?_); rintro e w6 ⟨A6, c6, rfl, hs6, hb6⟩; have hx6 := HTZ.out w6 hb6; have q1 := cell_of_row w6 g3 1 _ _ _ hx6; have q2 := cell_of_row w6 g3 2 _ _ _ hx6; have f1 := frozen_of_row w6 g3 1 _ _ hx6; have f2 := frozen_of_row w6 g3 2 _ _ hx6; simp only [List.getElem?_toArray, List.getElem?_cons_succ, List.getElem?_cons_zero] at q1 q2; have HS6 := Lib.hid hs6; have HB6 := Lib.hid hb6; clear hx6 hs6 hb6))
          all_goals
            have hz6 := HTZ.out w6 HB6.out
            have HZ7 := Lib.hid (show Tx ((w6.setCell ⟨g3, 1, none⟩ (.slice A6 wl c6)).setCell ⟨g3, 2, none⟩ (.int .i64 6)) g3 (tabA A' b c' A6 wl c6 6) from heap_setCell_same (w6.setCell ⟨g3, 1, none⟩ (.slice A6 wl c6)) g3 2 _ _ _ (heap_setCell_same w6 g3 1 _ _ _ hz6))
            have hW : ∀ q, q ≠ g3 → ((w6.setCell ⟨g3, 1, none⟩ (.slice A6 wl c6)).setCell ⟨g3, 2, none⟩ (.int .i64 6)).heap[q]? = w6.heap[q]? := fun q hq => by
              rw [Below.heap_setCell _ ⟨g3, 2, none⟩ _ q hq, Below.heap_setCell _ ⟨g3, 1, none⟩ _ q hq]
            have hsz7 : ((w6.setCell ⟨g3, 1, none⟩ (.slice A6 wl c6)).setCell ⟨g3, 2, none⟩ (.int .i64 6)).heap.size = w6.heap.size := by simp [World.setCell]
            have hsz6 := HB6.out.size
            have hwr := HBW.out.size
            have HS7 := Lib.hid ((HS6.out.keep (w' := (w6.setCell ⟨g3, 1, none⟩ (.slice A6 wl c6)).setCell ⟨g3, 2, none⟩ (.int .i64 6)) fun q hq _ => hW q (by omega)).weak (Q := fun q => q < ((w6.setCell ⟨g3, 1, none⟩ (.slice A6 wl c6)).setCell ⟨g3, 2, none⟩ (.int .i64 6)).heap.size ∧ q ≠ g3 ∧ w.heap.size < q) fun q hq => ⟨by omega, by omega, by omega⟩)
            have HB7 := Lib.hid (((HBW.out.trans (HB6.out.mono hwr)).setCell (p := ⟨g3, 1, none⟩) (by show w.heap.size ≤ g3; omega) (.slice A6 wl c6)).setCell (p := ⟨g3, 2, none⟩) (by show w.heap.size ≤ g3; omega) (.int .i64 6))
            have HK7 := Lib.hid (show ∀ q, q < wo.heap.size → q ≠ g3 → ((w6.setCell ⟨g3, 1, none⟩ (.slice A6 wl c6)).setCell ⟨g3, 2, none⟩ (.int .i64 6)).heap[q]? = wo.heap[q]? from fun q hq hn => by
              rw [hW q hn, HB6.out.block q (by omega)]
              exact HKP.out q hq hn)
            have hs7 : wo.heap.size ≤ ((w6.setCell ⟨g3, 1, none⟩ (.slice A6 wl c6)).setCell ⟨g3, 2, none⟩ (.int .i64 6)).heap.size := by omega
            clear hz6 hW hsz7 va c0 z1 z2 z1a z2a z1b z2b q1 q2 f1 f2
            go_wp2_with fail
            go_roundw
            case rel => exact ⟨k + 1, A6, c6, hki, by go_num, HZ7.out, HS7.out, HB7.out, HK7.out, hs7⟩
            case measure => simp [intOf]; omega
        · obtain rfl : k = al.length := by omega
          have hxr : Tx wr w.heap.size (tabA none 0 0 none 0 0 0) := (HKP.out w.heap.size (by omega) (by omega)).trans HX5.out
          have u0 := cell_of_row wr w.heap.size 0 _ _ _ hxr
          have u1 := cell_of_row wr w.heap.size 1 _ _ _ hxr
          have u2 := cell_of_row wr w.heap.size 2 _ _ _ hxr
          have v0 := frozen_of_row wr w.heap.size 0 _ _ hxr
          have v1 := frozen_of_row wr w.heap.size 1 _ _ hxr
          have v2 := frozen_of_row wr w.heap.size 2 _ _ hxr
          have y0 := cell_of_row wr g3 0 _ _ _ HZ.out
          have y1 := cell_of_row wr g3 1 _ _ _ HZ.out
          have y2 := cell_of_row wr g3 2 _ _ _ HZ.out
          simp only [List.getElem?_toArray, List.getElem?_cons_succ, List.getElem?_cons_zero] at u0 u1 u2 y0 y1 y2
          have hgn : g3 ≠ w.heap.size := by omega
          clear hxr
          go_upto_region 99 with (fail)
          have hW : ∀ q, q ≠ w.heap.size → (((wr.setCell ⟨w.heap.size, 0, none⟩ (.slice A' b c')).setCell ⟨w.heap.size, 1, none⟩ (.slice Af wl cf)).setCell ⟨w.heap.size, 2, none⟩ (.int .i64 6)).heap[q]? = wr.heap[q]? := fun q hq => by
            rw [Below.heap_setCell _ ⟨w.heap.size, 2, none⟩ _ q hq, Below.heap_setCell _ ⟨w.heap.size, 1, none⟩ _ q hq, Below.heap_setCell _ ⟨w.heap.size, 0, none⟩ _ q hq]
          have hsz7 : (((wr.setCell ⟨w.heap.size, 0, none⟩ (.slice A' b c')).setCell ⟨w.heap.size, 1, none⟩ (.slice Af wl cf)).setCell ⟨w.heap.size, 2, none⟩ (.int .i64 6)).heap.size = wr.heap.size := by simp [World.setCell]
          refine bodyPost_ret (v := .tuple #[.agg (tabA A' (cntS ss) c' Af (wlS ss) cf 6), .int .i64 0]) ?_ rfl ⟨A', c', Af, cf, rfl, ⟨?_, ?_⟩, ?_⟩
          · rw [results_tab rfl, hcn, hwn]
            go_simp
          · rw [hcn]
            refine (HC2.out.keep (w' := ((wr.setCell ⟨w.heap.size, 0, none⟩ (.slice A' b c')).setCell ⟨w.heap.size, 1, none⟩ (.slice Af wl cf)).setCell ⟨w.heap.size, 2, none⟩ (.int .i64 6)) fun q hq hlt => ?_).weak fun q hq => by omega
            rw [hW q (by omega)]
            exact HKP.out q hlt (by omega)
          · have hfl : (filS ss).length = wl := by rw [fil_len, hwn]
            have hfe : Siv.setAll 6 (Siv.blank wl) ((al.map (hAt ss)).take al.length) = filS ss := by
              rw [show al.length = (al.map (hAt ss)).length by simp, List.take_length, HMP.out, ← hwn]
              rfl
            rw [hfl, ← hfe]
            refine (HW.out.keep (w' := ((wr.setCell ⟨w.heap.size, 0, none⟩ (.slice A' b c')).setCell ⟨w.heap.size, 1, none⟩ (.slice Af wl cf)).setCell ⟨w.heap.size, 2, none⟩ (.int .i64 6)) fun q hq hlt => hW q (by omega)).weak fun q hq => by omega
          · exact ((HBW.out.setCell (p := ⟨w.heap.size, 0, none⟩) (Nat.le_refl _) _).setCell (p := ⟨w.heap.size, 1, none⟩) (Nat.le_refl _) _).setCell (p := ⟨w.heap.size, 2, none⟩) (Nat.le_refl _) _
theorem qmake_any (A : Option Addr) (c : Nat) (ss : List Sym) (w : World) (h : Syl w (fun k => k < w.heap.size) A ss.length c ss) (hn : ss.length ≤ 512) (hs : Named ss) :
    Calls Try.prog 38 #[.slice A ss.length c] w fun e w' => ∃ A' c' Af cf, e = .returned (.tuple #[.agg (tabA A' (cntS ss) c' Af (wlS ss) cf 6), .int .i64 0]) ∧ TabV w' (fun k => k < w'.heap.size) A' (cntS ss) c' Af cf (fillS ss (cntS ss) ss.length) (filS ss) ∧ Below w.heap.size w w' :=
  (qmake_own A c ss w h hn hs).mono fun e w' ⟨A', c', Af, cf, h1, h2, h3⟩ => ⟨A', c', Af, cf, h1, h2.weak fun _ hk => hk.2, h3⟩
end Go.Proofs.Ytpcgedngikpnoaa
