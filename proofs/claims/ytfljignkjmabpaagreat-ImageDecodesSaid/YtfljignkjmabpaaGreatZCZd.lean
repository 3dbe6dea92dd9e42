/- A part of the proof. -/
import Derived.Test.YtfljignkjmabpaaGreatZWA
set_option linter.unusedSimpArgs false
set_option linter.unusedVariables false
namespace Go.Proofs.YtfljignkjmabpaaGreat
set_option maxRecDepth 100000
open Go.RowKit
set_option maxHeartbeats 1000000 in
theorem vnum_bad (B g : Nat) (bs : List UInt8) (A : Option Addr) (c : Nat) (size : Int) (An : Option Addr) (n cn : Nat) (w : World) (h : Wm w B g 0 A c bs) (hs : sized size = false) (hnn : n ≤ 140737488355328) :
  Calls Tryz.prog 71 #[.pointer (some ⟨g, 0, none⟩), .int .i64 size, .slice An n cn] w (WroteM w B g A 1 bs) := by
 have hc0 := h.cell1
 have hf := h.soft 1
 have H := hD h
 have HS := hD hs
 have hat := h.fail 1
 obtain ⟨A1, c1, hw1, hst1⟩ := hat
 have hce := hw1.cell1
 have HW1 := hD hw1
 have HST1 := hD hst1
 clear h hs hw1 hst1
 go_enter Tryz.func71, Tryz.ntmps71
 go_wp2_with (go_at_call 139; refine (sizedR_any size _).mono ?_; rw [HS.out]; rintro e w' ⟨rfl, rfl⟩)
 generalize w.setCell ⟨g, 1, none⟩ (.int .i64 1) = wx at *
 go_loopw [6] (fun i wr => i = .int .i64 0 ∧ wr = wx) (fun i _ => n - (intOf i).toNat)
 case atStart => exact ⟨rfl, rfl⟩
 case round =>
  obtain ⟨rfl, rfl⟩ := hrel
  by_cases hlt : 0 < n
  ·
   go_wp2
   go_end0
   exact ⟨rfl, A1, c1, HW1.out, HST1.out⟩
  ·
   obtain rfl : n = 0 := by omega
   go_wp2
   go_end0
   exact ⟨rfl, A1, c1, HW1.out, HST1.out⟩
theorem vnum_any (B g : Nat) (s : St) (A : Option Addr) (c : Nat) (size : Int) (An : Option Addr) (n cn : Nat) (ns : List Int) (w : World) (h : Wm w B g s.1 A c s.2)
  (hx : Src w (fun k => k ≠ g ∧ row A ≠ some k) An n cn (ints ns)) (hn : s.2.length + 8 * n ≤ 140737488355328) :
  Calls Tryz.prog 71 #[.pointer (some ⟨g, 0, none⟩), .int .i64 size, .slice An n cn] w (WroteM w B g A (wNumsA size ns s).1 (wNumsA size ns s).2) := by
 obtain ⟨e, bs⟩ := s
 simp only at hn
 by_cases he : e = 0
 ·
  subst he
  by_cases hs : sized size = true
  ·
   obtain ⟨k, rfl⟩ : ∃ k : Nat, size = k := ⟨size.toNat, by simp only [sized, decide_eq_true_eq] at hs; omega⟩
   have := vnum_ok B g bs A c k An n cn ns w h hs hx hn
   simpa only [wNumsA, hs, if_true, Int.toNat_natCast] using this
  ·
   have := vnum_bad B g bs A c size An n cn w h (by simpa using hs) (by omega)
   simpa only [wNumsA, if_neg hs, if_true] using this
 ·
  have e1 : wNumsA size ns (e, bs) = (e, bs) := by
   unfold wNumsA
   by_cases hs : sized size = true
   ·
    rw [if_pos hs]; exact wNums_err _ _ _ he
   ·
    rw [if_neg hs, if_neg he]
  rw [e1]
  exact vnum_err B g e bs A c size An n cn w h he (by omega)
set_option maxHeartbeats 2000000 in
theorem vtext_ok (B g : Nat) (bs : List UInt8) (A : Option Addr) (c : Nat) (An : Option Addr) (n cn : Nat) (ss : List (List UInt8)) (w : World) (h : Wm w B g 0 A c bs)
  (hx : Src w (fun k => k ≠ g ∧ row A ≠ some k) An n cn (strs ss)) (hn : bs.length + room ss ≤ 140737488355328) :
  Calls Tryz.prog 70 #[.pointer (some ⟨g, 0, none⟩), .slice An n cn] w (WroteM w B g A (wTexts ss (0, bs)).1 (wTexts ss (0, bs)).2) := by
 obtain ⟨i0, hi, hz0, hz1, hz2⟩ := info_parts Tryz.info_byte
 have hl : ss.length = n := by have := hx.len; simpa [strs] using this
 have hnn : n ≤ 140737488355328 := by have := room_ge ss; omega
 have HL := hD hl
 have H := hD h
 have HX := hD hx
 clear h hx hl
 go_enter Tryz.func70, Tryz.ntmps70
 go_wp2_with fail
 go_loopw [4] (fun i wr => ∃ k : Nat, k ≤ n ∧ i = .int .i64 k ∧ AtM w B g A (wTexts (ss.take k) (0, bs)).1 (wTexts (ss.take k) (0, bs)).2 wr) (fun i _ => n - (intOf i).toNat)
 case atStart => exact ⟨0, Nat.zero_le _, rfl, A, c, H.out, Step.refl _ _ _⟩
 case round =>
  obtain ⟨k, hk, rfl, A2, c2, hw2, hst2⟩ := hrel
  by_cases hlt : k < n
  ·
   have hkl : k < ss.length := by rw [HL.out]; exact hlt
   have hbl := wTexts_len (ss.take k) (0, bs)
   have hbt := room_take ss k hkl
   have hsn := wTexts_snoc ss k hkl (0, bs)
   have hstop := wTexts_stop ss k (0, bs)
   generalize hsk : wTexts (ss.take k) (0, bs) = sk at *
   obtain ⟨ek, bk⟩ := sk
   have hce := hw2.cell1
   have hcb := hw2.cell0
   have hsf := hw2.soft 0
   have hsf1 := hw2.soft 1
   simp only at hce hcb hbl hsf hsf1 hstop
   by_cases he : ek = 0
   ·
    subst he
    obtain ⟨ad, rfl⟩ : ∃ ad, An = some ad := by
     cases An with
     | none => have := (HX.out.nil rfl).1; omega
     | some ad => exact ⟨ad, rfl⟩
    have hcell : wr.cell? (ad.add k) = some (.string ⟨ss[k].toArray⟩) := (HX.out.step hst2).at_ ad rfl k _ (by simp [strs, List.getElem?_eq_getElem hkl])
    have hcap := HX.out.cap
    have HST := hD hst2
    have HW2 := hD hw2
    have hkb : bk.length + 8 + ss[k].length ≤ 140737488355328 := by omega
    clear hstop hst2 hw2 hsk hbl hbt
    by_cases hf : ss[k].length ≤ 4096
    ·
     have e1 : wMeas 2 4096 ss[k] (0, bk) = (0, bk ++ digs ss[k].length 2 ++ ss[k]) := by unfold wMeas; rw [if_pos rfl, if_pos hf]
     have HSN := hD (hsn.trans e1)
     have HD := hD (digits_any 2 ss[k].length wr.drew (by omega))
     clear hsn e1
     go_wp2_with fail
     have h1d := cells_one (digs ss[k].length 2)
     have hsm : ss[k].length ≤ 9223372036854775807 := by omega
     go_region_law (first
      | (go_simp; go_at_call 151; refine HD.out.mono ?_; rintro en w3 ⟨A4, c4, rfl, hown4, hb4⟩; obtain ⟨gd, rfl, hnews⟩ := digs_src hown4 (by omega); have hw3 := HW2.out.below' hb4; have hcb3 := hw3.cell0; have HW3 := hD hw3; have HN := hD hnews; have HB4 := hD hb4; clear hown4 hnews hw3 hb4)
      | (refine step_append_lies _ rfl (.tmp 31) (.tmp 37) 22 rfl B 5 i0 (.int .u8 0) 1 1 Tryz.underlying22 hi hz0 hz1 hz2 rfl (by decide) (.slice A2 bk.length c2) bk.length (cells bk) rfl HW3.out.own ⟨gd, 0, none⟩ 2 c4 (cells (digs ss[k].length 2)) rfl (by rw [cells_len, digs_len]) HN.out h1d (by omega) (by simp only [maxLen]; omega) (by omega) HW3.out.base w3.heap.size rfl ?_; intro g5 c5 w5 hown hgr hat hlt5; obtain ⟨q1, q2⟩ := HW3.out.grownCell hgr _ rfl))
     all_goals
      obtain ⟨hw6, hst6⟩ := HW3.out.put _ rfl 2 (digs_len _ _) hown hgr (atRow' hat)
      have hst := (((HST.out.trans (Step.below (drew_below wr) (row A2))).trans (Step.below HB4.out (row A2))).trans hst6)
      generalize w5.setCell ⟨g, 0, none⟩ (.slice (some ⟨g5, 0, none⟩) (bk.length + 2) c5) = w6 at *
      have e4 : (bk ++ digs ss[k].length 2).length = bk.length + 2 := by rw [List.length_append, digs_len]
      have h60 := hw6.cell0
      rw [e4] at h60
      have hcell6 : w6.cell? (ad.add k) = some (.string ⟨ss[k].toArray⟩) := (HX.out.step hst).at_ ad rfl k _ (by simp [strs, List.getElem?_eq_getElem hkl])
      have HO6 := hD hw6.drew.own
      rw [e4] at HO6
      have HW6 := hD hw6.drew
      have HST6 := hD hst
      have E4 := hD e4
      have hbs := HW6.out.base
      clear hown hgr hat hlt5 q1 q2 hw6 hst6 hst hcb3 hcb hce hcell hsf hsf1 e4
      go_wp2_with fail
      go_region_law (refine step_append_str rfl (.tmp 45) (.tmp 49) 22 9 rfl B 5 i0 Tryz.underlying22 Tryz.underlying9 hi hz0 hz1 hz2 (some ⟨g5, 0, none⟩) (bk.length + 2) c5 (cells (bk ++ digs ss[k].length 2)) rfl HO6.out ss[k] rfl (by omega) hbs ?_; intro A7 c7 w7 hown hgr hat; obtain ⟨q1, q2⟩ := HW6.out.grownCell hgr _ E4.out)
      all_goals
       obtain ⟨hw8, hst8⟩ := HW6.out.put _ E4.out _ rfl hown hgr hat
       have hst := (HST6.out.trans (Step.below (drew_below w6) _)).trans hst8
       generalize w7.setCell ⟨g, 0, none⟩ (.slice A7 (bk.length + 2 + ss[k].length) c7) = w8 at *
       have HW8 := hD hw8
       have HST8 := hD hst
       clear hown hgr hat q1 q2 hw8 hst8 hst
       go_wp2_with fail
       go_roundw
       case rel => exact ⟨k + 1, by omega, by go_num, by rw [HSN.out]; exact ⟨A7, c7, HW8.out, HST8.out⟩⟩
       case measure => simp [intOf]; omega
    ·
     have e1 : wMeas 2 4096 ss[k] (0, bk) = (2, bk) := by unfold wMeas; rw [if_pos rfl, if_neg hf]
     have hfin := wTexts_stop ss (k + 1) (0, bs) (by rw [hsn.trans e1]; exact (by decide : (2 : Int) ≠ 0))
     have HFN := hD (hfin.trans (hsn.trans e1))
     have hfk : 4096 < ss[k].length := by omega
     clear hsn e1 hf hfin
     go_wp2_with fail
     refine bodyPost_ret (results_none rfl _ _ _) rfl ?_
     refine ⟨rfl, ?_⟩
     rw [HFN.out]
     exact AtM.trans HST.out (HW2.out.fail 2)
   ·
    have hb : (ek == 0) = false := by simpa using he
    have hfin := hstop he
    have HFN := hD hfin
    have HST := hD hst2
    have HW2 := hD hw2
    have HE := hD he
    clear hst2 hw2 hfin hstop hsn hsk he hbl hbt
    go_wp2_with fail
    go_end0
    refine ⟨rfl, ?_⟩
    rw [HFN.out]
    exact ⟨A2, c2, HW2.out, HST.out⟩
  ·
   obtain rfl : k = n := by omega
   have HW := hD hw2
   have HST := hD hst2
   clear hw2 hst2
   go_wp2
   go_end0
   have : ss.take k = ss := List.take_of_length_le (by rw [HL.out]; exact Nat.le_refl _)
   have hw := HW.out
   rw [this] at hw
   exact ⟨rfl, A2, c2, hw, HST.out⟩
set_option maxHeartbeats 1000000 in
theorem vtext_err (B g : Nat) (e : Int) (bs : List UInt8) (A : Option Addr) (c : Nat) (An : Option Addr) (n cn : Nat) (w : World) (h : Wm w B g e A c bs) (he : e ≠ 0) (hnn : n ≤ 140737488355328) :
  Calls Tryz.prog 70 #[.pointer (some ⟨g, 0, none⟩), .slice An n cn] w (WroteM w B g A e bs) := by
 have hc0 := h.cell1
 have hb : (e == 0) = false := by simpa using he
 have H := hD h
 clear h he
 go_enter Tryz.func70, Tryz.ntmps70
 go_wp2_with fail
 go_loopw [4] (fun i wr => i = .int .i64 0 ∧ wr = w) (fun i _ => n - (intOf i).toNat)
 case atStart => exact ⟨rfl, rfl⟩
 case round =>
  obtain ⟨rfl, rfl⟩ := hrel
  by_cases hlt : 0 < n
  ·
   go_wp2
   go_end0
   exact ⟨rfl, A, c, H.out, Step.refl _ _ _⟩
  ·
   obtain rfl : n = 0 := by omega
   go_wp2
   go_end0
   exact ⟨rfl, A, c, H.out, Step.refl _ _ _⟩
theorem vtext_any (B g : Nat) (s : St) (A : Option Addr) (c : Nat) (An : Option Addr) (n cn : Nat) (ss : List (List UInt8)) (w : World) (h : Wm w B g s.1 A c s.2)
  (hx : Src w (fun k => k ≠ g ∧ row A ≠ some k) An n cn (strs ss)) (hn : s.2.length + room ss ≤ 140737488355328) :
  Calls Tryz.prog 70 #[.pointer (some ⟨g, 0, none⟩), .slice An n cn] w (WroteM w B g A (wTexts ss s).1 (wTexts ss s).2) := by
 obtain ⟨e, bs⟩ := s
 by_cases he : e = 0
 ·
  subst he
  exact vtext_ok B g bs A c An n cn ss w h hx hn
 ·
  have hl : ss.length = n := by have := hx.len; simpa [strs] using this
  rw [wTexts_err ss (e, bs) he]
  exact vtext_err B g e bs A c An n cn w h he (by have := room_ge ss; omega)
end Go.Proofs.YtfljignkjmabpaaGreat
