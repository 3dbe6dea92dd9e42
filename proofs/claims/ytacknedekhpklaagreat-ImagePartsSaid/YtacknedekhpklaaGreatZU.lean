/-
  The document's runs (written by mk8.py).
-/
import Derived.Test.YtacknedekhpklaaGreatZS
import Derived.Test.YtacknedekhpklaaGreatZL
namespace Go.Proofs.YtacknedekhpklaaGreat
set_option maxRecDepth 100000
set_option linter.unusedSimpArgs false
set_option linter.unusedVariables false
open Go.RowKit

def RNX (w : World) (p : Pl) (x : Im) (a : Addr) (v : Int) (X : World) : Prop := MSX w p x X ∧ X.cell? a = some (.int .i64 v)
theorem RNX.on {w X Y : World} {p : Pl} {x : Im} {a : Addr} {v : Int} (h : RNX w p x a v X) (hb : Below X.heap.size X Y) : RNX w p x a v Y := ⟨h.1.on hb, cell_below hb h.2⟩
set_option maxHeartbeats 8000000 in
theorem druns_any (p : Pl) (x : Im) (w : World) (h : ImIn w (fun k => k < w.heap.size) p x) (hf : Fit x) (hs : ∀ s ∈ x.segs, SegOk s) :
    Calls Tryz.prog 40 #[imV p x] w fun e w' => e = .returned (.bool (runsB x x.init && runsB x x.fini)) ∧ Below w.heap.size w w' := by
  have HS0 := Lib.hid (show MSX w p x (w.alloc (.cells (imA p x) 38)) from ⟨ibox_below _ _ _, Ix.new _ _ _⟩)
  have HSA := Lib.hid (fun (a : Int) (X : World) (hX : Below w.heap.size w X) => dstands_any p x a 8 4 X (h.lt hX) hf.segs hs (by omega) (by omega))
  have HI1 := Lib.hid (fun (X : World) (hX : Below w.heap.size w X) => (h.lt hX).init)
  have HI2 := Lib.hid (fun (X : World) (hX : Below w.heap.size w X) => (h.lt hX).fini)
  have l1 := hf.init
  have l2 := hf.fini
  unfold Long at l1 l2
  generalize hbb : (runsB x x.init && runsB x x.fini) = bb
  have HF := Lib.hid hbb.symm
  clear h hf hs hbb
  obtain ⟨-, -, -, -, -, -, -, -, -, -, -, c11, c12, -, -⟩ := HS0.out.2.cells
  go_enter Tryz.func40, Tryz.ntmps40
  go_upto_region 1 with (fail)
  change Code.wp _ _ _ _ (w.alloc (.cells (imA p x) 38))
  generalize w.alloc (.cells (imA p x) 38) = w1 at *
  have hz1 := HS0.out.2.lt
  go_upto_region 2 with (fail)
  have hb2 := (Below.refl w1.heap.size w1).alloc (Nat.le_refl _) (.cells #[.slice p.ini.1 x.init.length p.ini.2, .slice p.fin.1 x.fini.length p.fin.2] 35)
  have hx2 := Bx.new w1 #[.slice p.ini.1 x.init.length p.ini.2, .slice p.fin.1 x.fini.length p.fin.2] 35
  have HS2 := Lib.hid (HS0.out.on hb2)
  have hz2 : w1.heap.size < (w1.alloc (.cells #[.slice p.ini.1 x.init.length p.ini.2, .slice p.fin.1 x.fini.length p.fin.2] 35)).heap.size := by simp
  change Code.wp _ _ _ _ (w1.alloc (.cells #[.slice p.ini.1 x.init.length p.ini.2, .slice p.fin.1 x.fini.length p.fin.2] 35))
  generalize w1.alloc (.cells #[.slice p.ini.1 x.init.length p.ini.2, .slice p.fin.1 x.fini.length p.fin.2] 35) = w2 at *
  have HX2 := Lib.hid hx2
  have hsb2 := hb2.size
  clear hb2 hx2
  go_loopw [12] (fun t wr => ∃ k : Nat, k ≤ 2 ∧ t = .int .i64 k ∧ Below w2.heap.size w2 wr ∧ (1 ≤ k → runsB x x.init = true) ∧ (2 ≤ k → runsB x x.fini = true)) (fun t _ => 2 - (intOf t).toNat)
  case atStart => exact ⟨0, by omega, rfl, Below.refl _ _, fun h => absurd h (by omega), fun h => absurd h (by omega)⟩
  case round =>
    obtain ⟨k, hk, rfl, hb, hr1, hr2⟩ := hrel
    have HR1 := Lib.hid hr1
    have HR2 := Lib.hid hr2
    have HB := Lib.hid hb
    have HSR := Lib.hid (HS2.out.on hb)
    have HXR := Lib.hid (HX2.out.below hb)
    clear hb hr1 hr2
    by_cases hlt : k < 2
    · have hl : ∃ A c l, wr.cell? ⟨w1.heap.size, k, none⟩ = some (.slice A l.length c) ∧ (∀ X, Below w.heap.size w X → Src X (fun k => k < X.heap.size) A l.length c (ints l)) ∧ l.length ≤ 140737488351232 ∧ (runsB x l = true → (1 ≤ k + 1 → runsB x x.init = true) ∧ (2 ≤ k + 1 → runsB x x.fini = true)) ∧ (runsB x l = false → bb = false) := by
        by_cases hk0 : k = 0
        · subst hk0
          exact ⟨p.ini.1, p.ini.2, x.init, HXR.out.c 0, HI1.out, l1, fun h => ⟨fun _ => h, fun h2 => absurd h2 (by omega)⟩, fun h => by rw [HF.out, h]; rfl⟩
        · obtain rfl : k = 1 := by omega
          exact ⟨p.fin.1, p.fin.2, x.fini, HXR.out.c 1, HI2.out, l2, fun h => ⟨fun _ => HR1.out (by omega), fun _ => h⟩, fun h => by rw [HF.out, h, Bool.and_false]⟩
      obtain ⟨A, c, l, hcell, hsrc, hln, hyes, hno⟩ := hl
      have HSRC := Lib.hid hsrc
      have HYES := Lib.hid hyes
      have HNO := Lib.hid hno
      have HDEF := Lib.hid (show runsB x l = (decide (l.length ≤ 8) && (List.range l.length).all (fun j => standB x.segs (l.getD j 0) 8 4)) by rw [range_all l 0 (fun a => standB x.segs a 8 4)]; rfl)
      clear hsrc hyes hno
      have hk0 : (0 : Int) ≤ (k : Int) := by omega
      have hk1 : (k : Int) < 2 := by omega
      by_cases h8 : l.length ≤ 8
      · have h8' : ¬ (8 : Int) < (l.length : Int) := by omega
        go_wp2_with fail
        go_loopw [5] (fun t wr2 => ∃ j : Nat, j ≤ l.length ∧ t = .int .i64 j ∧ Below w2.heap.size w2 wr2 ∧ (List.range j).all (fun j => standB x.segs (l.getD j 0) 8 4) = true) (fun t _ => l.length - (intOf t).toNat)
        case atStart => exact ⟨0, Nat.zero_le _, rfl, HB.out, rfl⟩
        case round =>
          obtain ⟨j, hj, rfl, hbj, hje⟩ := hrel
          have HJ := Lib.hid hje
          have HBJ := Lib.hid hbj
          have HSJ := Lib.hid (HS2.out.on hbj)
          clear hbj hje
          by_cases hjl : j < l.length
          · obtain ⟨ad, rfl⟩ : ∃ ad, A = some ad := by
              cases A with
              | none => have := ((HSRC.out _ HSJ.out.1).nil rfl).1; omega
              | some ad => exact ⟨ad, rfl⟩
            have hcap := (HSRC.out _ HSJ.out.1).cap
            have hcj : wr.cell? (ad.add j) = some (.int .i64 (l.getD j 0)) := (HSRC.out _ HSJ.out.1).at_ ad rfl j _ (by simp [ints, hjl])
            have HJY := Lib.hid (fun h => rel_step (p := fun j => standB x.segs (l.getD j 0) 8 4) HJ.out h)
            have HJN := Lib.hid (fun h => rel_fail (p := fun j => standB x.segs (l.getD j 0) 8 4) hjl h)
            try simp only at HJY HJN
            have HST := Lib.hid (HSA.out (l.getD j 0))
            generalize l.getD j 0 = v at *
            have HSD := Lib.hid ((show RNX w p x (ad.add j) v wr from ⟨HSJ.out, hcj⟩).on (drew_below wr))
            have hj0 : (0 : Int) ≤ (j : Int) := by omega
            have hj1 : (j : Int) < (l.length : Int) := by omega
            go_upto_region 9 with (fail)
            cases hst : standB x.segs v 8 4
            · have HV := Lib.hid (HNO.out (by rw [HDEF.out, HJN.out hst, Bool.and_false]))
              rw [hst] at HST
              clear HJY HJN hst hcj
              refine wp_region_held_drew (S := RNX w p x (ad.add j) v) (by kernel_rfl) HSD.out (fun hHeld0 => ?_)
              refine take_at (i := 0) (d := 25) (v := imV p x) rfl rfl (by kernel_rfl) (by kernel_rfl) (by kernel_rfl) (fun _ _ _ h => h) (Or.inl ⟨by rfl, ?_⟩) (by assumption) ?_
              · intro X hX; obtain ⟨⟨hBX, hI⟩, hc⟩ := hX; obtain ⟨c0, c1, c2, c3, c4, c5, c6, c7, c8, c9, c10, c11, c12, c13, c14⟩ := hI.cells; go_simp
              (try simp only [Act.put, List.setIfInBounds_toArray, List.set_cons_zero, List.set_cons_succ])
              refine take_at (i := 1) (d := 26) (v := .slice (some ad) l.length c) rfl rfl (by kernel_rfl) (by kernel_rfl) (by kernel_rfl) (fun _ _ _ h => h) (Or.inl ⟨by rfl, ?_⟩) (by assumption) ?_
              · intro X hX; go_simp
              (try simp only [Act.put, List.setIfInBounds_toArray, List.set_cons_zero, List.set_cons_succ])
              refine take_at (i := 2) (d := 27) (v := .int .i64 (j : Int)) rfl rfl (by kernel_rfl) (by kernel_rfl) (by kernel_rfl) (fun _ _ _ h => h) (Or.inl ⟨by rfl, ?_⟩) (by assumption) ?_
              · intro X hX; go_simp
              (try simp only [Act.put, List.setIfInBounds_toArray, List.set_cons_zero, List.set_cons_succ])
              refine take_at (i := 3) (d := 28) (v := .pointer (some (ad.add j))) rfl rfl (by kernel_rfl) (by kernel_rfl) (by kernel_rfl) (fun _ _ _ h => h) (Or.inl ⟨by rfl, ?_⟩) (by assumption) ?_
              · intro X hX; go_simp
              (try simp only [Act.put, List.setIfInBounds_toArray, List.set_cons_zero, List.set_cons_succ])
              refine take_at (i := 4) (d := 29) (v := .int .i64 v) rfl rfl (by kernel_rfl) (by kernel_rfl) (by kernel_rfl) (fun _ _ _ h => h) (Or.inl ⟨by rfl, ?_⟩) (by assumption) ?_
              · intro X hX; obtain ⟨⟨hBX, hI⟩, hc⟩ := hX; go_simp
              (try simp only [Act.put, List.setIfInBounds_toArray, List.set_cons_zero, List.set_cons_succ])
              refine wpAnyH_ready (rs := [5]) (by kernel_rfl) (by simp) ?_
              refine AllReadyH.cons rfl (fun K hK => ?_) AllReadyH.nil
              go_simp
              refine (HST.out _ hHeld0.1.1).mono ?_
              rintro e wq1 ⟨rfl, hq1⟩
              go_simp
              refine hK.out _ _ ((hHeld0).on hq1) (fun hHeld1 => ?_)
              clear hK K
              (try simp only [Act.put, List.setIfInBounds_toArray, List.set_cons_zero, List.set_cons_succ])
              refine take_at (i := 6) (d := 31) (v := .bool true) rfl rfl (by kernel_rfl) (by kernel_rfl) (by kernel_rfl) (fun _ _ _ h => h) (Or.inl ⟨by rfl, ?_⟩) (by assumption) ?_
              · intro X hX; go_simp
              (try simp only [Act.put, List.setIfInBounds_toArray, List.set_cons_zero, List.set_cons_succ])
              refine wpAnyH_done (by kernel_rfl) ?_ _
              go_wp2_with fail
              go_ret
              exact ⟨by rw [HV.out]; rfl, hHeld1.1.1⟩
            · have HV := Lib.hid (HJY.out hst)
              rw [hst] at HST
              clear HJY HJN hst hcj
              refine wp_region_held_drew (S := RNX w p x (ad.add j) v) (by kernel_rfl) HSD.out (fun hHeld0 => ?_)
              refine take_at (i := 0) (d := 25) (v := imV p x) rfl rfl (by kernel_rfl) (by kernel_rfl) (by kernel_rfl) (fun _ _ _ h => h) (Or.inl ⟨by rfl, ?_⟩) (by assumption) ?_
              · intro X hX; obtain ⟨⟨hBX, hI⟩, hc⟩ := hX; obtain ⟨c0, c1, c2, c3, c4, c5, c6, c7, c8, c9, c10, c11, c12, c13, c14⟩ := hI.cells; go_simp
              (try simp only [Act.put, List.setIfInBounds_toArray, List.set_cons_zero, List.set_cons_succ])
              refine take_at (i := 1) (d := 26) (v := .slice (some ad) l.length c) rfl rfl (by kernel_rfl) (by kernel_rfl) (by kernel_rfl) (fun _ _ _ h => h) (Or.inl ⟨by rfl, ?_⟩) (by assumption) ?_
              · intro X hX; go_simp
              (try simp only [Act.put, List.setIfInBounds_toArray, List.set_cons_zero, List.set_cons_succ])
              refine take_at (i := 2) (d := 27) (v := .int .i64 (j : Int)) rfl rfl (by kernel_rfl) (by kernel_rfl) (by kernel_rfl) (fun _ _ _ h => h) (Or.inl ⟨by rfl, ?_⟩) (by assumption) ?_
              · intro X hX; go_simp
              (try simp only [Act.put, List.setIfInBounds_toArray, List.set_cons_zero, List.set_cons_succ])
              refine take_at (i := 3) (d := 28) (v := .pointer (some (ad.add j))) rfl rfl (by kernel_rfl) (by kernel_rfl) (by kernel_rfl) (fun _ _ _ h => h) (Or.inl ⟨by rfl, ?_⟩) (by assumption) ?_
              · intro X hX; go_simp
              (try simp only [Act.put, List.setIfInBounds_toArray, List.set_cons_zero, List.set_cons_succ])
              refine take_at (i := 4) (d := 29) (v := .int .i64 v) rfl rfl (by kernel_rfl) (by kernel_rfl) (by kernel_rfl) (fun _ _ _ h => h) (Or.inl ⟨by rfl, ?_⟩) (by assumption) ?_
              · intro X hX; obtain ⟨⟨hBX, hI⟩, hc⟩ := hX; go_simp
              (try simp only [Act.put, List.setIfInBounds_toArray, List.set_cons_zero, List.set_cons_succ])
              refine wpAnyH_ready (rs := [5]) (by kernel_rfl) (by simp) ?_
              refine AllReadyH.cons rfl (fun K hK => ?_) AllReadyH.nil
              go_simp
              refine (HST.out _ hHeld0.1.1).mono ?_
              rintro e wq1 ⟨rfl, hq1⟩
              go_simp
              refine hK.out _ _ ((hHeld0).on hq1) (fun hHeld1 => ?_)
              clear hK K
              (try simp only [Act.put, List.setIfInBounds_toArray, List.set_cons_zero, List.set_cons_succ])
              refine take_at (i := 6) (d := 31) (v := .bool false) rfl rfl (by kernel_rfl) (by kernel_rfl) (by kernel_rfl) (fun _ _ _ h => h) (Or.inl ⟨by rfl, ?_⟩) (by assumption) ?_
              · intro X hX; go_simp
              (try simp only [Act.put, List.setIfInBounds_toArray, List.set_cons_zero, List.set_cons_succ])
              refine wpAnyH_done (by kernel_rfl) ?_ _
              have HBG := Lib.hid (HBJ.out.trans (((drew_below wr).trans hq1).mono HBJ.out.size))
              go_wp2_with fail
              go_roundw
              case rel => exact ⟨j + 1, by omega, by go_num, HBG.out, HV.out⟩
              case measure => simp [intOf]; omega
          · obtain rfl : j = l.length := by omega
            have HV := Lib.hid (HYES.out (by rw [HDEF.out, HJ.out, decide_eq_true h8]; rfl))
            go_wp2_with fail
            go_roundw
            case rel => exact ⟨k + 1, by omega, by go_num, HBJ.out, HV.out.1, HV.out.2⟩
            case measure => simp [intOf]; omega
      · have h8' : (8 : Int) < (l.length : Int) := by omega
        have HV := Lib.hid (HNO.out (by rw [HDEF.out, decide_eq_false h8]; rfl))
        go_wp2_with fail
        go_ret
        exact ⟨by rw [HV.out]; rfl, HSR.out.1⟩
    · obtain rfl : k = 2 := by omega
      have HV := Lib.hid (show bb = true by rw [HF.out, HR1.out (by omega), HR2.out (by omega)]; rfl)
      go_wp2_with fail
      go_ret
      exact ⟨by rw [HV.out]; rfl, HSR.out.1⟩
end Go.Proofs.YtacknedekhpklaaGreat
