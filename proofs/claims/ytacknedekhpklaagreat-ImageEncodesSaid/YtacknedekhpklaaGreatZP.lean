/-
  The document's runs (written by mk8.py).
  The document's segments.
-/
import Derived.Test.YtacknedekhpklaaGreatZS
import Derived.Test.YtacknedekhpklaaGreatZL
import Derived.Test.YtacknedekhpklaaGreatZR
import Derived.Test.YtacknedekhpklaaGreatZI
namespace Go.Proofs.YtacknedekhpklaaGreat
set_option maxRecDepth 100000
set_option linter.unusedSimpArgs false
set_option linter.unusedVariables false
open Go.RowKit

def RNX (w : World) (p : Pl) (x : Im) (a : Addr) (v : Int) (X : World) : Prop := MSX w p x X ∧ X.cell? a = some (.int .i64 v)
theorem RNX.on {w X Y : World} {p : Pl} {x : Im} {a : Addr} {v : Int} (h : RNX w p x a v X) (hb : Below X.heap.size X Y) : RNX w p x a v Y := ⟨h.1.on hb, cell_below hb h.2⟩
set_option maxHeartbeats 8000000 in
theorem druns_any (p : Pl) (x : Im) (w : World) (h : ImIn w (fun k => k < w.heap.size) p x) (hf : Fit x) (hs : ∀ s ∈ x.segs, SegOk s) :
    Calls Tryz.prog 40 #[imV p x] w fun e w' => e = .returned (.bool (runsB x x.init && runsB x x.fini)) ∧ Below w.heap.size w w' := by
  have HS0 := Lib.hid (show MSX w p x (w.alloc (.cells (imA p x) 38)) from ⟨ibox_below _ _ _, Ix.new _ _ _⟩)
  have HSA := Lib.hid (fun (a : Int) (X : World) (hX : Below w.heap.size w X) => dstands_any p x a 8 4 X (h.lt hX) hf.segs hs (by omega) (by omega))
  have HI1 := Lib.hid (fun (X : World) (hX : Below w.heap.size w X) => (h.lt hX).init)
  have HI2 := Lib.hid (fun (X : World) (hX : Below w.heap.size w X) => (h.lt hX).fini)
  have l1 := hf.init
  have l2 := hf.fini
  unfold Long at l1 l2
  generalize hbb : (runsB x x.init && runsB x x.fini) = bb
  have HF := Lib.hid hbb.symm
  clear h hf hs hbb
  obtain ⟨-, -, -, -, -, -, -, -, -, -, -, c11, c12, -, -⟩ := HS0.out.2.cells
  go_enter Tryz.func40, Tryz.ntmps40
  go_upto_region 1 with (fail)
  change Code.wp _ _ _ _ (w.alloc (.cells (imA p x) 38))
  generalize w.alloc (.cells (imA p x) 38) = w1 at *
  have hz1 := HS0.out.2.lt
  go_upto_region 2 with (fail)
  have hb2 := (Below.refl w1.heap.size w1).alloc (Nat.le_refl _) (.cells #[.slice p.ini.1 x.init.length p.ini.2, .slice p.fin.1 x.fini.length p.fin.2] 35)
  have hx2 := Bx.new w1 #[.slice p.ini.1 x.init.length p.ini.2, .slice p.fin.1 x.fini.length p.fin.2] 35
  have HS2 := Lib.hid (HS0.out.on hb2)
  have hz2 : w1.heap.size < (w1.alloc (.cells #[.slice p.ini.1 x.init.length p.ini.2, .slice p.fin.1 x.fini.length p.fin.2] 35)).heap.size := by simp
  change Code.wp _ _ _ _ (w1.alloc (.cells #[.slice p.ini.1 x.init.length p.ini.2, .slice p.fin.1 x.fini.length p.fin.2] 35))
  generalize w1.alloc (.cells #[.slice p.ini.1 x.init.length p.ini.2, .slice p.fin.1 x.fini.length p.fin.2] 35) = w2 at *
  have HX2 := Lib.hid hx2
  have hsb2 := hb2.size
  clear hb2 hx2
  go_loopw [12] (fun t wr => ∃ k : Nat, k ≤ 2 ∧ t = .int .i64 k ∧ Below w2.heap.size w2 wr ∧ (1 ≤ k → runsB x x.init = true) ∧ (2 ≤ k → runsB x x.fini = true)) (fun t _ => 2 - (intOf t).toNat)
  case atStart => exact ⟨0, by omega, rfl, Below.refl _ _, fun h => absurd h (by omega), fun h => absurd h (by omega)⟩
  case round =>
    obtain ⟨k, hk, rfl, hb, hr1, hr2⟩ := hrel
    have HR1 := Lib.hid hr1
    have HR2 := Lib.hid hr2
    have HB := Lib.hid hb
    have HSR := Lib.hid (HS2.out.on hb)
    have HXR := Lib.hid (HX2.out.below hb)
    clear hb hr1 hr2
    by_cases hlt : k < 2
    · have hl : ∃ A c l, wr.cell? ⟨w1.heap.size, k, none⟩ = some (.slice A l.length c) ∧ (∀ X, Below w.heap.size w X → Src X (fun k => k < X.heap.size) A l.length c (ints l)) ∧ l.length ≤ 140737488351232 ∧ (runsB x l = true → (1 ≤ k + 1 → runsB x x.init = true) ∧ (2 ≤ k + 1 → runsB x x.fini = true)) ∧ (runsB x l = false → bb = false) := by
        by_cases hk0 : k = 0
        · subst hk0
          exact ⟨p.ini.1, p.ini.2, x.init, HXR.out.c 0, HI1.out, l1, fun h => ⟨fun _ => h, fun h2 => absurd h2 (by omega)⟩, fun h => by rw [HF.out, h]; rfl⟩
        · obtain rfl : k = 1 := by omega
          exact ⟨p.fin.1, p.fin.2, x.fini, HXR.out.c 1, HI2.out, l2, fun h => ⟨fun _ => HR1.out (by omega), fun _ => h⟩, fun h => by rw [HF.out, h, Bool.and_false]⟩
      obtain ⟨A, c, l, hcell, hsrc, hln, hyes, hno⟩ := hl
      have HSRC := Lib.hid hsrc
      have HYES := Lib.hid hyes
      have HNO := Lib.hid hno
      have HDEF := Lib.hid (show runsB x l = (decide (l.length ≤ 8) && (List.range l.length).all (fun j => standB x.segs (l.getD j 0) 8 4)) by rw [range_all l 0 (fun a => standB x.segs a 8 4)]; rfl)
      clear hsrc hyes hno
      have hk0 : (0 : Int) ≤ (k : Int) := by omega
      have hk1 : (k : Int) < 2 := by omega
      by_cases h8 : l.length ≤ 8
      · have h8' : ¬ (8 : Int) < (l.length : Int) := by omega
        go_wp2_with fail
        go_loopw [5] (fun t wr2 => ∃ j : Nat, j ≤ l.length ∧ t = .int .i64 j ∧ Below w2.heap.size w2 wr2 ∧ (List.range j).all (fun j => standB x.segs (l.getD j 0) 8 4) = true) (fun t _ => l.length - (intOf t).toNat)
        case atStart => exact ⟨0, Nat.zero_le _, rfl, HB.out, rfl⟩
        case round =>
          obtain ⟨j, hj, rfl, hbj, hje⟩ := hrel
          have HJ := Lib.hid hje
          have HBJ := Lib.hid hbj
          have HSJ := Lib.hid (HS2.out.on hbj)
          clear hbj hje
          by_cases hjl : j < l.length
          · obtain ⟨ad, rfl⟩ : ∃ ad, A = some ad := by
              cases A with
              | none => have := ((HSRC.out _ HSJ.out.1).nil rfl).1; omega
              | some ad => exact ⟨ad, rfl⟩
            have hcap := (HSRC.out _ HSJ.out.1).cap
            have hcj : wr.cell? (ad.add j) = some (.int .i64 (l.getD j 0)) := (HSRC.out _ HSJ.out.1).at_ ad rfl j _ (by simp [ints, hjl])
            have HJY := Lib.hid (fun h => rel_step (p := fun j => standB x.segs (l.getD j 0) 8 4) HJ.out h)
            have HJN := Lib.hid (fun h => rel_fail (p := fun j => standB x.segs (l.getD j 0) 8 4) hjl h)
            try simp only at HJY HJN
            have HST := Lib.hid (HSA.out (l.getD j 0))
            generalize l.getD j 0 = v at *
            have HSD := Lib.hid ((show RNX w p x (ad.add j) v wr from ⟨HSJ.out, hcj⟩).on (drew_below wr))
            have hj0 : (0 : Int) ≤ (j : Int) := by omega
            have hj1 : (j : Int) < (l.length : Int) := by omega
            go_upto_region 9 with (fail)
            cases hst : standB x.segs v 8 4
            · have HV := Lib.hid (HNO.out (by rw [HDEF.out, HJN.out hst, Bool.and_false]))
              rw [hst] at HST
              clear HJY HJN hst hcj
              refine wp_region_held_drew (S := RNX w p x (ad.add j) v) (by kernel_rfl) HSD.out (fun hHeld0 => ?_)
              refine take_at (i := 0) (d := 25) (v := imV p x) rfl rfl (by kernel_rfl) (by kernel_rfl) (by kernel_rfl) (fun _ _ _ h => h) (Or.inl ⟨by rfl, ?_⟩) (by assumption) ?_
              · intro X hX; obtain ⟨⟨hBX, hI⟩, hc⟩ := hX; obtain ⟨c0, c1, c2, c3, c4, c5, c6, c7, c8, c9, c10, c11, c12, c13, c14⟩ := hI.cells; go_simp
              (try simp only [Act.put, List.setIfInBounds_toArray, List.set_cons_zero, List.set_cons_succ])
              refine take_at (i := 1) (d := 26) (v := .slice (some ad) l.length c) rfl rfl (by kernel_rfl) (by kernel_rfl) (by kernel_rfl) (fun _ _ _ h => h) (Or.inl ⟨by rfl, ?_⟩) (by assumption) ?_
              · intro X hX; go_simp
              (try simp only [Act.put, List.setIfInBounds_toArray, List.set_cons_zero, List.set_cons_succ])
              refine take_at (i := 2) (d := 27) (v := .int .i64 (j : Int)) rfl rfl (by kernel_rfl) (by kernel_rfl) (by kernel_rfl) (fun _ _ _ h => h) (Or.inl ⟨by rfl, ?_⟩) (by assumption) ?_
              · intro X hX; go_simp
              (try simp only [Act.put, List.setIfInBounds_toArray, List.set_cons_zero, List.set_cons_succ])
              refine take_at (i := 3) (d := 28) (v := .pointer (some (ad.add j))) rfl rfl (by kernel_rfl) (by kernel_rfl) (by kernel_rfl) (fun _ _ _ h => h) (Or.inl ⟨by rfl, ?_⟩) (by assumption) ?_
              · intro X hX; go_simp
              (try simp only [Act.put, List.setIfInBounds_toArray, List.set_cons_zero, List.set_cons_succ])
              refine take_at (i := 4) (d := 29) (v := .int .i64 v) rfl rfl (by kernel_rfl) (by kernel_rfl) (by kernel_rfl) (fun _ _ _ h => h) (Or.inl ⟨by rfl, ?_⟩) (by assumption) ?_
              · intro X hX; obtain ⟨⟨hBX, hI⟩, hc⟩ := hX; go_simp
              (try simp only [Act.put, List.setIfInBounds_toArray, List.set_cons_zero, List.set_cons_succ])
              refine wpAnyH_ready (rs := [5]) (by kernel_rfl) (by simp) ?_
              refine AllReadyH.cons rfl (fun K hK => ?_) AllReadyH.nil
              go_simp
              refine (HST.out _ hHeld0.1.1).mono ?_
              rintro e wq1 ⟨rfl, hq1⟩
              go_simp
              refine hK.out _ _ ((hHeld0).on hq1) (fun hHeld1 => ?_)
              clear hK K
              (try simp only [Act.put, List.setIfInBounds_toArray, List.set_cons_zero, List.set_cons_succ])
              refine take_at (i := 6) (d := 31) (v := .bool true) rfl rfl (by kernel_rfl) (by kernel_rfl) (by kernel_rfl) (fun _ _ _ h => h) (Or.inl ⟨by rfl, ?_⟩) (by assumption) ?_
              · intro X hX; go_simp
              (try simp only [Act.put, List.setIfInBounds_toArray, List.set_cons_zero, List.set_cons_succ])
              refine wpAnyH_done (by kernel_rfl) ?_ _
              go_wp2_with fail
              go_ret
              exact ⟨by rw [HV.out]; rfl, hHeld1.1.1⟩
            · have HV := Lib.hid (HJY.out hst)
              rw [hst] at HST
              clear HJY HJN hst hcj
              refine wp_region_held_drew (S := RNX w p x (ad.add j) v) (by kernel_rfl) HSD.out (fun hHeld0 => ?_)
              refine take_at (i := 0) (d := 25) (v := imV p x) rfl rfl (by kernel_rfl) (by kernel_rfl) (by kernel_rfl) (fun _ _ _ h => h) (Or.inl ⟨by rfl, ?_⟩) (by assumption) ?_
              · intro X hX; obtain ⟨⟨hBX, hI⟩, hc⟩ := hX; obtain ⟨c0, c1, c2, c3, c4, c5, c6, c7, c8, c9, c10, c11, c12, c13, c14⟩ := hI.cells; go_simp
              (try simp only [Act.put, List.setIfInBounds_toArray, List.set_cons_zero, List.set_cons_succ])
              refine take_at (i := 1) (d := 26) (v := .slice (some ad) l.length c) rfl rfl (by kernel_rfl) (by kernel_rfl) (by kernel_rfl) (fun _ _ _ h => h) (Or.inl ⟨by rfl, ?_⟩) (by assumption) ?_
              · intro X hX; go_simp
              (try simp only [Act.put, List.setIfInBounds_toArray, List.set_cons_zero, List.set_cons_succ])
              refine take_at (i := 2) (d := 27) (v := .int .i64 (j : Int)) rfl rfl (by kernel_rfl) (by kernel_rfl) (by kernel_rfl) (fun _ _ _ h => h) (Or.inl ⟨by rfl, ?_⟩) (by assumption) ?_
              · intro X hX; go_simp
              (try simp only [Act.put, List.setIfInBounds_toArray, List.set_cons_zero, List.set_cons_succ])
              refine take_at (i := 3) (d := 28) (v := .pointer (some (ad.add j))) rfl rfl (by kernel_rfl) (by kernel_rfl) (by kernel_rfl) (fun _ _ _ h => h) (Or.inl ⟨by rfl, ?_⟩) (by assumption) ?_
              · intro X hX; go_simp
              (try simp only [Act.put, List.setIfInBounds_toArray, List.set_cons_zero, List.set_cons_succ])
              refine take_at (i := 4) (d := 29) (v := .int .i64 v) rfl rfl (by kernel_rfl) (by kernel_rfl) (by kernel_rfl) (fun _ _ _ h => h) (Or.inl ⟨by rfl, ?_⟩) (by assumption) ?_
              · intro X hX; obtain ⟨⟨hBX, hI⟩, hc⟩ := hX; go_simp
              (try simp only [Act.put, List.setIfInBounds_toArray, List.set_cons_zero, List.set_cons_succ])
              refine wpAnyH_ready (rs := [5]) (by kernel_rfl) (by simp) ?_
              refine AllReadyH.cons rfl (fun K hK => ?_) AllReadyH.nil
              go_simp
              refine (HST.out _ hHeld0.1.1).mono ?_
              rintro e wq1 ⟨rfl, hq1⟩
              go_simp
              refine hK.out _ _ ((hHeld0).on hq1) (fun hHeld1 => ?_)
              clear hK K
              (try simp only [Act.put, List.setIfInBounds_toArray, List.set_cons_zero, List.set_cons_succ])
              refine take_at (i := 6) (d := 31) (v := .bool false) rfl rfl (by kernel_rfl) (by kernel_rfl) (by kernel_rfl) (fun _ _ _ h => h) (Or.inl ⟨by rfl, ?_⟩) (by assumption) ?_
              · intro X hX; go_simp
              (try simp only [Act.put, List.setIfInBounds_toArray, List.set_cons_zero, List.set_cons_succ])
              refine wpAnyH_done (by kernel_rfl) ?_ _
              have HBG := Lib.hid (HBJ.out.trans (((drew_below wr).trans hq1).mono HBJ.out.size))
              go_wp2_with fail
              go_roundw
              case rel => exact ⟨j + 1, by omega, by go_num, HBG.out, HV.out⟩
              case measure => simp [intOf]; omega
          · obtain rfl : j = l.length := by omega
            have HV := Lib.hid (HYES.out (by rw [HDEF.out, HJ.out, decide_eq_true h8]; rfl))
            go_wp2_with fail
            go_roundw
            case rel => exact ⟨k + 1, by omega, by go_num, HBJ.out, HV.out.1, HV.out.2⟩
            case measure => simp [intOf]; omega
      · have h8' : (8 : Int) < (l.length : Int) := by omega
        have HV := Lib.hid (HNO.out (by rw [HDEF.out, decide_eq_false h8]; rfl))
        go_wp2_with fail
        go_ret
        exact ⟨by rw [HV.out]; rfl, HSR.out.1⟩
    · obtain rfl : k = 2 := by omega
      have HV := Lib.hid (show bb = true by rw [HF.out, HR1.out (by omega), HR2.out (by omega)]; rfl)
      go_wp2_with fail
      go_ret
      exact ⟨by rw [HV.out]; rfl, HSR.out.1⟩
end Go.Proofs.YtacknedekhpklaaGreat

namespace Go.Proofs.YtacknedekhpklaaGreat
set_option maxRecDepth 100000
set_option linter.unusedSimpArgs false
set_option linter.unusedVariables false
open Go.RowKit

theorem tkP {P : Program} {md : Region.Mode} {ops : Array Oper} {Q : Exit → Act → World → Prop} {S : World → Prop} {oi : Oper} {fuel : Nat} {listed : Array Bool} {a : Act} {w : World} (i : Nat) (d : Tmp) (v : Value) (h : ∀ w, S w → (execOp a.eval oi).run P w = .ok (.value v) w)
    (hk : wpAnyH P md ops Q S fuel (listed.setIfInBounds i true) (a.put (some d) v) w) (hi : ops[i]? = some oi := by exact rfl) (hd : oi.dst = some d := by exact rfl) (hs : Region.noSelect ops = true := by kernel_rfl) (hf : Region.free md ops listed i = true := by kernel_rfl)
    (hr : (Region.ready md ops listed).contains i = true := by kernel_rfl) (hQ : ∀ c a w, Q (.panic c) (a.put (some d) v) w → Q (.panic c) a w := by exact fun _ _ _ h => h) (hg : Region.wanted oi (yielded ops a.tmps) = true := by rfl) (hS : S w := by assumption) : wpAnyH P md ops Q S (fuel + 1) listed a w :=
  take_at hi hd hs hf hr hQ (.inl ⟨hg, h⟩) hS hk
theorem tnP {P : Program} {md : Region.Mode} {ops : Array Oper} {Q : Exit → Act → World → Prop} {S : World → Prop} {oi : Oper} {fuel : Nat} {listed : Array Bool} {a : Act} {w : World} (i : Nat) (d : Tmp)
    (hk : wpAnyH P md ops Q S fuel (listed.setIfInBounds i true) (a.put (some d) undef) w) (hi : ops[i]? = some oi := by exact rfl) (hd : oi.dst = some d := by exact rfl) (hs : Region.noSelect ops = true := by kernel_rfl) (hf : Region.free md ops listed i = true := by kernel_rfl)
    (hr : (Region.ready md ops listed).contains i = true := by kernel_rfl) (hQ : ∀ c a w, Q (.panic c) (a.put (some d) undef) w → Q (.panic c) a w := by exact fun _ _ _ h => h) (hg : Region.wanted oi (yielded ops a.tmps) = false := by rfl) (hS : S w := by assumption) : wpAnyH P md ops Q S (fuel + 1) listed a w :=
  take_at hi hd hs hf hr hQ (.inr ⟨hg, rfl⟩) hS hk
theorem z1P {α : Type} (xs : List α) (i : Nat) (a : α) : xs.toArray.setIfInBounds i a = (xs.set i a).toArray := List.setIfInBounds_toArray ..
theorem z2P {α : Type} (a : α) (l : List α) (b : α) : (a :: l).set 0 b = b :: l := rfl
theorem z3P {α : Type} (a : α) (l : List α) (n : Nat) (b : α) : (a :: l).set (n + 1) b = a :: l.set n b := rfl
theorem all_step' {p : Nat → Bool} {k : Nat} (h : (List.range k).all p = true) (h1 : p k = true) : (List.range (k + 1)).all p = true := by
  rw [List.range_succ, List.all_append, h]
  simp [h1]
theorem all_fail' {p : Nat → Bool} {k n : Nat} (hk : k < n) (h : p k = false) : (List.range n).all p = false := List.all_eq_false.2 ⟨k, List.mem_range.2 hk, by simp [h]⟩
/-- Is a segment right, and does it begin behind the one before it? -/
def segAt (l : List Sg) (k : Nat) : Bool := segB (l.getD k noSg) && decide (lastI (fun k => upI ((l.getD k noSg).at_ + (l.getD k noSg).size)) k ≤ (l.getD k noSg).at_)
theorem segs_eq (l : List Sg) : segsB l = (withB (l.length : Int) 1 8 && (List.range l.length).all (segAt l)) := rfl
theorem segB_no {s : Sg} (h : segB s = false) : s.at_ < 0 ∨ (0 ≤ s.at_ ∧ 65536 < s.at_) ∨ (0 ≤ s.at_ ∧ s.at_ ≤ 65536 ∧ ¬ s.at_ % 64 = 0) ∨ (0 ≤ s.at_ ∧ s.at_ ≤ 65536 ∧ s.at_ % 64 = 0 ∧ s.size < 1) ∨ (0 ≤ s.at_ ∧ s.at_ ≤ 65536 ∧ s.at_ % 64 = 0 ∧ 1 ≤ s.size ∧ 65536 < s.size) ∨
    (0 ≤ s.at_ ∧ s.at_ ≤ 65536 ∧ s.at_ % 64 = 0 ∧ 1 ≤ s.size ∧ s.size ≤ 65536 ∧ 65536 < s.at_ + s.size) ∨ (0 ≤ s.at_ ∧ s.at_ ≤ 65536 ∧ s.at_ % 64 = 0 ∧ 1 ≤ s.size ∧ s.size ≤ 65536 ∧ s.at_ + s.size ≤ 65536 ∧ s.size < (s.bs.length : Int)) ∨
    (0 ≤ s.at_ ∧ s.at_ ≤ 65536 ∧ s.at_ % 64 = 0 ∧ 1 ≤ s.size ∧ s.size ≤ 65536 ∧ s.at_ + s.size ≤ 65536 ∧ (s.bs.length : Int) ≤ s.size ∧ s.perm < 0) ∨
    (0 ≤ s.at_ ∧ s.at_ ≤ 65536 ∧ s.at_ % 64 = 0 ∧ 1 ≤ s.size ∧ s.size ≤ 65536 ∧ s.at_ + s.size ≤ 65536 ∧ (s.bs.length : Int) ≤ s.size ∧ 0 ≤ s.perm ∧ 7 < s.perm) := by
  by_cases a1 : s.at_ < 0
  · exact .inl a1
  have a1 : 0 ≤ s.at_ := by omega
  by_cases a2 : 65536 < s.at_
  · exact .inr (.inl ⟨a1, a2⟩)
  have a2 : s.at_ ≤ 65536 := by omega
  by_cases a3 : ¬ s.at_ % 64 = 0
  · exact .inr (.inr (.inl ⟨a1, a2, a3⟩))
  have a3 : s.at_ % 64 = 0 := by omega
  by_cases a4 : s.size < 1
  · exact .inr (.inr (.inr (.inl ⟨a1, a2, a3, a4⟩)))
  have a4 : 1 ≤ s.size := by omega
  by_cases a5 : 65536 < s.size
  · exact .inr (.inr (.inr (.inr (.inl ⟨a1, a2, a3, a4, a5⟩))))
  have a5 : s.size ≤ 65536 := by omega
  by_cases a6 : 65536 < s.at_ + s.size
  · exact .inr (.inr (.inr (.inr (.inr (.inl ⟨a1, a2, a3, a4, a5, a6⟩)))))
  have a6 : s.at_ + s.size ≤ 65536 := by omega
  by_cases a7 : s.size < (s.bs.length : Int)
  · exact .inr (.inr (.inr (.inr (.inr (.inr (.inl ⟨a1, a2, a3, a4, a5, a6, a7⟩))))))
  have a7 : (s.bs.length : Int) ≤ s.size := by omega
  by_cases a8 : s.perm < 0
  · exact .inr (.inr (.inr (.inr (.inr (.inr (.inr (.inl ⟨a1, a2, a3, a4, a5, a6, a7, a8⟩)))))))
  have a8 : 0 ≤ s.perm := by omega
  by_cases a9 : 7 < s.perm
  · exact .inr (.inr (.inr (.inr (.inr (.inr (.inr (.inr ⟨a1, a2, a3, a4, a5, a6, a7, a8, a9⟩)))))))
  exfalso
  have a9 : s.perm ≤ 7 := by omega
  have : segB s = true := by
    unfold segB withB
    simp only [Bool.and_eq_true, decide_eq_true_eq, beq_iff_eq]
    exact ⟨⟨⟨⟨⟨a1, a2⟩, a3⟩, a4, by omega⟩, a7⟩, a8, a9⟩
  rw [this] at h
  cases h
theorem segB_yes {s : Sg} (h : segB s = true) : 0 ≤ s.at_ ∧ s.at_ ≤ 65536 ∧ s.at_ % 64 = 0 ∧ 1 ≤ s.size ∧ s.size ≤ 65536 ∧ s.at_ + s.size ≤ 65536 ∧ (s.bs.length : Int) ≤ s.size ∧ 0 ≤ s.perm ∧ s.perm ≤ 7 := by
  unfold segB withB at h
  simp only [Bool.and_eq_true, decide_eq_true_eq, beq_iff_eq] at h
  omega
set_option maxHeartbeats 8000000 in
theorem dsegs_any (p : Pl) (x : Im) (w : World) (h : ImIn w (fun k => k < w.heap.size) p x) (hf : Fit x) :
    Calls Tryz.prog 35 #[imV p x] w fun e w' => e = .returned (.bool (segsB x.segs)) ∧ Below w.heap.size w w' := by
  obtain ⟨⟨sga, sgc⟩, nd, rp, sy, bk, fw, rl, sl, ini, fin, tl⟩ := p
  have hB := ibox_below w ⟨⟨sga, sgc⟩, nd, rp, sy, bk, fw, rl, sl, ini, fin, tl⟩ x
  have hX := Ix.new w ⟨⟨sga, sgc⟩, nd, rp, sy, bk, fw, rl, sl, ini, fin, tl⟩ x
  have H := Lib.hid (fun (X : World) (hX : Below w.heap.size w X) => (h.lt hX).segs.ex)
  have HN := Lib.hid (show sga = none → x.segs.length = 0 from fun h0 => by
    obtain ⟨B, h1, _⟩ := h.segs.ex
    exact (h1.nil h0).1)
  have HFI := Lib.hid hf.seg
  have l1 := hf.segs
  unfold Long at l1
  generalize hbb : segsB x.segs = bb
  have HF := Lib.hid (hbb.symm.trans (segs_eq x.segs))
  have HB := Lib.hid hB
  have HX := Lib.hid hX
  obtain ⟨-, -, c2, -⟩ := hX.cells
  simp only at c2
  clear h hf hbb hB hX
  go_enter Tryz.func35, Tryz.ntmps35
  go_upto_region 1 with (fail)
  change Code.wp _ _ _ _ (w.alloc (.cells (imA ⟨⟨sga, sgc⟩, nd, rp, sy, bk, fw, rl, sl, ini, fin, tl⟩ x) 38))
  generalize w.alloc (.cells (imA ⟨⟨sga, sgc⟩, nd, rp, sy, bk, fw, rl, sl, ini, fin, tl⟩ x) 38) = w1 at *
  by_cases g1 : (x.segs.length : Int) < 1
  · have HV := Lib.hid (show bb = false by rw [HF.out]; unfold withB; rw [decide_eq_false (show ¬ (1 : Int) ≤ (x.segs.length : Int) by omega)]; rfl)
    go_wp2_with fail
    go_ret
    exact ⟨by rw [HV.out]; rfl, HB.out⟩
  by_cases g2 : (8 : Int) < (x.segs.length : Int)
  · have HV := Lib.hid (show bb = false by rw [HF.out]; unfold withB; rw [decide_eq_false (show ¬ (x.segs.length : Int) ≤ 8 by omega), Bool.and_false]; rfl)
    go_wp2_with fail
    go_ret
    exact ⟨by rw [HV.out]; rfl, HB.out⟩
  have HF2 := Lib.hid (show bb = (List.range x.segs.length).all (segAt x.segs) by rw [HF.out]; unfold withB; rw [decide_eq_true (show (1 : Int) ≤ (x.segs.length : Int) by omega), decide_eq_true (show (x.segs.length : Int) ≤ 8 by omega)]; rfl)
  clear HF
  go_upto_region 3 with (fail)
  go_wp2_with fail
  go_loopw [3] (fun t wr => ∃ k : Nat, k ≤ x.segs.length ∧ t = .int .i64 k ∧ Below w1.heap.size w1 wr ∧ (List.range k).all (segAt x.segs) = true) (fun t _ => x.segs.length - (intOf t).toNat)
  case atStart => exact ⟨0, Nat.zero_le _, rfl, Below.refl _ _, rfl⟩
  case round =>
    obtain ⟨k, hk, rfl, hb, he⟩ := hrel
    have HE := Lib.hid he
    have HBR := Lib.hid hb
    have HB0 := Lib.hid (HB.out.trans (hb.mono HB.out.size))
    have f2 := cell_below hb c2
    clear he hb
    by_cases hlt : k < x.segs.length
    · obtain ⟨ad, rfl⟩ : ∃ ad, sga = some ad := by
        cases sga with
        | none => have := HN.out rfl; omega
        | some ad => exact ⟨ad, rfl⟩
      obtain ⟨B, hE, -⟩ := H.out wr HB0.out
      have hcap := hE.cap
      obtain ⟨b, o, rfl⟩ := hE.plain (by omega) rfl
      have hg := hE.get k hlt
      have d0 := hg 0 _ rfl
      have d1 := hg 1 _ rfl
      have d2 := hg 2 _ rfl
      have d3 := hg 3 _ rfl
      simp only [Nat.add_zero] at d0
      have HSB := Lib.hid (show segAt x.segs k = (segB (x.segs.getD k noSg) && decide (lastI (fun k => upI ((x.segs.getD k noSg).at_ + (x.segs.getD k noSg).size)) k ≤ (x.segs.getD k noSg).at_)) from rfl)
      have HY := Lib.hid (fun h => all_step' (p := segAt x.segs) HE.out h)
      have HNO := Lib.hid (fun h => HF2.out.trans (all_fail' (p := segAt x.segs) hlt h))
      have hfs := HFI.out _ (getD_mem (d := noSg) hlt)
      have HPV := Lib.hid (show ∀ j, k = j + 1 → (∃ pl, ∀ i u, (sgA (x.segs.getD j noSg) pl)[i]? = some u → wr.cell? ⟨b, o + j * 4 + i, none⟩ = some u) ∧ SegOk (x.segs.getD j noSg) ∧ lastI (fun k => upI ((x.segs.getD k noSg).at_ + (x.segs.getD k noSg).size)) k = upI ((x.segs.getD j noSg).at_ + (x.segs.getD j noSg).size) from fun j hj => by
        refine ⟨⟨B j, hE.get j (by omega)⟩, ?_, by rw [hj]; rfl⟩
        have := List.all_eq_true.1 HE.out j (List.mem_range.2 (by omega))
        unfold segAt at this
        simp only [Bool.and_eq_true] at this
        exact segB_ok this.1)
      have HZ := Lib.hid (show k = 0 → lastI (fun k => upI ((x.segs.getD k noSg).at_ + (x.segs.getD k noSg).size)) k = 0 from fun h => by rw [h]; rfl)
      clear hg hE
      generalize segAt x.segs k = sk at *
      generalize lastI (fun k => upI ((x.segs.getD k noSg).at_ + (x.segs.getD k noSg).size)) k = la at *
      generalize x.segs.getD k noSg = s at *
      generalize B k = pl at *
      unfold I64 Long at hfs
      have HBX := Lib.hid (HBR.out.trans ((sgbox_below wr s pl).mono HBR.out.size))
      have HBX0 := Lib.hid (HB0.out.trans ((sgbox_below wr s pl).mono HB0.out.size))
      have hx := Bx.new wr (sgA s pl) 76
      have x0 := hx.c 0
      have x1 := hx.c 1
      have x2 := hx.c 2
      have x3 := hx.c 3
      simp only [List.getElem?_toArray, List.getElem?_cons_succ, List.getElem?_cons_zero] at x0 x1 x2 x3
      clear hx
      cases hsb : segB s
      · have HV := Lib.hid (HNO.out (by rw [HSB.out, hsb]; rfl))
        have hq := segB_no hsb
        clear HY HNO HSB HPV HFI H HN
        have e1 : 0 ≤ s.at_ → s.at_ ≤ 65536 → 1 ≤ s.size → s.size ≤ 65536 → wrap64 (s.at_ + s.size) = s.at_ + s.size := fun _ _ _ _ => wrap_in (by omega) (by omega)
        rcases hq with h1 | ⟨h1, h2⟩ | ⟨h1, h2, h3⟩ | ⟨h1, h2, h3, h4⟩ | ⟨h1, h2, h3, h4, h5⟩ | ⟨h1, h2, h3, h4, h5, h6⟩ | ⟨h1, h2, h3, h4, h5, h6, h7⟩ | ⟨h1, h2, h3, h4, h5, h6, h7, h8⟩ | ⟨h1, h2, h3, h4, h5, h6, h7, h8, h9⟩
        all_goals
          try have e1 := e1 h1 h2 h4 h5
          go_wp2_with fail
          go_ret
          exact ⟨by rw [HV.out]; rfl, HBX0.out⟩
      · obtain ⟨h1, h2, h3, h4, h5, h6, h7, h8, h9⟩ := segB_yes hsb
        have e1 : wrap64 (s.at_ + s.size) = s.at_ + s.size := wrap_in (by omega) (by omega)
        go_upto_region 9 with (fail)
        change Code.wp _ _ _ _ (wr.alloc (.cells (sgA s pl) 76))
        have hbx := sgbox_below wr s pl
        have f2' := cell_below hbx f2
        have HBD := Lib.hid (HBX.out.trans ((drew_below (wr.alloc (.cells (sgA s pl) 76))).mono HBX.out.size))
        have HBD0 := Lib.hid (HBX0.out.trans ((drew_below (wr.alloc (.cells (sgA s pl) 76))).mono HBX0.out.size))
        have hz : wr.heap.size < (wr.alloc (.cells (sgA s pl) 76)).heap.size := by simp
        have HU := Lib.hid (fun (y : Sg) (hy : SegOk y) X => up_any (y.at_ + y.size) X (by unfold SegOk at hy; omega) (by unfold SegOk at hy; omega))
        have HPC := Lib.hid (show ∀ j, k = j + 1 → (∃ pl', ∀ i u, (sgA (x.segs.getD j noSg) pl')[i]? = some u → (wr.alloc (.cells (sgA s pl) 76)).cell? ⟨b, o + j * 4 + i, none⟩ = some u) from fun j hj => by
          obtain ⟨⟨pl', hc⟩, -⟩ := HPV.out j hj
          exact ⟨pl', fun i u hu => cell_below hbx (hc i u hu)⟩)
        clear hbx d0 d1 d2 d3 f2
        generalize wr.alloc (.cells (sgA s pl) 76) = w2 at *
        have y0 : w2.drew.cell? ⟨wr.heap.size, 0, none⟩ = some (.int .i64 s.at_) := x0
        have y2 : w2.drew.cell? ⟨w.heap.size, 2, none⟩ = some (.slice (some ⟨b, o, none⟩) x.segs.length sgc) := f2'
        by_cases hk0 : k = 0
        · have hk0' : ¬ (0 : Int) < (k : Int) := by omega
          have HSV := Lib.hid (HY.out (by rw [HSB.out, hsb, HZ.out hk0]; simp [h1]))
          clear HY HNO HSB HPV HPC HFI H HN
          subst hk0
          refine wp_region_held_drew (S := fun X => X = w2.drew) (by kernel_rfl) rfl (fun hHeld0 => ?_)
          refine tkP 0 77 (.int .i64 ((0 : Nat) : Int)) ?_ ?_
          · intro X hX; go_simp
          (try simp only [Act.put, z1P, z2P, z3P])
          refine tkP 1 78 (.bool false) ?_ ?_
          · intro X hX; go_simp
          (try simp only [Act.put, z1P, z2P, z3P])
          refine tkP 2 79 (.bool false) ?_ ?_
          · intro X hX; go_simp
          (try simp only [Act.put, z1P, z2P, z3P])
          refine tnP 3 80 ?_
          (try simp only [Act.put, z1P, z2P, z3P])
          refine tnP 4 81 ?_
          (try simp only [Act.put, z1P, z2P, z3P])
          refine tnP 5 82 ?_
          (try simp only [Act.put, z1P, z2P, z3P])
          refine tnP 6 83 ?_
          (try simp only [Act.put, z1P, z2P, z3P])
          refine tnP 7 84 ?_
          (try simp only [Act.put, z1P, z2P, z3P])
          refine tnP 8 85 ?_
          (try simp only [Act.put, z1P, z2P, z3P])
          refine tnP 9 86 ?_
          (try simp only [Act.put, z1P, z2P, z3P])
          refine tnP 10 87 ?_
          (try simp only [Act.put, z1P, z2P, z3P])
          refine tnP 11 88 ?_
          (try simp only [Act.put, z1P, z2P, z3P])
          refine tnP 12 89 ?_
          (try simp only [Act.put, z1P, z2P, z3P])
          refine tnP 13 90 ?_
          (try simp only [Act.put, z1P, z2P, z3P])
          refine tnP 14 91 ?_
          (try simp only [Act.put, z1P, z2P, z3P])
          refine tnP 15 92 ?_
          (try simp only [Act.put, z1P, z2P, z3P])
          refine tnP 16 93 ?_
          (try simp only [Act.put, z1P, z2P, z3P])
          refine tnP 17 94 ?_
          (try simp only [Act.put, z1P, z2P, z3P])
          refine tnP 18 95 ?_
          (try simp only [Act.put, z1P, z2P, z3P])
          refine tnP 19 96 ?_
          (try simp only [Act.put, z1P, z2P, z3P])
          refine tnP 20 97 ?_
          (try simp only [Act.put, z1P, z2P, z3P])
          refine tnP 21 98 ?_
          (try simp only [Act.put, z1P, z2P, z3P])
          refine tkP 22 99 (.bool false) ?_ ?_
          · intro X hX; go_simp
          (try simp only [Act.put, z1P, z2P, z3P])
          refine wpAnyH_done (by kernel_rfl) ?_ _
          go_wp2_with fail
          go_roundw
          case rel => exact ⟨1, by omega, by go_num, HBD.out, HSV.out⟩
          case measure => simp [intOf]; omega
        · obtain ⟨j, hj⟩ : ∃ j, k = j + 1 := ⟨k - 1, by omega⟩
          obtain ⟨-, hso, hla⟩ := HPV.out j hj
          obtain ⟨pl', hc⟩ := HPC.out j hj
          have q0 : w2.drew.cell? ⟨b, o + j * 4, none⟩ = some (.int .i64 (x.segs.getD j noSg).at_) := hc 0 _ rfl
          have q1 : w2.drew.cell? ⟨b, o + j * 4 + 1, none⟩ = some (.int .i64 (x.segs.getD j noSg).size) := hc 1 _ rfl
          have HUP := Lib.hid (fun X => HU.out (x.segs.getD j noSg) hso X)
          have e2 : wrap64 ((x.segs.getD j noSg).at_ + (x.segs.getD j noSg).size) = (x.segs.getD j noSg).at_ + (x.segs.getD j noSg).size := by unfold SegOk at hso; exact wrap_in (by omega) (by omega)
          have hk0' : (0 : Int) < (k : Int) := by omega
          have e3 : wrap64 ((k : Int) - 1) = (k : Int) - 1 := wrap_in (by omega) (by omega)
          have hkt : ((k : Int) - 1).toNat = j := by omega
          have e4 : IntKind.i64.wrap ((k : Int) - 1) = (k : Int) - 1 := (wrap_i64 _).trans e3
          have e5 : IntKind.i64.wrap ((x.segs.getD j noSg).at_ + (x.segs.getD j noSg).size) = (x.segs.getD j noSg).at_ + (x.segs.getD j noSg).size := (wrap_i64 _).trans e2
          have hkn : 0 < k := by omega
          have hk1 : ¬ (k : Int) < 1 := by omega
          have hj0 : (0 : Int) ≤ (k : Int) - 1 := by omega
          have hj1 : (k : Int) - 1 < (x.segs.length : Int) := by omega
          rw [← hla] at HUP
          clear hc HU HPV HPC HFI H HN hso hla hj
          generalize x.segs.getD j noSg = y at *
          by_cases hlo : s.at_ < la
          · have HSV := Lib.hid (HNO.out (by rw [HSB.out, hsb]; simp; omega))
            clear HY HNO HSB
            refine wp_region_held_drew (S := fun X => X = w2.drew) (by kernel_rfl) rfl (fun hHeld0 => ?_)
            refine tkP 0 77 (.int .i64 (k : Int)) ?_ ?_
            · intro X hX; go_simp
            (try simp only [Act.put, z1P, z2P, z3P])
            refine tkP 1 78 (.bool true) ?_ ?_
            · intro X hX; go_simp
            (try simp only [Act.put, z1P, z2P, z3P])
            refine tkP 2 79 (.bool true) ?_ ?_
            · intro X hX; go_simp
            (try simp only [Act.put, z1P, z2P, z3P])
            refine tkP 3 80 (.pointer (some ⟨wr.heap.size, 0, none⟩)) ?_ ?_
            · intro X hX; go_simp
            (try simp only [Act.put, z1P, z2P, z3P])
            refine tkP 4 81 (.int .i64 s.at_) ?_ ?_
            · intro X hX; subst hX; go_simp
            (try simp only [Act.put, z1P, z2P, z3P])
            refine tkP 5 82 (.pointer (some ⟨w.heap.size, 2, none⟩)) ?_ ?_
            · intro X hX; go_simp
            (try simp only [Act.put, z1P, z2P, z3P])
            refine tkP 6 83 (.slice (some ⟨b, o, none⟩) x.segs.length sgc) ?_ ?_
            · intro X hX; subst hX; go_simp
            (try simp only [Act.put, z1P, z2P, z3P])
            refine tkP 7 84 (.int .i64 (k : Int)) ?_ ?_
            · intro X hX; go_simp
            (try simp only [Act.put, z1P, z2P, z3P])
            refine tkP 8 85 (.int .i64 ((k : Int) - 1)) ?_ ?_
            · intro X hX; go_simp
            (try simp only [Act.put, z1P, z2P, z3P])
            refine tkP 9 86 (.pointer (some ⟨b, o + j * 4, none⟩)) ?_ ?_
            · intro X hX; go_simp
            (try simp only [Act.put, z1P, z2P, z3P])
            refine tkP 10 87 (.pointer (some ⟨b, o + j * 4, none⟩)) ?_ ?_
            · intro X hX; go_simp
            (try simp only [Act.put, z1P, z2P, z3P])
            refine tkP 11 88 (.int .i64 y.at_) ?_ ?_
            · intro X hX; subst hX; go_simp
            (try simp only [Act.put, z1P, z2P, z3P])
            refine tkP 12 89 (.pointer (some ⟨w.heap.size, 2, none⟩)) ?_ ?_
            · intro X hX; go_simp
            (try simp only [Act.put, z1P, z2P, z3P])
            refine tkP 13 90 (.slice (some ⟨b, o, none⟩) x.segs.length sgc) ?_ ?_
            · intro X hX; subst hX; go_simp
            (try simp only [Act.put, z1P, z2P, z3P])
            refine tkP 14 91 (.int .i64 (k : Int)) ?_ ?_
            · intro X hX; go_simp
            (try simp only [Act.put, z1P, z2P, z3P])
            refine tkP 15 92 (.int .i64 ((k : Int) - 1)) ?_ ?_
            · intro X hX; go_simp
            (try simp only [Act.put, z1P, z2P, z3P])
            refine tkP 16 93 (.pointer (some ⟨b, o + j * 4, none⟩)) ?_ ?_
            · intro X hX; go_simp
            (try simp only [Act.put, z1P, z2P, z3P])
            refine tkP 17 94 (.pointer (some ⟨b, o + j * 4 + 1, none⟩)) ?_ ?_
            · intro X hX; go_simp
            (try simp only [Act.put, z1P, z2P, z3P])
            refine tkP 18 95 (.int .i64 y.size) ?_ ?_
            · intro X hX; subst hX; go_simp
            (try simp only [Act.put, z1P, z2P, z3P])
            refine tkP 19 96 (.int .i64 (y.at_ + y.size)) ?_ ?_
            · intro X hX; go_simp
            (try simp only [Act.put, z1P, z2P, z3P])
            refine wpAnyH_ready (rs := [20]) (by kernel_rfl) (by simp) ?_
            refine AllReadyH.cons rfl (fun K hK => ?_) AllReadyH.nil
            go_simp
            refine (HUP.out _).mono ?_
            rintro e wq1 ⟨rfl, rfl⟩
            go_simp
            refine hK.out _ _ hHeld0 (fun hHeld1 => ?_)
            clear hK K
            (try simp only [Act.put, z1P, z2P, z3P])
            refine tkP 21 98 (.bool true) ?_ ?_
            · intro X hX; go_simp
            (try simp only [Act.put, z1P, z2P, z3P])
            refine tkP 22 99 (.bool true) ?_ ?_
            · intro X hX; go_simp
            (try simp only [Act.put, z1P, z2P, z3P])
            refine wpAnyH_done (by kernel_rfl) ?_ _
            clear e2 e3 e4 e5 hkt q0 q1 y0 y2
            go_wp2_with fail
            go_ret
            exact ⟨by rw [HSV.out]; rfl, HBD0.out⟩
          · have HSV := Lib.hid (HY.out (by rw [HSB.out, hsb]; simp; omega))
            clear HY HNO HSB
            refine wp_region_held_drew (S := fun X => X = w2.drew) (by kernel_rfl) rfl (fun hHeld0 => ?_)
            refine tkP 0 77 (.int .i64 (k : Int)) ?_ ?_
            · intro X hX; go_simp
            (try simp only [Act.put, z1P, z2P, z3P])
            refine tkP 1 78 (.bool true) ?_ ?_
            · intro X hX; go_simp
            (try simp only [Act.put, z1P, z2P, z3P])
            refine tkP 2 79 (.bool true) ?_ ?_
            · intro X hX; go_simp
            (try simp only [Act.put, z1P, z2P, z3P])
            refine tkP 3 80 (.pointer (some ⟨wr.heap.size, 0, none⟩)) ?_ ?_
            · intro X hX; go_simp
            (try simp only [Act.put, z1P, z2P, z3P])
            refine tkP 4 81 (.int .i64 s.at_) ?_ ?_
            · intro X hX; subst hX; go_simp
            (try simp only [Act.put, z1P, z2P, z3P])
            refine tkP 5 82 (.pointer (some ⟨w.heap.size, 2, none⟩)) ?_ ?_
            · intro X hX; go_simp
            (try simp only [Act.put, z1P, z2P, z3P])
            refine tkP 6 83 (.slice (some ⟨b, o, none⟩) x.segs.length sgc) ?_ ?_
            · intro X hX; subst hX; go_simp
            (try simp only [Act.put, z1P, z2P, z3P])
            refine tkP 7 84 (.int .i64 (k : Int)) ?_ ?_
            · intro X hX; go_simp
            (try simp only [Act.put, z1P, z2P, z3P])
            refine tkP 8 85 (.int .i64 ((k : Int) - 1)) ?_ ?_
            · intro X hX; go_simp
            (try simp only [Act.put, z1P, z2P, z3P])
            refine tkP 9 86 (.pointer (some ⟨b, o + j * 4, none⟩)) ?_ ?_
            · intro X hX; go_simp
            (try simp only [Act.put, z1P, z2P, z3P])
            refine tkP 10 87 (.pointer (some ⟨b, o + j * 4, none⟩)) ?_ ?_
            · intro X hX; go_simp
            (try simp only [Act.put, z1P, z2P, z3P])
            refine tkP 11 88 (.int .i64 y.at_) ?_ ?_
            · intro X hX; subst hX; go_simp
            (try simp only [Act.put, z1P, z2P, z3P])
            refine tkP 12 89 (.pointer (some ⟨w.heap.size, 2, none⟩)) ?_ ?_
            · intro X hX; go_simp
            (try simp only [Act.put, z1P, z2P, z3P])
            refine tkP 13 90 (.slice (some ⟨b, o, none⟩) x.segs.length sgc) ?_ ?_
            · intro X hX; subst hX; go_simp
            (try simp only [Act.put, z1P, z2P, z3P])
            refine tkP 14 91 (.int .i64 (k : Int)) ?_ ?_
            · intro X hX; go_simp
            (try simp only [Act.put, z1P, z2P, z3P])
            refine tkP 15 92 (.int .i64 ((k : Int) - 1)) ?_ ?_
            · intro X hX; go_simp
            (try simp only [Act.put, z1P, z2P, z3P])
            refine tkP 16 93 (.pointer (some ⟨b, o + j * 4, none⟩)) ?_ ?_
            · intro X hX; go_simp
            (try simp only [Act.put, z1P, z2P, z3P])
            refine tkP 17 94 (.pointer (some ⟨b, o + j * 4 + 1, none⟩)) ?_ ?_
            · intro X hX; go_simp
            (try simp only [Act.put, z1P, z2P, z3P])
            refine tkP 18 95 (.int .i64 y.size) ?_ ?_
            · intro X hX; subst hX; go_simp
            (try simp only [Act.put, z1P, z2P, z3P])
            refine tkP 19 96 (.int .i64 (y.at_ + y.size)) ?_ ?_
            · intro X hX; go_simp
            (try simp only [Act.put, z1P, z2P, z3P])
            refine wpAnyH_ready (rs := [20]) (by kernel_rfl) (by simp) ?_
            refine AllReadyH.cons rfl (fun K hK => ?_) AllReadyH.nil
            go_simp
            refine (HUP.out _).mono ?_
            rintro e wq1 ⟨rfl, rfl⟩
            go_simp
            refine hK.out _ _ hHeld0 (fun hHeld1 => ?_)
            clear hK K
            (try simp only [Act.put, z1P, z2P, z3P])
            refine tkP 21 98 (.bool false) ?_ ?_
            · intro X hX; go_simp
            (try simp only [Act.put, z1P, z2P, z3P])
            refine tkP 22 99 (.bool false) ?_ ?_
            · intro X hX; go_simp
            (try simp only [Act.put, z1P, z2P, z3P])
            refine wpAnyH_done (by kernel_rfl) ?_ _
            clear e2 e3 e4 e5 hkt q0 q1 y0 y2
            go_wp2_with fail
            go_roundw
            case rel => exact ⟨k + 1, by omega, by go_num, HBD.out, HSV.out⟩
            case measure => simp [intOf]; omega
    · obtain rfl : k = x.segs.length := by omega
      go_wp2_with fail
      go_ret
      exact ⟨by rw [HF2.out, HE.out]; rfl, HB0.out⟩
end Go.Proofs.YtacknedekhpklaaGreat
