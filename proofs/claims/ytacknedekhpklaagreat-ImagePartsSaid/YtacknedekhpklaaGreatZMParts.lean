/-
  What an image that may be keeps: the walk of the law (written by mkz.py).
-/
import Derived.Test.YtacknedekhpklaaGreatZR
import Derived.Test.YtacknedekhpklaaGreatZTOt
namespace Go.Proofs.YtacknedekhpklaaGreat
set_option maxRecDepth 100000
set_option linter.unusedSimpArgs false
set_option linter.unusedVariables false
open Go.RowKit

theorem perm_zero (p : Int) : permB p 0 = true := by
  unfold permB bits
  simp [IntKind.wrap]
  intro _ h
  exact absurd h (by decide)
theorem stand_zero {l : List Sg} {a n q : Int} (h : standB l a n q = true) : standB l a n 0 = true := by
  unfold standB at *
  obtain ⟨s, hm, h⟩ := List.any_eq_true.1 h
  simp only [Bool.and_eq_true] at h
  exact List.any_eq_true.2 ⟨s, hm, by rw [perm_zero, Bool.true_and]; exact h.2⟩
theorem rel_stand {x : Im} {r : Rl} (h : relB x r = true) : standB x.segs r.at_ (wideI x r) 0 = true := by
  unfold relB at h
  simp only [Bool.and_eq_true] at h
  exact stand_zero h.2
theorem slot_all {x : Im} {s : Sl} (h : slotB x s = true) : preS x s = true := by
  rw [slotB_pre] at h
  simp only [Bool.and_eq_true] at h
  exact h.1
theorem slots_all {x : Im} (h : slotsB x = true) : ∀ k, k < x.slots.length → preS x (x.slots.getD k noSl) = true := by
  intro k hk
  unfold slotsB at h
  rw [Bool.and_eq_true, apart_of] at h
  exact slot_all (h.2 k hk).1
theorem segs_some {x : Im} (h : segsB x.segs = true) : 0 < x.segs.length := by
  unfold segsB withB at h
  simp only [Bool.and_eq_true, decide_eq_true_eq] at h
  omega
def RPX (w : World) (p : Pl) (x : Im) (g : Nat) (r : Rl) (X : World) : Prop := MSX w p x X ∧ Bx X g (rlA r) 61
theorem RPX.on {w X Y : World} {p : Pl} {x : Im} {g : Nat} {r : Rl} (h : RPX w p x g r X) (hb : Below X.heap.size X Y) : RPX w p x g r Y := ⟨h.1.on hb, h.2.below hb⟩
set_option maxHeartbeats 16000000 in
theorem parts_any (p : Pl) (x : Im) (w : World) (h : ImIn w (fun k => k < w.heap.size) p x) (hf : Fit x) :
    Calls Tryz.prog 9 #[imV p x] w fun e w' => e = .returned (.bool true) ∧ Below w.heap.size w w' := by
  obtain ⟨sg, nd, rp, ⟨sya, syc⟩, bk, fw, ⟨rla, rlc⟩, ⟨sla, slc⟩, ini, fin, tl⟩ := p
  have HS0 := Lib.hid (show MSX w ⟨sg, nd, rp, ⟨sya, syc⟩, bk, fw, ⟨rla, rlc⟩, ⟨sla, slc⟩, ini, fin, tl⟩ x (w.alloc (.cells (imA ⟨sg, nd, rp, ⟨sya, syc⟩, bk, fw, ⟨rla, rlc⟩, ⟨sla, slc⟩, ini, fin, tl⟩ x) 38)) from ⟨ibox_below _ _ _, Ix.new _ _ _⟩)
  have HMY := Lib.hid (fun (X : World) (hX : Below w.heap.size w X) => may_im_any _ x X (h.lt hX) hf)
  go_enter Tryz.func9, Tryz.ntmps9
  go_upto_region 1 with (fail)
  change Code.wp _ _ _ _ (w.alloc (.cells (imA ⟨sg, nd, rp, ⟨sya, syc⟩, bk, fw, ⟨rla, rlc⟩, ⟨sla, slc⟩, ini, fin, tl⟩ x) 38))
  generalize w.alloc (.cells (imA ⟨sg, nd, rp, ⟨sya, syc⟩, bk, fw, ⟨rla, rlc⟩, ⟨sla, slc⟩, ini, fin, tl⟩ x) 38) = w1 at *
  go_upto_region 2 with (go_at_call 10; (with_reducible refine (iawake_any _).mono ?_); rintro en w2 ⟨rfl, hb2⟩; have HS2 := Lib.hid (HS0.out.on hb2); clear hb2)
  have HM2 := Lib.hid (HMY.out w2 HS2.out.1)
  refine wp_region_lit ?_
  refine wpl_load_im HS2.out.2 rfl ?_
  by_cases hm : ¬ mayE x = 0
  · have hmb : (mayE x == 0) = false := by simpa using hm
    have hmb2 : (mayE x != 0) = true := by simpa using hm
    clear h hf HMY
    generalize mayE x = m at *
    go_wp2_with (go_at_call 11; (with_reducible refine (HM2.out).mono ?_); rintro en w3 ⟨rfl, hb3⟩; have HS3 := Lib.hid (HS2.out.on hb3); clear hb3)
    go_ret
    exact ⟨rfl, HS3.out.1⟩
  have hm := Decidable.not_not.1 hm
  have hk := may_ok hm
  have hs := segs_ok hk.segs
  have hr := relocs_all hk.relocs
  have ha := hk.relocs
  unfold relocsB at ha
  rw [Bool.and_eq_true, apart_of] at ha
  have HAP := Lib.hid ha.2
  have HSO := Lib.hid (slots_all hk.slots)
  have HWI := Lib.hid (fun (r : Rl) (hr : relB x r = true) (X : World) (hX : Below w.heap.size w X) => wide_any _ x r X (h.lt hX) hf.syms (kind_idx (rel_kind hr)))
  have HRG := Lib.hid (fun (r : Rl) (hr : relB x r = true) => (⟨rel_range hs hr, kind_wide hf (rel_kind hr)⟩ : (0 ≤ r.at_ ∧ r.at_ + wideI x r ≤ 65536) ∧ 0 ≤ wideI x r ∧ wideI x r ≤ 9223372036854775807))
  have HST := Lib.hid (fun (a n q : Int) (hn : 0 ≤ n) (hn' : n ≤ 9223372036854775807) (X : World) (hX : Below w.heap.size w X) => dstands_any _ x a n q X (h.lt hX) hf.segs hs hn hn')
  have HRL := Lib.hid (fun (X : World) (hX : Below w.heap.size w X) => (h.lt hX).relocs.els)
  have HSL := Lib.hid (fun (X : World) (hX : Below w.heap.size w X) => (h.lt hX).slots.els)
  have HSY := Lib.hid (fun (X : World) (hX : Below w.heap.size w X) => (h.lt hX).syms)
  have HRR := Lib.hid hr
  have HRS := Lib.hid (fun (r : Rl) (hr : relB x r = true) => rel_stand hr)
  have hsg := segs_some hk.segs
  have HSG0 := Lib.hid hsg
  have l1 := hf.slots
  have l2 := hf.relocs
  have l3 := hf.syms
  have l4 := hf.segs
  unfold Long at l1 l2 l3 l4
  rw [hm] at HM2
  clear h hf hk hs hr ha hm hsg HMY
  go_upto_region 4 with (go_at_call 11; (with_reducible refine (HM2.out).mono ?_); rintro en w3 ⟨rfl, hb3⟩; have HS3 := Lib.hid (HS2.out.on hb3); clear hb3)
  clear HM2
  go_wp2_with fail
  go_loopw [4, 5] (fun v t wr => ∃ k : Nat, k ≤ x.relocs.length ∧ t = .int .i64 k ∧ v = .int .i64 (lastI (fun k => (x.relocs.getD k noRl).at_ + wideI x (x.relocs.getD k noRl)) k) ∧ MSX w ⟨sg, nd, rp, ⟨sya, syc⟩, bk, fw, ⟨rla, rlc⟩, ⟨sla, slc⟩, ini, fin, tl⟩ x wr) (fun _ t _ => x.relocs.length - (intOf t).toNat)
  case atStart => exact ⟨0, Nat.zero_le _, rfl, rfl, HS3.out⟩
  case round =>
    obtain ⟨k, hk, rfl, rfl, hb⟩ := hrel
    have HSR := Lib.hid hb
    clear hb
    obtain ⟨-, -, -, -, -, -, -, -, -, f9, -⟩ := HSR.out.2.cells
    simp only at f9
    by_cases hlt : k < x.relocs.length
    · obtain ⟨ad, rfl⟩ : ∃ ad, rla = some ad := by
        cases rla with
        | none => have := ((HRL.out _ HSR.out.1).nil rfl).1; omega
        | some ad => exact ⟨ad, rfl⟩
      have hE := HRL.out _ HSR.out.1
      have hcap := hE.cap
      obtain ⟨b, o, rfl⟩ := hE.plain (by omega) rfl
      have d0 := hE.get k hlt 0 _ rfl
      have d1 := hE.get k hlt 1 _ rfl
      have d2 := hE.get k hlt 2 _ rfl
      have d3 := hE.get k hlt 3 _ rfl
      simp only [Nat.add_zero] at d0
      clear hE
      have hrl := HRR.out _ (getD_mem (d := noRl) hlt)
      have HWD := Lib.hid (HWI.out _ hrl)
      have hyg := HRG.out _ hrl
      have hys := HRS.out _ hrl
      have hsd := HST.out (x.relocs.getD k noRl).at_ (wideI x (x.relocs.getD k noRl)) 0 hyg.2.1 hyg.2.2
      rw [hys] at hsd
      have HSD := Lib.hid hsd
      have hap : lastI (fun k => (x.relocs.getD k noRl).at_ + wideI x (x.relocs.getD k noRl)) k ≤ (x.relocs.getD k noRl).at_ := (HAP.out k hlt).2
      obtain ⟨lb, hlb⟩ : ∃ lb, lastI (fun k => (x.relocs.getD k noRl).at_ + wideI x (x.relocs.getD k noRl)) (k + 1) = lb := ⟨_, rfl⟩
      have HNX := Lib.hid (show lb = (x.relocs.getD k noRl).at_ + wideI x (x.relocs.getD k noRl) from hlb.symm)
      have HLB := Lib.hid hlb
      clear hlb
      clear hrl hys hsd
      have hk0 : (0 : Int) ≤ (k : Int) := by omega
      have hk1 : (k : Int) < (x.relocs.length : Int) := by omega
      generalize lastI (fun k => (x.relocs.getD k noRl).at_ + wideI x (x.relocs.getD k noRl)) k = la at *
      generalize wideI x (x.relocs.getD k noRl) = wd at *
      generalize x.relocs.getD k noRl = r at *
      have hbx := rlbox_below wr r
      have HSX := Lib.hid (show RPX w ⟨sg, nd, rp, ⟨sya, syc⟩, bk, fw, ⟨some ⟨b, o, none⟩, rlc⟩, ⟨sla, slc⟩, ini, fin, tl⟩ x wr.heap.size r (wr.alloc (.cells (rlA r) 61)) from ⟨HSR.out.on hbx, rl_cells wr r⟩)
      clear hbx
      go_upto_region 9 with (fail)
      change Code.wp _ _ _ _ (wr.alloc (.cells (rlA r) 61))
      generalize hgr : wr.heap.size = g at *
      generalize wr.alloc (.cells (rlA r) 61) = w6 at *
      clear d0 d1 d2 d3 f9 hgr
      have HSG := Lib.hid (HSX.out.on (drew_below w6))
      have e1 : wrap64 (r.at_ + wd) = r.at_ + wd := wrap_in (by omega) (by omega)
      have e2 : IntKind.i64.wrap (r.at_ + wd) = r.at_ + wd := (wrap_i64 _).trans e1
      have hnl : ¬ r.at_ < la := by omega
      · skip
        refine wp_region_held_drew (S := RPX w ⟨sg, nd, rp, ⟨sya, syc⟩, bk, fw, ⟨some ⟨b, o, none⟩, rlc⟩, ⟨sla, slc⟩, ini, fin, tl⟩ x g r) (by kernel_rfl) HSG.out (fun hHeld0 => ?_)
        refine take_at (i := 0) (d := 26) (v := .pointer (some ⟨g, 0, none⟩)) rfl rfl (by kernel_rfl) (by kernel_rfl) (by kernel_rfl) (fun _ _ _ h => h) (Or.inl ⟨by rfl, ?_⟩) (by assumption) ?_
        · intro X hX; go_simp
        (try simp only [Act.put, List.setIfInBounds_toArray, List.set_cons_zero, List.set_cons_succ])
        refine take_at (i := 1) (d := 27) (v := .int .i64 r.at_) rfl rfl (by kernel_rfl) (by kernel_rfl) (by kernel_rfl) (fun _ _ _ h => h) (Or.inl ⟨by rfl, ?_⟩) (by assumption) ?_
        · intro X hX; obtain ⟨⟨hBX, hI⟩, hR⟩ := hX; obtain ⟨d0, d1, d2, d3⟩ := hR.rl; go_simp
        (try simp only [Act.put, List.setIfInBounds_toArray, List.set_cons_zero, List.set_cons_succ])
        refine take_at (i := 2) (d := 28) (v := .int .i64 la) rfl rfl (by kernel_rfl) (by kernel_rfl) (by kernel_rfl) (fun _ _ _ h => h) (Or.inl ⟨by rfl, ?_⟩) (by assumption) ?_
        · intro X hX; go_simp
        (try simp only [Act.put, List.setIfInBounds_toArray, List.set_cons_zero, List.set_cons_succ])
        refine take_at (i := 3) (d := 29) (v := .bool false) rfl rfl (by kernel_rfl) (by kernel_rfl) (by kernel_rfl) (fun _ _ _ h => h) (Or.inl ⟨by rfl, ?_⟩) (by assumption) ?_
        · intro X hX; go_simp
        (try simp only [Act.put, List.setIfInBounds_toArray, List.set_cons_zero, List.set_cons_succ])
        refine take_at (i := 4) (d := 30) (v := .bool false) rfl rfl (by kernel_rfl) (by kernel_rfl) (by kernel_rfl) (fun _ _ _ h => h) (Or.inl ⟨by rfl, ?_⟩) (by assumption) ?_
        · intro X hX; go_simp
        (try simp only [Act.put, List.setIfInBounds_toArray, List.set_cons_zero, List.set_cons_succ])
        refine take_at (i := 5) (d := 31) (v := imV ⟨sg, nd, rp, ⟨sya, syc⟩, bk, fw, ⟨some ⟨b, o, none⟩, rlc⟩, ⟨sla, slc⟩, ini, fin, tl⟩ x) rfl rfl (by kernel_rfl) (by kernel_rfl) (by kernel_rfl) (fun _ _ _ h => h) (Or.inl ⟨by rfl, ?_⟩) (by assumption) ?_
        · intro X hX; obtain ⟨⟨hBX, hI⟩, hR⟩ := hX; obtain ⟨c0, c1, c2, c3, c4, c5, c6, c7, c8, c9, c10, c11, c12, c13, c14⟩ := hI.cells; go_simp
        (try simp only [Act.put, List.setIfInBounds_toArray, List.set_cons_zero, List.set_cons_succ])
        refine take_at (i := 6) (d := 32) (v := .pointer (some ⟨g, 0, none⟩)) rfl rfl (by kernel_rfl) (by kernel_rfl) (by kernel_rfl) (fun _ _ _ h => h) (Or.inl ⟨by rfl, ?_⟩) (by assumption) ?_
        · intro X hX; go_simp
        (try simp only [Act.put, List.setIfInBounds_toArray, List.set_cons_zero, List.set_cons_succ])
        refine take_at (i := 7) (d := 33) (v := .int .i64 r.at_) rfl rfl (by kernel_rfl) (by kernel_rfl) (by kernel_rfl) (fun _ _ _ h => h) (Or.inl ⟨by rfl, ?_⟩) (by assumption) ?_
        · intro X hX; obtain ⟨⟨hBX, hI⟩, hR⟩ := hX; obtain ⟨d0, d1, d2, d3⟩ := hR.rl; go_simp
        (try simp only [Act.put, List.setIfInBounds_toArray, List.set_cons_zero, List.set_cons_succ])
        refine take_at (i := 8) (d := 34) (v := imV ⟨sg, nd, rp, ⟨sya, syc⟩, bk, fw, ⟨some ⟨b, o, none⟩, rlc⟩, ⟨sla, slc⟩, ini, fin, tl⟩ x) rfl rfl (by kernel_rfl) (by kernel_rfl) (by kernel_rfl) (fun _ _ _ h => h) (Or.inl ⟨by rfl, ?_⟩) (by assumption) ?_
        · intro X hX; obtain ⟨⟨hBX, hI⟩, hR⟩ := hX; obtain ⟨c0, c1, c2, c3, c4, c5, c6, c7, c8, c9, c10, c11, c12, c13, c14⟩ := hI.cells; go_simp
        (try simp only [Act.put, List.setIfInBounds_toArray, List.set_cons_zero, List.set_cons_succ])
        refine take_at (i := 9) (d := 35) (v := .agg (rlA r)) rfl rfl (by kernel_rfl) (by kernel_rfl) (by kernel_rfl) (fun _ _ _ h => h) (Or.inl ⟨by rfl, ?_⟩) (by assumption) ?_
        · intro X hX; obtain ⟨⟨hBX, hI⟩, hR⟩ := hX; obtain ⟨d0, d1, d2, d3⟩ := hR.rl; go_simp
        (try simp only [Act.put, List.setIfInBounds_toArray, List.set_cons_zero, List.set_cons_succ])
        refine wpAnyH_ready (rs := [10]) (by kernel_rfl) (by simp) ?_
        refine AllReadyH.cons rfl (fun K hK => ?_) AllReadyH.nil
        go_simp
        refine (HWD.out _ hHeld0.1.1).mono ?_
        rintro e wq1 ⟨rfl, hq1⟩
        go_simp
        refine hK.out _ _ ((hHeld0).on hq1) (fun hHeld1 => ?_)
        clear hK K
        (try simp only [Act.put, List.setIfInBounds_toArray, List.set_cons_zero, List.set_cons_succ])
        refine wpAnyH_ready (rs := [11]) (by kernel_rfl) (by simp) ?_
        refine AllReadyH.cons rfl (fun K hK => ?_) AllReadyH.nil
        go_simp
        refine (HSD.out _ hHeld1.1.1).mono ?_
        rintro e wq2 ⟨rfl, hq2⟩
        go_simp
        refine hK.out _ _ ((hHeld1).on hq2) (fun hHeld2 => ?_)
        clear hK K
        (try simp only [Act.put, List.setIfInBounds_toArray, List.set_cons_zero, List.set_cons_succ])
        refine take_at (i := 12) (d := 38) (v := .bool false) rfl rfl (by kernel_rfl) (by kernel_rfl) (by kernel_rfl) (fun _ _ _ h => h) (Or.inl ⟨by rfl, ?_⟩) (by assumption) ?_
        · intro X hX; go_simp
        (try simp only [Act.put, List.setIfInBounds_toArray, List.set_cons_zero, List.set_cons_succ])
        refine take_at (i := 13) (d := 39) (v := .bool false) rfl rfl (by kernel_rfl) (by kernel_rfl) (by kernel_rfl) (fun _ _ _ h => h) (Or.inl ⟨by rfl, ?_⟩) (by assumption) ?_
        · intro X hX; go_simp
        (try simp only [Act.put, List.setIfInBounds_toArray, List.set_cons_zero, List.set_cons_succ])
        refine wpAnyH_done (by kernel_rfl) ?_ _
        go_upto_region 11 with (fail)
        have HSH := Lib.hid ((hHeld2).on (drew_below _))
        refine wp_region_held_drew (S := RPX w ⟨sg, nd, rp, ⟨sya, syc⟩, bk, fw, ⟨some ⟨b, o, none⟩, rlc⟩, ⟨sla, slc⟩, ini, fin, tl⟩ x g r) (by kernel_rfl) HSH.out (fun hHeld0 => ?_)
        refine take_at (i := 0) (d := 40) (v := .pointer (some ⟨g, 0, none⟩)) rfl rfl (by kernel_rfl) (by kernel_rfl) (by kernel_rfl) (fun _ _ _ h => h) (Or.inl ⟨by rfl, ?_⟩) (by assumption) ?_
        · intro X hX; go_simp
        (try simp only [Act.put, List.setIfInBounds_toArray, List.set_cons_zero, List.set_cons_succ])
        refine take_at (i := 1) (d := 41) (v := .int .i64 r.at_) rfl rfl (by kernel_rfl) (by kernel_rfl) (by kernel_rfl) (fun _ _ _ h => h) (Or.inl ⟨by rfl, ?_⟩) (by assumption) ?_
        · intro X hX; obtain ⟨⟨hBX, hI⟩, hR⟩ := hX; obtain ⟨d0, d1, d2, d3⟩ := hR.rl; go_simp
        (try simp only [Act.put, List.setIfInBounds_toArray, List.set_cons_zero, List.set_cons_succ])
        refine take_at (i := 2) (d := 42) (v := imV ⟨sg, nd, rp, ⟨sya, syc⟩, bk, fw, ⟨some ⟨b, o, none⟩, rlc⟩, ⟨sla, slc⟩, ini, fin, tl⟩ x) rfl rfl (by kernel_rfl) (by kernel_rfl) (by kernel_rfl) (fun _ _ _ h => h) (Or.inl ⟨by rfl, ?_⟩) (by assumption) ?_
        · intro X hX; obtain ⟨⟨hBX, hI⟩, hR⟩ := hX; obtain ⟨c0, c1, c2, c3, c4, c5, c6, c7, c8, c9, c10, c11, c12, c13, c14⟩ := hI.cells; go_simp
        (try simp only [Act.put, List.setIfInBounds_toArray, List.set_cons_zero, List.set_cons_succ])
        refine take_at (i := 3) (d := 43) (v := .agg (rlA r)) rfl rfl (by kernel_rfl) (by kernel_rfl) (by kernel_rfl) (fun _ _ _ h => h) (Or.inl ⟨by rfl, ?_⟩) (by assumption) ?_
        · intro X hX; obtain ⟨⟨hBX, hI⟩, hR⟩ := hX; obtain ⟨d0, d1, d2, d3⟩ := hR.rl; go_simp
        (try simp only [Act.put, List.setIfInBounds_toArray, List.set_cons_zero, List.set_cons_succ])
        refine wpAnyH_ready (rs := [4]) (by kernel_rfl) (by simp) ?_
        refine AllReadyH.cons rfl (fun K hK => ?_) AllReadyH.nil
        go_simp
        refine (HWD.out _ hHeld0.1.1).mono ?_
        rintro e wq1 ⟨rfl, hq1⟩
        go_simp
        refine hK.out _ _ ((hHeld0).on hq1) (fun hHeld1 => ?_)
        clear hK K
        (try simp only [Act.put, List.setIfInBounds_toArray, List.set_cons_zero, List.set_cons_succ])
        refine take_at (i := 5) (d := 45) (v := .int .i64 (r.at_ + wd)) rfl rfl (by kernel_rfl) (by kernel_rfl) (by kernel_rfl) (fun _ _ _ h => h) (Or.inl ⟨by rfl, ?_⟩) (by assumption) ?_
        · intro X hX; go_simp
        (try simp only [Act.put, List.setIfInBounds_toArray, List.set_cons_zero, List.set_cons_succ])
        refine take_at (i := 6) (d := 4) (v := .int .i64 (r.at_ + wd)) rfl rfl (by kernel_rfl) (by kernel_rfl) (by kernel_rfl) (fun _ _ _ h => h) (Or.inl ⟨by rfl, ?_⟩) (by assumption) ?_
        · intro X hX; go_simp
        (try simp only [Act.put, List.setIfInBounds_toArray, List.set_cons_zero, List.set_cons_succ])
        refine wpAnyH_done (by kernel_rfl) ?_ _
        go_wp2_with fail
        go_roundw
        case rel => exact ⟨k + 1, by omega, by go_num, by rw [HLB.out, HNX.out], (hHeld1).1⟩
        case measure => simp [intOf]; omega
    · obtain rfl : k = x.relocs.length := by omega
      clear HWI HRG HRL HRR HRS HAP
      generalize lastI (fun k => (x.relocs.getD k noRl).at_ + wideI x (x.relocs.getD k noRl)) x.relocs.length = la at *
      go_wp2_with fail
      go_loopw [7] (fun t wr => ∃ k : Nat, k ≤ x.slots.length ∧ t = .int .i64 k ∧ MSX w ⟨sg, nd, rp, ⟨sya, syc⟩, bk, fw, ⟨rla, rlc⟩, ⟨sla, slc⟩, ini, fin, tl⟩ x wr) (fun t _ => x.slots.length - (intOf t).toNat)
      case atStart => exact ⟨0, Nat.zero_le _, rfl, HSR.out⟩
      case round =>
        obtain ⟨k, hk, rfl, hb⟩ := hrel
        clear f9 HSR
        have HSR := Lib.hid hb
        clear hb
        obtain ⟨-, -, c2, -, -, -, -, -, -, -, f10, -⟩ := HSR.out.2.cells
        simp only at f10 c2
        by_cases hlt : k < x.slots.length
        · obtain ⟨ad, rfl⟩ : ∃ ad, sla = some ad := by
            cases sla with
            | none => have := ((HSL.out _ HSR.out.1).nil rfl).1; omega
            | some ad => exact ⟨ad, rfl⟩
          have hE := HSL.out _ HSR.out.1
          have hcap := hE.cap
          obtain ⟨b, o, rfl⟩ := hE.plain (by omega) rfl
          have d0 := hE.get k hlt 0 _ rfl
          have d1 := hE.get k hlt 1 _ rfl
          have d2 := hE.get k hlt 2 _ rfl
          simp only [Nat.add_zero] at d0
          clear hE
          have hk0 : (0 : Int) ≤ (k : Int) := by omega
          have hk1 : (k : Int) < (x.slots.length : Int) := by omega
          have hpre := HSO.out k hlt
          generalize x.slots.getD k noSl = s at *
          unfold preS at hpre
          simp only [Bool.and_eq_true, decide_eq_true_eq] at hpre
          obtain ⟨hix, hyk, ht1, ht2⟩ := hpre
          have hbx := slbox_below wr s
          have HSX := Lib.hid (show SLX w ⟨sg, nd, rp, ⟨sya, syc⟩, bk, fw, ⟨rla, rlc⟩, ⟨some ⟨b, o, none⟩, slc⟩, ini, fin, tl⟩ x wr.heap.size s (wr.alloc (.cells (slA s) 73)) from ⟨HSR.out.on hbx, sl_cells wr s⟩)
          clear hbx c2
          go_upto_region 16 with (fail)
          change Code.wp _ _ _ _ (wr.alloc (.cells (slA s) 73))
          generalize hgw : wr.heap.size = g at *
          generalize wr.alloc (.cells (slA s) 73) = w2 at *
          clear d0 d1 d2 f10
          obtain ⟨c0, c1, c2, c3, c4, c5, c6, c7, c8, c9, c10, c11, c12, c13, c14⟩ := HSX.out.1.2.cells
          obtain ⟨d0, d1, d2⟩ := HSX.out.2.sl
          simp only at c2 c3 c4 c5 c6 c7 c9 c10 c11 c12 c13
          obtain ⟨i, hi, hil⟩ := idx_get hix
          have hs0 : 0 ≤ s.sym := by omega
          have hs0' : ¬ s.sym < 0 := by omega
          have hs1 : s.sym < (x.syms.length : Int) := by omega
          have hs1' : ¬ (x.syms.length : Int) ≤ s.sym := by omega
          have hsn : s.sym.toNat = i := by omega
          obtain ⟨ae, rfl⟩ : ∃ ae, sya = some ae := by
            cases sya with
            | none => have := ((HSY.out _ HSX.out.1.1).nil rfl).1; omega
            | some ae => exact ⟨ae, rfl⟩
          obtain ⟨bs, os, rfl⟩ := (HSY.out _ HSX.out.1.1).plain (by omega)
          have HE3 := Lib.hid (fun (X : World) (hX : Below w.heap.size w X) => (show X.cell? ⟨bs, os + i * 9 + 3, none⟩ = some (.int .i64 (x.syms.getD i noSy).kind) from (HSY.out X hX).els.get i hil 3 _ rfl))
          rw [hsn] at hyk
          rw [hyk] at HE3
          have HT1 := HST.out s.at_ 8 0 (by omega) (by omega) w2 HSX.out.1.1
          have HT2 := fun (X : World) (hX : Below w.heap.size w X) => HST.out s.stub 8 4 (by omega) (by omega) X hX
          rw [ht1] at HT1
          rw [ht2] at HT2
          have HT1 := Lib.hid HT1
          have HT2 := Lib.hid HT2
          clear hix hyk ht1 ht2 hi HST
          have hcs := (HSY.out _ HSX.out.1.1).cap
          go_wp2_with (first
            | (go_at_call 23; (with_reducible refine (HT1.out).mono ?_); rintro e w3 ⟨rfl, hb3⟩; have HS3 := Lib.hid (HSX.out.on hb3); obtain ⟨r0, r1, r2, r3, r4, r5, r6, r7, r8, r9, r10, r11, r12, r13, r14⟩ := HS3.out.1.2.cells; obtain ⟨m0, m1, m2⟩ := HS3.out.2.sl; simp only at r2 r3 r4 r5 r6 r7 r9 r10 r11 r12 r13; clear hb3)
            | (go_at_call 23; (with_reducible refine (HT2.out _ HS3.out.b).mono ?_); rintro e w4 ⟨rfl, hb4⟩; have HS4 := Lib.hid (HS3.out.on hb4); obtain ⟨-, -, -, -, -, n5, -⟩ := HS4.out.1.2.cells; obtain ⟨u0, u1, u2⟩ := HS4.out.2.sl; have n3 := HE3.out _ HS4.out.b; simp only at n5; clear hb4))
          go_roundw
          case rel => exact ⟨k + 1, by omega, by go_num, HS4.out.1⟩
          case measure => simp [intOf]; omega
        · have hsg := HSG0.out
          have hsg' : (0 : Int) < (x.segs.length : Int) := by omega
          go_wp2_with fail
          go_ret
          exact ⟨rfl, HSR.out.1⟩
end Go.Proofs.YtacknedekhpklaaGreat
