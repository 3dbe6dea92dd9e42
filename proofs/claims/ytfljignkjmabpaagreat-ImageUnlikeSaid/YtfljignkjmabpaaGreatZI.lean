/-
  Relocations of an image.
  Relocations, one and all (written by mk2.py).
-/
import Derived.Test.YtfljignkjmabpaaGreatZF
import Derived.Deep.RegionHeld
namespace Go.Proofs.YtfljignkjmabpaaGreat
set_option maxRecDepth 100000
set_option linter.unusedSimpArgs false
set_option linter.unusedVariables false
open Go.RowKit

def idxB (n : Nat) (k : Int) : Bool := withB k 0 ((n : Int) - 1)
theorem idx_any (p : Pl) (x : Im) (k : Int) (w : World) (hf : Long x.syms.length) :
    Calls Tryz.prog 181 #[imV p x, .int .i64 k] w fun e w' => e = .returned (.bool (idxB x.syms.length k)) ∧ Below w.heap.size w w' := by
  have HB := Lib.hid (ibox_below w p x)
  obtain ⟨-, -, -, -, -, c5, -⟩ := (Ix.new w p x).cells
  have HW := Lib.hid (fun X => within_any k 0 ((x.syms.length : Int) - 1) X)
  unfold Long at hf
  have e1 : wrap64 ((x.syms.length : Int) - 1) = (x.syms.length : Int) - 1 := wrap_in (by omega) (by omega)
  have HF := Lib.hid (show idxB x.syms.length k = withB k 0 ((x.syms.length : Int) - 1) from rfl)
  generalize withB k 0 ((x.syms.length : Int) - 1) = b at *
  go_enter Tryz.func181, Tryz.ntmps181
  go_upto_region 1 with (fail)
  change Code.wp _ _ _ _ (w.alloc (.cells (imA p x) 40))
  generalize w.alloc (.cells (imA p x) 40) = w1 at *
  go_wp2_with (go_at_call 100; with_reducible refine (HW.out _).mono ?_; rintro e w2 ⟨rfl, rfl⟩)
  go_ret
  exact ⟨by rw [HF.out]; rfl, HB.out⟩
theorem idx_get {n : Nat} {k : Int} (h : idxB n k = true) : ∃ j : Nat, k = j ∧ j < n := by
  unfold idxB withB at h
  simp only [Bool.and_eq_true, decide_eq_true_eq] at h
  exact ⟨k.toNat, by omega, by omega⟩
/-- How many bytes a relocation fills in. -/
def wideI (x : Im) (r : Rl) : Int := if r.kind = 2 then (x.syms.getD r.sym.toNat noSy).size else 8
theorem rl_cells (w : World) (r : Rl) : Bx (w.alloc (.cells (rlA r) 57)) w.heap.size (rlA r) 57 := Bx.new _ _ _
theorem Bx.rl {w : World} {g : Nat} {r : Rl} (h : Bx w g (rlA r) 57) : w.cell? ⟨g, 0, none⟩ = some (.int .i64 r.at_) ∧ w.cell? ⟨g, 1, none⟩ = some (.int .i64 r.kind) ∧ w.cell? ⟨g, 2, none⟩ = some (.int .i64 r.sym) ∧ w.cell? ⟨g, 3, none⟩ = some (.int .i64 r.add) := ⟨h.c 0, h.c 1, h.c 2, h.c 3⟩
theorem im_rl (w : World) (p : Pl) (x : Im) (r : Rl) : ∃ W : World, W = (w.alloc (.cells (imA p x) 40)).alloc (.cells (rlA r) 57) ∧ Below w.heap.size w W ∧ Ix W w.heap.size p x ∧ Bx W (w.heap.size + 1) (rlA r) 57 := by
  refine ⟨_, rfl, (ibox_below w p x).alloc (by simp) _, ⟨(Ix.new w p x).bx.alloc _⟩, ?_⟩
  have := Bx.new (w.alloc (.cells (imA p x) 40)) (rlA r) 57
  simpa using this
theorem permOf_any (r : Rl) (w : World) : Calls Tryz.prog 180 #[.agg (rlA r)] w fun e w' => e = .returned (.int .i64 (if r.kind = 2 then 2 else 0)) ∧ Below w.heap.size w w' := by
  have HB := Lib.hid ((Below.refl w.heap.size w).alloc (Nat.le_refl _) (.cells (rlA r) 57))
  obtain ⟨c0, c1, c2, c3⟩ := (rl_cells w r).rl
  go_enter Tryz.func180, Tryz.ntmps180
  go_upto_region 1 with (fail)
  change Code.wp _ _ _ _ (w.alloc (.cells (rlA r) 57))
  generalize w.alloc (.cells (rlA r) 57) = w1 at *
  by_cases hk : r.kind = 2
  · go_wp2_with fail
    go_ret
    exact ⟨rfl, HB.out⟩
  · go_wp2_with fail
    go_ret
    exact ⟨rfl, HB.out⟩
theorem sizeOf_any (p : Pl) (x : Im) (r : Rl) (w : World) (h : ImIn w (fun k => k < w.heap.size) p x) (hf : Long x.syms.length) (hi : r.kind = 2 → ∃ j : Nat, r.sym = j ∧ j < x.syms.length) :
    Calls Tryz.prog 116 #[imV p x, .agg (rlA r)] w fun e w' => e = .returned (.int .i64 (wideI x r)) ∧ Below w.heap.size w w' := by
  obtain ⟨W, hW, hB, hX, hR⟩ := im_rl w p x r
  have HB := Lib.hid hB
  obtain ⟨-, -, -, -, -, c5, -⟩ := hX.cells
  obtain ⟨d0, d1, d2, d3⟩ := hR.rl
  have HS := Lib.hid (h.lt hB).syms
  clear h hB hX hR
  unfold Long at hf
  go_enter Tryz.func116, Tryz.ntmps116
  go_upto_region 1 with (fail)
  rw [← hW]
  clear hW
  by_cases hk : r.kind = 2
  · obtain ⟨j, hj, hlt⟩ := hi hk
    obtain ⟨ad, hsy⟩ : ∃ ad, p.sy.1 = some ad := by
      cases h0 : p.sy.1 with
      | none => have := (HS.out.nil h0).1; omega
      | some ad => exact ⟨ad, rfl⟩
    rw [hsy] at HS c5
    obtain ⟨b, o, rfl⟩ := HS.out.plain (by omega)
    have hg := HS.out.els.get j hlt
    have e8 := hg 8 _ rfl
    have hv : wideI x r = (x.syms.getD j noSy).size := by unfold wideI; rw [if_pos hk, hj]; rfl
    rw [hj] at d2
    rw [hk] at d1
    clear hg hj hk hi
    have hj0 : (0 : Int) ≤ (j : Int) := by omega
    have hj1 : (j : Int) < (x.syms.length : Int) := by omega
    generalize x.syms.getD j noSy = s at *
    go_wp2_with fail
    go_ret
    exact ⟨by rw [hv]; rfl, HB.out⟩
  · have hv : wideI x r = 8 := by unfold wideI; rw [if_neg hk]
    go_wp2_with fail
    go_ret
    exact ⟨by rw [hv]; rfl, HB.out⟩
def copiedB (s : Sym) (a : Int) : Bool := decide (s.kind = 2) && s.dfd && decide (1 ≤ s.size) && decide (s.val = a)
theorem copied_im_any (s : Sym) (a : Int) (w : World) : Calls Tryz.prog 207 #[symV s, .int .i64 a] w fun e w' => e = .returned (.bool (copiedB s a)) ∧ Below w.heap.size w w' := by
  have HB := Lib.hid (box_below w s)
  obtain ⟨c0, c1, c2, c3, c4, c5, c6, c7, c8⟩ := (Sx.new w s).cells
  have HF := Lib.hid (show copiedB s a = (decide (s.kind = 2) && s.dfd && decide (1 ≤ s.size) && decide (s.val = a)) from rfl)
  go_enter Tryz.func207, Tryz.ntmps207
  go_upto_region 1 with (fail)
  change Code.wp _ _ _ _ (w.alloc (.cells (symA s) 105))
  generalize w.alloc (.cells (symA s) 105) = w1 at *
  go_wp2_with fail
  all_goals
    go_ret
    refine ⟨ret_bool ?_, HB.out⟩
    rw [HF.out]
    simp [*]
  all_goals
    try intros
    try omega
/-- A relocation's symbol and number, by its kind. -/
def kindRB (x : Im) (r : Rl) : Bool :=
  if r.kind = 1 then decide (r.sym = -1) && withB r.add 0 65536
  else if idxB x.syms.length r.sym = false then false
  else if r.kind = 0 ∨ r.kind = 6 then !decide ((x.syms.getD r.sym.toNat noSy).kind = 3)
  else if r.kind = 7 then decide (r.add = 0)
  else if r.kind = 3 then decide ((x.syms.getD r.sym.toNat noSy).kind = 3) && decide (r.add = 0)
  else if r.kind = 4 ∨ r.kind = 5 then decide ((x.syms.getD r.sym.toNat noSy).kind = 3)
  else if r.kind = 2 then !decide (bits .and .i64 x.flags 1 = 0) && copiedB (x.syms.getD r.sym.toNat noSy) r.at_ && decide (r.add = 0)
  else false
set_option maxHeartbeats 4000000 in
theorem fitsKind_any (p : Pl) (x : Im) (r : Rl) (w : World) (h : ImIn w (fun k => k < w.heap.size) p x) (hf : Long x.syms.length) :
    Calls Tryz.prog 179 #[imV p x, .agg (rlA r)] w fun e w' => e = .returned (.bool (kindRB x r)) ∧ Below w.heap.size w w' := by
  obtain ⟨W, hW, hB, hX, hR⟩ := im_rl w p x r
  have HB := Lib.hid hB
  obtain ⟨c0, c1, c2, c3, c4, c5, c6, c7, c8, c9, c10, c11, c12, c13, c14⟩ := hX.cells
  obtain ⟨d0, d1, d2, d3⟩ := hR.rl
  have HS := Lib.hid (h.lt hB).syms
  have HX := Lib.hid hX
  have HR := Lib.hid hR
  have HI := Lib.hid (fun X => idx_any p x r.sym X hf)
  have HW := Lib.hid (fun X => within_any r.add 0 65536 X)
  clear h hB hX hR
  unfold Long at hf
  generalize hbb : kindRB x r = bb
  have HF := Lib.hid hbb
  clear hbb
  go_enter Tryz.func179, Tryz.ntmps179
  go_upto_region 1 with (fail)
  rw [← hW]
  clear hW
  by_cases h1 : r.kind = 1
  · have HV := Lib.hid (show bb = (decide (r.sym = -1) && withB r.add 0 65536) by rw [← HF.out]; unfold kindRB; rw [if_pos h1])
    clear HF
    generalize withB r.add 0 65536 = b1 at *
    go_wp2_with (go_at_call 100; with_reducible refine (HW.out _).mono ?_; rintro e w2 ⟨rfl, rfl⟩)
    all_goals
      go_ret
      refine ⟨ret_bool ?_, HB.out⟩
      rw [HV.out]
      simp [*]
  cases hix : idxB x.syms.length r.sym
  · have HV := Lib.hid (show bb = false by rw [← HF.out]; unfold kindRB; rw [if_neg h1, if_pos hix])
    clear HF
    rw [hix] at HI
    clear hix
    go_wp2_with (go_at_call 181; with_reducible refine (HI.out _).mono ?_; rintro e w2 ⟨rfl, hb2⟩)
    go_ret
    exact ⟨by rw [HV.out]; rfl, HB.out.trans (hb2.mono HB.out.size)⟩
  have HF2 := Lib.hid (show bb = (if r.kind = 0 ∨ r.kind = 6 then !decide ((x.syms.getD r.sym.toNat noSy).kind = 3)
    else if r.kind = 7 then decide (r.add = 0)
    else if r.kind = 3 then decide ((x.syms.getD r.sym.toNat noSy).kind = 3) && decide (r.add = 0)
    else if r.kind = 4 ∨ r.kind = 5 then decide ((x.syms.getD r.sym.toNat noSy).kind = 3)
    else if r.kind = 2 then !decide (bits .and .i64 x.flags 1 = 0) && copiedB (x.syms.getD r.sym.toNat noSy) r.at_ && decide (r.add = 0)
    else false) by rw [← HF.out]; unfold kindRB; rw [if_neg h1, if_neg (by rw [hix]; simp)])
  clear HF
  rw [hix] at HI
  obtain ⟨j, hj, hlt⟩ := idx_get hix
  obtain ⟨ad, hsy⟩ : ∃ ad, p.sy.1 = some ad := by
    cases h0 : p.sy.1 with
    | none => have := (HS.out.nil h0).1; omega
    | some ad => exact ⟨ad, rfl⟩
  rw [hsy] at HS
  obtain ⟨b, o, rfl⟩ := HS.out.plain (by omega)
  have HSY0 := Lib.hid hsy
  clear hix hsy HW
  obtain ⟨ra, rk, rs, rd⟩ := r
  simp only at hj h1 d0 d1 d2 d3 HI HF2 HR
  subst hj
  rw [show ((j : Int)).toNat = j from rfl] at HF2
  have hj0 : (0 : Int) ≤ (j : Int) := by omega
  have hj1 : (j : Int) < (x.syms.length : Int) := by omega
  have HEL := Lib.hid (fun (X : World) (hX : Below W.heap.size W X) => (HS.out.els.below hX (fun _ h => h)).get j hlt)
  generalize x.syms.getD j noSy = s at *
  go_upto_region 6 with (go_at_call 181; with_reducible refine (HI.out _).mono ?_; rintro e w2 ⟨rfl, hb2⟩; have HB2 := Lib.hid (HB.out.trans (hb2.mono HB.out.size)); obtain ⟨-, f1, -, -, -, f5, -⟩ := (HX.out.below hb2).cells; rw [HSY0.out] at f5; obtain ⟨g0, g1, g2, g3⟩ := (HR.out.below hb2).rl; have hg := HEL.out _ hb2; have e0 := hg 0 _ rfl; have e1 := hg 1 _ rfl; have e2 := hg 2 _ rfl; have e3 := hg 3 _ rfl; have e4 := hg 4 _ rfl; have e5 := hg 5 _ rfl; have e6 := hg 6 _ rfl; have e7 := hg 7 _ rfl; have e8 := hg 8 _ rfl; simp only [Nat.add_zero] at e0 g0 g1 g2 g3; have HXR := Lib.hid (HR.out.below hb2); clear hg hb2 c0 c1 c2 c3 c4 c5 c6 c7 c8 c9 c10 c11 c12 c13 c14 d0 d1 d2 d3)
  clear e0 e1 e2 e3 e4 e5 e6 e7 e8 HS HEL HI HR HX hj0 hj1
  have HB3 := Lib.hid (HB2.out.trans ((box_below w2 s).mono HB2.out.size))
  have hx3 := Sx.new w2 s
  have hr3 := (HXR.out.below (box_below w2 s)).rl
  have f3 := cell_below (box_below w2 s) f1
  have hz3 : w2.heap.size < (w2.alloc (.cells (symA s) 105)).heap.size := by simp
  change Code.wp _ _ _ _ (w2.alloc (.cells (symA s) 105))
  generalize w2.alloc (.cells (symA s) 105) = w3 at *
  clear f1 f5 g0 g1 g2 g3 HXR
  obtain ⟨g0, g1, g2, g3⟩ := hr3
  simp only at g0 g1 g2 g3
  obtain ⟨x0, x1, x2, x3, x4, x5, x6, x7, x8⟩ := hx3.cells
  clear hx3
  have HCP := Lib.hid (copied_im_any s ra w3)
  by_cases k0 : rk = 0
  · subst k0
    have HV := Lib.hid (show bb = !decide (s.kind = 3) by rw [HF2.out]; rfl)
    clear HF2
    go_wp2_with fail
    all_goals
      go_ret
      refine ⟨ret_bool ?_, HB3.out⟩
      rw [HV.out]
      simp [*]
  by_cases k6 : rk = 6
  · subst k6
    have HV := Lib.hid (show bb = !decide (s.kind = 3) by rw [HF2.out]; rfl)
    clear HF2
    go_wp2_with fail
    all_goals
      go_ret
      refine ⟨ret_bool ?_, HB3.out⟩
      rw [HV.out]
      simp [*]
  by_cases k7 : rk = 7
  · subst k7
    have HV := Lib.hid (show bb = decide (rd = 0) by rw [HF2.out]; rfl)
    clear HF2
    go_wp2_with fail
    all_goals
      go_ret
      refine ⟨ret_bool ?_, HB3.out⟩
      rw [HV.out]
      simp [*]
  by_cases k3 : rk = 3
  · subst k3
    have HV := Lib.hid (show bb = (decide (s.kind = 3) && decide (rd = 0)) by rw [HF2.out]; rfl)
    clear HF2
    go_wp2_with fail
    all_goals
      go_ret
      refine ⟨ret_bool ?_, HB3.out⟩
      rw [HV.out]
      simp [*]
  by_cases k4 : rk = 4
  · subst k4
    have HV := Lib.hid (show bb = decide (s.kind = 3) by rw [HF2.out]; rfl)
    clear HF2
    go_wp2_with fail
    all_goals
      go_ret
      refine ⟨ret_bool ?_, HB3.out⟩
      rw [HV.out]
      simp [*]
  by_cases k5 : rk = 5
  · subst k5
    have HV := Lib.hid (show bb = decide (s.kind = 3) by rw [HF2.out]; rfl)
    clear HF2
    go_wp2_with fail
    all_goals
      go_ret
      refine ⟨ret_bool ?_, HB3.out⟩
      rw [HV.out]
      simp [*]
  by_cases k2 : rk = 2
  · subst k2
    have HV := Lib.hid (show bb = (!decide (bits .and .i64 x.flags 1 = 0) && copiedB s ra && decide (rd = 0)) by rw [HF2.out]; rfl)
    clear HF2
    generalize copiedB s ra = cb at *
    have hgr := HB3.out.size
    go_wp2_with (go_at_call 207; with_reducible refine (HCP.out).mono ?_; rintro e w4 ⟨rfl, hb4⟩; have HB4 := Lib.hid (HB3.out.trans (hb4.mono HB3.out.size)); have g3' := cell_below hb4 g3; clear hb4)
    all_goals
      go_ret
      rw [HV.out]
      first
        | (refine ⟨ret_bool ?_, HB4.out⟩; simp [*]; done)
        | (refine ⟨ret_bool ?_, HB3.out⟩; simp [*]; done)
  · have HV := Lib.hid (show bb = false by rw [HF2.out, if_neg (by omega), if_neg k7, if_neg k3, if_neg (by omega), if_neg k2])
    clear HF2
    go_wp2_with fail
    all_goals
      go_ret
      refine ⟨ret_bool ?_, HB3.out⟩
      rw [HV.out]
end Go.Proofs.YtfljignkjmabpaaGreat

namespace Go.Proofs.YtfljignkjmabpaaGreat
set_option maxRecDepth 100000
set_option linter.unusedSimpArgs false
set_option linter.unusedVariables false
open Go.RowKit

theorem take_at {P : Program} {md : Region.Mode} {ops : Array Oper} {Q : Exit → Act → World → Prop} {S : World → Prop} {i : Nat} {oi : Oper} {d : Tmp} {v : Value} {fuel : Nat} {listed : Array Bool} {a : Act} {w : World} (hi : ops[i]? = some oi) (hd : oi.dst = some d)
    (hs : Region.noSelect ops = true) (hf : Region.free md ops listed i = true) (hr : (Region.ready md ops listed).contains i = true)
    (hQ : ∀ c a w, Q (.panic c) (a.put (some d) v) w → Q (.panic c) a w) (hy : YieldsIf P ops S oi v a) (hS : S w)
    (h : wpAnyH P md ops Q S fuel (listed.setIfInBounds i true) (a.put (some d) v) w) : wpAnyH P md ops Q S (fuel + 1) listed a w :=
  wpAnyH_take hi hs hf hr (by rw [hd]; exact hQ) hy hS (by rw [hd]; exact h)
def relB (x : Im) (r : Rl) : Bool := withB r.add (-4294967296) 4294967296 && kindRB x r && standB x.segs r.at_ (wideI x r) (if r.kind = 2 then 2 else 0)
theorem kind_idx {x : Im} {r : Rl} (h : kindRB x r = true) (hk : r.kind = 2) : ∃ j : Nat, r.sym = j ∧ j < x.syms.length := by
  unfold kindRB at h
  rw [if_neg (by omega)] at h
  by_cases hi : idxB x.syms.length r.sym = false
  · rw [if_pos hi] at h; cases h
  · exact idx_get (by simpa using hi)
/-- What an image's box and a relocation's hold. -/
def RS (w : World) (p : Pl) (x : Im) (r : Rl) (X : World) : Prop := Below w.heap.size w X ∧ Ix X w.heap.size p x ∧ Bx X (w.heap.size + 1) (rlA r) 57
theorem RS.on {w X Y : World} {p : Pl} {x : Im} {r : Rl} (h : RS w p x r X) (hb : Below X.heap.size X Y) : RS w p x r Y := ⟨h.1.trans (hb.mono h.1.size), h.2.1.below hb, h.2.2.below hb⟩
set_option maxHeartbeats 4000000 in
theorem isReloc_any (p : Pl) (x : Im) (r : Rl) (w : World) (h : ImIn w (fun k => k < w.heap.size) p x) (hf : Fit x) (hs : ∀ s ∈ x.segs, SegOk s) (hz : kindRB x r = true → 0 ≤ wideI x r ∧ wideI x r ≤ 9223372036854775807) :
    Calls Tryz.prog 114 #[imV p x, .agg (rlA r)] w fun e w' => e = .returned (.bool (relB x r)) ∧ Below w.heap.size w w' := by
  obtain ⟨W, hW, hB, hX, hR⟩ := im_rl w p x r
  have HS := Lib.hid ((show RS w p x r W from ⟨hB, hX, hR⟩).on (drew_below W))
  have HW := Lib.hid (fun X => within_any r.add (-4294967296) 4294967296 X)
  have HFK := Lib.hid (fun (X : World) (hX : Below w.heap.size w X) => fitsKind_any p x r X (h.lt hX) hf.syms)
  have HPO := Lib.hid (fun (X : World) => permOf_any r X)
  have HSO0 := Lib.hid (fun (hk : kindRB x r = true) (X : World) (hX : Below w.heap.size w X) => sizeOf_any p x r X (h.lt hX) hf.syms (kind_idx hk))
  have HHS0 := Lib.hid (fun (hk : kindRB x r = true) (X : World) (hX : Below w.heap.size w X) => has_img p x r.at_ (wideI x r) (if r.kind = 2 then 2 else 0) X (h.lt hX) hf.segs hs (hz hk).1 (hz hk).2)
  have HF := Lib.hid (show relB x r = (withB r.add (-4294967296) 4294967296 && kindRB x r && standB x.segs r.at_ (wideI x r) (if r.kind = 2 then 2 else 0)) from rfl)
  generalize withB r.add (-4294967296) 4294967296 = b1 at *
  generalize kindRB x r = b2 at *
  generalize standB x.segs r.at_ (wideI x r) (if r.kind = 2 then 2 else 0) = b3 at *
  generalize wideI x r = wd at *
  generalize (if r.kind = 2 then 2 else 0 : Int) = pm at *
  clear h hf hs hz hB hX hR
  go_enter Tryz.func114, Tryz.ntmps114
  go_upto_region 1 with (fail)
  rw [← hW]
  clear hW
  cases b1
  · clear HFK HPO HSO0 HHS0
    refine wp_region_held_drew (S := RS w p x r) (by kernel_rfl) HS.out (fun hHeld0 => ?_)
    refine take_at (i := 0) (d := 5) (v := .pointer (some ⟨w.heap.size + 1, 3, none⟩)) rfl rfl (by kernel_rfl) (by kernel_rfl) (by kernel_rfl) (fun _ _ _ h => h) (Or.inl ⟨by rfl, ?_⟩) (by assumption) ?_
    · intro X hX; go_simp
    (try simp only [Act.put, List.setIfInBounds_toArray, List.set_cons_zero, List.set_cons_succ])
    refine take_at (i := 1) (d := 6) (v := .int .i64 r.add) rfl rfl (by kernel_rfl) (by kernel_rfl) (by kernel_rfl) (fun _ _ _ h => h) (Or.inl ⟨by rfl, ?_⟩) (by assumption) ?_
    · intro X hX; obtain ⟨-, hI, hJ⟩ := hX; obtain ⟨d0, d1, d2, d3⟩ := hJ.rl; go_simp
    (try simp only [Act.put, List.setIfInBounds_toArray, List.set_cons_zero, List.set_cons_succ])
    refine wpAnyH_ready (rs := [2]) (by kernel_rfl) (by simp) ?_
    refine AllReadyH.cons rfl (fun K hK => ?_) AllReadyH.nil
    go_simp
    refine (HW.out _).mono ?_
    rintro e wq1 ⟨rfl, rfl⟩
    go_simp
    refine hK.out _ _ hHeld0 (fun hHeld1 => ?_)
    clear hK K
    (try simp only [Act.put, List.setIfInBounds_toArray, List.set_cons_zero, List.set_cons_succ])
    refine take_at (i := 3) (d := 8) (v := .bool false) rfl rfl (by kernel_rfl) (by kernel_rfl) (by kernel_rfl) (fun _ _ _ h => h) (Or.inl ⟨by rfl, ?_⟩) (by assumption) ?_
    · intro X hX; go_simp
    (try simp only [Act.put, List.setIfInBounds_toArray, List.set_cons_zero, List.set_cons_succ])
    refine take_at (i := 4) (d := 9) (v := undef) rfl rfl (by kernel_rfl) (by kernel_rfl) (by kernel_rfl) (fun _ _ _ h => h) (Or.inr ⟨by rfl, rfl⟩) (by assumption) ?_
    (try simp only [Act.put, List.setIfInBounds_toArray, List.set_cons_zero, List.set_cons_succ])
    refine take_at (i := 5) (d := 10) (v := undef) rfl rfl (by kernel_rfl) (by kernel_rfl) (by kernel_rfl) (fun _ _ _ h => h) (Or.inr ⟨by rfl, rfl⟩) (by assumption) ?_
    (try simp only [Act.put, List.setIfInBounds_toArray, List.set_cons_zero, List.set_cons_succ])
    refine take_at (i := 6) (d := 11) (v := undef) rfl rfl (by kernel_rfl) (by kernel_rfl) (by kernel_rfl) (fun _ _ _ h => h) (Or.inr ⟨by rfl, rfl⟩) (by assumption) ?_
    (try simp only [Act.put, List.setIfInBounds_toArray, List.set_cons_zero, List.set_cons_succ])
    refine take_at (i := 7) (d := 12) (v := .bool false) rfl rfl (by kernel_rfl) (by kernel_rfl) (by kernel_rfl) (fun _ _ _ h => h) (Or.inl ⟨by rfl, ?_⟩) (by assumption) ?_
    · intro X hX; go_simp
    (try simp only [Act.put, List.setIfInBounds_toArray, List.set_cons_zero, List.set_cons_succ])
    refine take_at (i := 8) (d := 13) (v := .bool false) rfl rfl (by kernel_rfl) (by kernel_rfl) (by kernel_rfl) (fun _ _ _ h => h) (Or.inl ⟨by rfl, ?_⟩) (by assumption) ?_
    · intro X hX; go_simp
    (try simp only [Act.put, List.setIfInBounds_toArray, List.set_cons_zero, List.set_cons_succ])
    refine take_at (i := 9) (d := 14) (v := undef) rfl rfl (by kernel_rfl) (by kernel_rfl) (by kernel_rfl) (fun _ _ _ h => h) (Or.inr ⟨by rfl, rfl⟩) (by assumption) ?_
    (try simp only [Act.put, List.setIfInBounds_toArray, List.set_cons_zero, List.set_cons_succ])
    refine take_at (i := 10) (d := 15) (v := undef) rfl rfl (by kernel_rfl) (by kernel_rfl) (by kernel_rfl) (fun _ _ _ h => h) (Or.inr ⟨by rfl, rfl⟩) (by assumption) ?_
    (try simp only [Act.put, List.setIfInBounds_toArray, List.set_cons_zero, List.set_cons_succ])
    refine take_at (i := 11) (d := 16) (v := undef) rfl rfl (by kernel_rfl) (by kernel_rfl) (by kernel_rfl) (fun _ _ _ h => h) (Or.inr ⟨by rfl, rfl⟩) (by assumption) ?_
    (try simp only [Act.put, List.setIfInBounds_toArray, List.set_cons_zero, List.set_cons_succ])
    refine take_at (i := 12) (d := 17) (v := undef) rfl rfl (by kernel_rfl) (by kernel_rfl) (by kernel_rfl) (fun _ _ _ h => h) (Or.inr ⟨by rfl, rfl⟩) (by assumption) ?_
    (try simp only [Act.put, List.setIfInBounds_toArray, List.set_cons_zero, List.set_cons_succ])
    refine take_at (i := 13) (d := 18) (v := undef) rfl rfl (by kernel_rfl) (by kernel_rfl) (by kernel_rfl) (fun _ _ _ h => h) (Or.inr ⟨by rfl, rfl⟩) (by assumption) ?_
    (try simp only [Act.put, List.setIfInBounds_toArray, List.set_cons_zero, List.set_cons_succ])
    refine take_at (i := 14) (d := 19) (v := undef) rfl rfl (by kernel_rfl) (by kernel_rfl) (by kernel_rfl) (fun _ _ _ h => h) (Or.inr ⟨by rfl, rfl⟩) (by assumption) ?_
    (try simp only [Act.put, List.setIfInBounds_toArray, List.set_cons_zero, List.set_cons_succ])
    refine take_at (i := 15) (d := 20) (v := undef) rfl rfl (by kernel_rfl) (by kernel_rfl) (by kernel_rfl) (fun _ _ _ h => h) (Or.inr ⟨by rfl, rfl⟩) (by assumption) ?_
    (try simp only [Act.put, List.setIfInBounds_toArray, List.set_cons_zero, List.set_cons_succ])
    refine take_at (i := 16) (d := 21) (v := undef) rfl rfl (by kernel_rfl) (by kernel_rfl) (by kernel_rfl) (fun _ _ _ h => h) (Or.inr ⟨by rfl, rfl⟩) (by assumption) ?_
    (try simp only [Act.put, List.setIfInBounds_toArray, List.set_cons_zero, List.set_cons_succ])
    refine take_at (i := 17) (d := 22) (v := undef) rfl rfl (by kernel_rfl) (by kernel_rfl) (by kernel_rfl) (fun _ _ _ h => h) (Or.inr ⟨by rfl, rfl⟩) (by assumption) ?_
    (try simp only [Act.put, List.setIfInBounds_toArray, List.set_cons_zero, List.set_cons_succ])
    refine take_at (i := 18) (d := 23) (v := .bool false) rfl rfl (by kernel_rfl) (by kernel_rfl) (by kernel_rfl) (fun _ _ _ h => h) (Or.inl ⟨by rfl, ?_⟩) (by assumption) ?_
    · intro X hX; go_simp
    (try simp only [Act.put, List.setIfInBounds_toArray, List.set_cons_zero, List.set_cons_succ])
    refine take_at (i := 19) (d := 4) (v := .bool false) rfl rfl (by kernel_rfl) (by kernel_rfl) (by kernel_rfl) (fun _ _ _ h => h) (Or.inl ⟨by rfl, ?_⟩) (by assumption) ?_
    · intro X hX; go_simp
    (try simp only [Act.put, List.setIfInBounds_toArray, List.set_cons_zero, List.set_cons_succ])
    refine wpAnyH_done (by kernel_rfl) ?_ _
    go_wp2_with fail
    first | go_ret | skip
    exact ⟨by rw [HF.out]; rfl, hHeld1.1⟩
  cases b2
  · clear HPO HSO0 HHS0
    refine wp_region_held_drew (S := RS w p x r) (by kernel_rfl) HS.out (fun hHeld0 => ?_)
    refine take_at (i := 0) (d := 5) (v := .pointer (some ⟨w.heap.size + 1, 3, none⟩)) rfl rfl (by kernel_rfl) (by kernel_rfl) (by kernel_rfl) (fun _ _ _ h => h) (Or.inl ⟨by rfl, ?_⟩) (by assumption) ?_
    · intro X hX; go_simp
    (try simp only [Act.put, List.setIfInBounds_toArray, List.set_cons_zero, List.set_cons_succ])
    refine take_at (i := 1) (d := 6) (v := .int .i64 r.add) rfl rfl (by kernel_rfl) (by kernel_rfl) (by kernel_rfl) (fun _ _ _ h => h) (Or.inl ⟨by rfl, ?_⟩) (by assumption) ?_
    · intro X hX; obtain ⟨-, hI, hJ⟩ := hX; obtain ⟨d0, d1, d2, d3⟩ := hJ.rl; go_simp
    (try simp only [Act.put, List.setIfInBounds_toArray, List.set_cons_zero, List.set_cons_succ])
    refine wpAnyH_ready (rs := [2]) (by kernel_rfl) (by simp) ?_
    refine AllReadyH.cons rfl (fun K hK => ?_) AllReadyH.nil
    go_simp
    refine (HW.out _).mono ?_
    rintro e wq1 ⟨rfl, rfl⟩
    go_simp
    refine hK.out _ _ hHeld0 (fun hHeld1 => ?_)
    clear hK K
    (try simp only [Act.put, List.setIfInBounds_toArray, List.set_cons_zero, List.set_cons_succ])
    refine take_at (i := 3) (d := 8) (v := .bool true) rfl rfl (by kernel_rfl) (by kernel_rfl) (by kernel_rfl) (fun _ _ _ h => h) (Or.inl ⟨by rfl, ?_⟩) (by assumption) ?_
    · intro X hX; go_simp
    (try simp only [Act.put, List.setIfInBounds_toArray, List.set_cons_zero, List.set_cons_succ])
    refine take_at (i := 4) (d := 9) (v := imV p x) rfl rfl (by kernel_rfl) (by kernel_rfl) (by kernel_rfl) (fun _ _ _ h => h) (Or.inl ⟨by rfl, ?_⟩) (by assumption) ?_
    · intro X hX; obtain ⟨-, hI, hJ⟩ := hX; obtain ⟨c0, c1, c2, c3, c4, c5, c6, c7, c8, c9, c10, c11, c12, c13, c14⟩ := hI.cells; go_simp
    (try simp only [Act.put, List.setIfInBounds_toArray, List.set_cons_zero, List.set_cons_succ])
    refine take_at (i := 5) (d := 10) (v := .agg (rlA r)) rfl rfl (by kernel_rfl) (by kernel_rfl) (by kernel_rfl) (fun _ _ _ h => h) (Or.inl ⟨by rfl, ?_⟩) (by assumption) ?_
    · intro X hX; obtain ⟨-, hI, hJ⟩ := hX; obtain ⟨d0, d1, d2, d3⟩ := hJ.rl; go_simp
    (try simp only [Act.put, List.setIfInBounds_toArray, List.set_cons_zero, List.set_cons_succ])
    refine wpAnyH_ready (rs := [6]) (by kernel_rfl) (by simp) ?_
    refine AllReadyH.cons rfl (fun K hK => ?_) AllReadyH.nil
    go_simp
    refine (HFK.out _ hHeld1.1).mono ?_
    rintro e wq2 ⟨rfl, hq2⟩
    go_simp
    refine hK.out _ _ ((hHeld1).on hq2) (fun hHeld2 => ?_)
    clear hK K
    (try simp only [Act.put, List.setIfInBounds_toArray, List.set_cons_zero, List.set_cons_succ])
    refine take_at (i := 7) (d := 12) (v := .bool false) rfl rfl (by kernel_rfl) (by kernel_rfl) (by kernel_rfl) (fun _ _ _ h => h) (Or.inl ⟨by rfl, ?_⟩) (by assumption) ?_
    · intro X hX; go_simp
    (try simp only [Act.put, List.setIfInBounds_toArray, List.set_cons_zero, List.set_cons_succ])
    refine take_at (i := 8) (d := 13) (v := .bool false) rfl rfl (by kernel_rfl) (by kernel_rfl) (by kernel_rfl) (fun _ _ _ h => h) (Or.inl ⟨by rfl, ?_⟩) (by assumption) ?_
    · intro X hX; go_simp
    (try simp only [Act.put, List.setIfInBounds_toArray, List.set_cons_zero, List.set_cons_succ])
    refine take_at (i := 9) (d := 14) (v := undef) rfl rfl (by kernel_rfl) (by kernel_rfl) (by kernel_rfl) (fun _ _ _ h => h) (Or.inr ⟨by rfl, rfl⟩) (by assumption) ?_
    (try simp only [Act.put, List.setIfInBounds_toArray, List.set_cons_zero, List.set_cons_succ])
    refine take_at (i := 10) (d := 15) (v := undef) rfl rfl (by kernel_rfl) (by kernel_rfl) (by kernel_rfl) (fun _ _ _ h => h) (Or.inr ⟨by rfl, rfl⟩) (by assumption) ?_
    (try simp only [Act.put, List.setIfInBounds_toArray, List.set_cons_zero, List.set_cons_succ])
    refine take_at (i := 11) (d := 16) (v := undef) rfl rfl (by kernel_rfl) (by kernel_rfl) (by kernel_rfl) (fun _ _ _ h => h) (Or.inr ⟨by rfl, rfl⟩) (by assumption) ?_
    (try simp only [Act.put, List.setIfInBounds_toArray, List.set_cons_zero, List.set_cons_succ])
    refine take_at (i := 12) (d := 17) (v := undef) rfl rfl (by kernel_rfl) (by kernel_rfl) (by kernel_rfl) (fun _ _ _ h => h) (Or.inr ⟨by rfl, rfl⟩) (by assumption) ?_
    (try simp only [Act.put, List.setIfInBounds_toArray, List.set_cons_zero, List.set_cons_succ])
    refine take_at (i := 13) (d := 18) (v := undef) rfl rfl (by kernel_rfl) (by kernel_rfl) (by kernel_rfl) (fun _ _ _ h => h) (Or.inr ⟨by rfl, rfl⟩) (by assumption) ?_
    (try simp only [Act.put, List.setIfInBounds_toArray, List.set_cons_zero, List.set_cons_succ])
    refine take_at (i := 14) (d := 19) (v := undef) rfl rfl (by kernel_rfl) (by kernel_rfl) (by kernel_rfl) (fun _ _ _ h => h) (Or.inr ⟨by rfl, rfl⟩) (by assumption) ?_
    (try simp only [Act.put, List.setIfInBounds_toArray, List.set_cons_zero, List.set_cons_succ])
    refine take_at (i := 15) (d := 20) (v := undef) rfl rfl (by kernel_rfl) (by kernel_rfl) (by kernel_rfl) (fun _ _ _ h => h) (Or.inr ⟨by rfl, rfl⟩) (by assumption) ?_
    (try simp only [Act.put, List.setIfInBounds_toArray, List.set_cons_zero, List.set_cons_succ])
    refine take_at (i := 16) (d := 21) (v := undef) rfl rfl (by kernel_rfl) (by kernel_rfl) (by kernel_rfl) (fun _ _ _ h => h) (Or.inr ⟨by rfl, rfl⟩) (by assumption) ?_
    (try simp only [Act.put, List.setIfInBounds_toArray, List.set_cons_zero, List.set_cons_succ])
    refine take_at (i := 17) (d := 22) (v := undef) rfl rfl (by kernel_rfl) (by kernel_rfl) (by kernel_rfl) (fun _ _ _ h => h) (Or.inr ⟨by rfl, rfl⟩) (by assumption) ?_
    (try simp only [Act.put, List.setIfInBounds_toArray, List.set_cons_zero, List.set_cons_succ])
    refine take_at (i := 18) (d := 23) (v := .bool false) rfl rfl (by kernel_rfl) (by kernel_rfl) (by kernel_rfl) (fun _ _ _ h => h) (Or.inl ⟨by rfl, ?_⟩) (by assumption) ?_
    · intro X hX; go_simp
    (try simp only [Act.put, List.setIfInBounds_toArray, List.set_cons_zero, List.set_cons_succ])
    refine take_at (i := 19) (d := 4) (v := .bool false) rfl rfl (by kernel_rfl) (by kernel_rfl) (by kernel_rfl) (fun _ _ _ h => h) (Or.inl ⟨by rfl, ?_⟩) (by assumption) ?_
    · intro X hX; go_simp
    (try simp only [Act.put, List.setIfInBounds_toArray, List.set_cons_zero, List.set_cons_succ])
    refine wpAnyH_done (by kernel_rfl) ?_ _
    go_wp2_with fail
    first | go_ret | skip
    exact ⟨by rw [HF.out]; rfl, hHeld2.1⟩
  have HSO := Lib.hid (HSO0.out rfl)
  have HHS := Lib.hid (HHS0.out rfl)
  clear HSO0 HHS0
  refine wp_region_held_drew (S := RS w p x r) (by kernel_rfl) HS.out (fun hHeld0 => ?_)
  refine take_at (i := 0) (d := 5) (v := .pointer (some ⟨w.heap.size + 1, 3, none⟩)) rfl rfl (by kernel_rfl) (by kernel_rfl) (by kernel_rfl) (fun _ _ _ h => h) (Or.inl ⟨by rfl, ?_⟩) (by assumption) ?_
  · intro X hX; go_simp
  (try simp only [Act.put, List.setIfInBounds_toArray, List.set_cons_zero, List.set_cons_succ])
  refine take_at (i := 1) (d := 6) (v := .int .i64 r.add) rfl rfl (by kernel_rfl) (by kernel_rfl) (by kernel_rfl) (fun _ _ _ h => h) (Or.inl ⟨by rfl, ?_⟩) (by assumption) ?_
  · intro X hX; obtain ⟨-, hI, hJ⟩ := hX; obtain ⟨d0, d1, d2, d3⟩ := hJ.rl; go_simp
  (try simp only [Act.put, List.setIfInBounds_toArray, List.set_cons_zero, List.set_cons_succ])
  refine wpAnyH_ready (rs := [2]) (by kernel_rfl) (by simp) ?_
  refine AllReadyH.cons rfl (fun K hK => ?_) AllReadyH.nil
  go_simp
  refine (HW.out _).mono ?_
  rintro e wq1 ⟨rfl, rfl⟩
  go_simp
  refine hK.out _ _ hHeld0 (fun hHeld1 => ?_)
  clear hK K
  (try simp only [Act.put, List.setIfInBounds_toArray, List.set_cons_zero, List.set_cons_succ])
  refine take_at (i := 3) (d := 8) (v := .bool true) rfl rfl (by kernel_rfl) (by kernel_rfl) (by kernel_rfl) (fun _ _ _ h => h) (Or.inl ⟨by rfl, ?_⟩) (by assumption) ?_
  · intro X hX; go_simp
  (try simp only [Act.put, List.setIfInBounds_toArray, List.set_cons_zero, List.set_cons_succ])
  refine take_at (i := 4) (d := 9) (v := imV p x) rfl rfl (by kernel_rfl) (by kernel_rfl) (by kernel_rfl) (fun _ _ _ h => h) (Or.inl ⟨by rfl, ?_⟩) (by assumption) ?_
  · intro X hX; obtain ⟨-, hI, hJ⟩ := hX; obtain ⟨c0, c1, c2, c3, c4, c5, c6, c7, c8, c9, c10, c11, c12, c13, c14⟩ := hI.cells; go_simp
  (try simp only [Act.put, List.setIfInBounds_toArray, List.set_cons_zero, List.set_cons_succ])
  refine take_at (i := 5) (d := 10) (v := .agg (rlA r)) rfl rfl (by kernel_rfl) (by kernel_rfl) (by kernel_rfl) (fun _ _ _ h => h) (Or.inl ⟨by rfl, ?_⟩) (by assumption) ?_
  · intro X hX; obtain ⟨-, hI, hJ⟩ := hX; obtain ⟨d0, d1, d2, d3⟩ := hJ.rl; go_simp
  (try simp only [Act.put, List.setIfInBounds_toArray, List.set_cons_zero, List.set_cons_succ])
  refine wpAnyH_ready (rs := [6]) (by kernel_rfl) (by simp) ?_
  refine AllReadyH.cons rfl (fun K hK => ?_) AllReadyH.nil
  go_simp
  refine (HFK.out _ hHeld1.1).mono ?_
  rintro e wq2 ⟨rfl, hq2⟩
  go_simp
  refine hK.out _ _ ((hHeld1).on hq2) (fun hHeld2 => ?_)
  clear hK K
  (try simp only [Act.put, List.setIfInBounds_toArray, List.set_cons_zero, List.set_cons_succ])
  refine take_at (i := 7) (d := 12) (v := .bool true) rfl rfl (by kernel_rfl) (by kernel_rfl) (by kernel_rfl) (fun _ _ _ h => h) (Or.inl ⟨by rfl, ?_⟩) (by assumption) ?_
  · intro X hX; go_simp
  (try simp only [Act.put, List.setIfInBounds_toArray, List.set_cons_zero, List.set_cons_succ])
  refine take_at (i := 8) (d := 13) (v := .bool true) rfl rfl (by kernel_rfl) (by kernel_rfl) (by kernel_rfl) (fun _ _ _ h => h) (Or.inl ⟨by rfl, ?_⟩) (by assumption) ?_
  · intro X hX; go_simp
  (try simp only [Act.put, List.setIfInBounds_toArray, List.set_cons_zero, List.set_cons_succ])
  refine take_at (i := 9) (d := 14) (v := imV p x) rfl rfl (by kernel_rfl) (by kernel_rfl) (by kernel_rfl) (fun _ _ _ h => h) (Or.inl ⟨by rfl, ?_⟩) (by assumption) ?_
  · intro X hX; obtain ⟨-, hI, hJ⟩ := hX; obtain ⟨c0, c1, c2, c3, c4, c5, c6, c7, c8, c9, c10, c11, c12, c13, c14⟩ := hI.cells; go_simp
  (try simp only [Act.put, List.setIfInBounds_toArray, List.set_cons_zero, List.set_cons_succ])
  refine take_at (i := 10) (d := 15) (v := .pointer (some ⟨w.heap.size + 1, 0, none⟩)) rfl rfl (by kernel_rfl) (by kernel_rfl) (by kernel_rfl) (fun _ _ _ h => h) (Or.inl ⟨by rfl, ?_⟩) (by assumption) ?_
  · intro X hX; go_simp
  (try simp only [Act.put, List.setIfInBounds_toArray, List.set_cons_zero, List.set_cons_succ])
  refine take_at (i := 11) (d := 16) (v := .int .i64 r.at_) rfl rfl (by kernel_rfl) (by kernel_rfl) (by kernel_rfl) (fun _ _ _ h => h) (Or.inl ⟨by rfl, ?_⟩) (by assumption) ?_
  · intro X hX; obtain ⟨-, hI, hJ⟩ := hX; obtain ⟨d0, d1, d2, d3⟩ := hJ.rl; go_simp
  (try simp only [Act.put, List.setIfInBounds_toArray, List.set_cons_zero, List.set_cons_succ])
  refine take_at (i := 12) (d := 17) (v := imV p x) rfl rfl (by kernel_rfl) (by kernel_rfl) (by kernel_rfl) (fun _ _ _ h => h) (Or.inl ⟨by rfl, ?_⟩) (by assumption) ?_
  · intro X hX; obtain ⟨-, hI, hJ⟩ := hX; obtain ⟨c0, c1, c2, c3, c4, c5, c6, c7, c8, c9, c10, c11, c12, c13, c14⟩ := hI.cells; go_simp
  (try simp only [Act.put, List.setIfInBounds_toArray, List.set_cons_zero, List.set_cons_succ])
  refine take_at (i := 13) (d := 18) (v := .agg (rlA r)) rfl rfl (by kernel_rfl) (by kernel_rfl) (by kernel_rfl) (fun _ _ _ h => h) (Or.inl ⟨by rfl, ?_⟩) (by assumption) ?_
  · intro X hX; obtain ⟨-, hI, hJ⟩ := hX; obtain ⟨d0, d1, d2, d3⟩ := hJ.rl; go_simp
  (try simp only [Act.put, List.setIfInBounds_toArray, List.set_cons_zero, List.set_cons_succ])
  refine take_at (i := 15) (d := 20) (v := .agg (rlA r)) rfl rfl (by kernel_rfl) (by kernel_rfl) (by kernel_rfl) (fun _ _ _ h => h) (Or.inl ⟨by rfl, ?_⟩) (by assumption) ?_
  · intro X hX; obtain ⟨-, hI, hJ⟩ := hX; obtain ⟨d0, d1, d2, d3⟩ := hJ.rl; go_simp
  (try simp only [Act.put, List.setIfInBounds_toArray, List.set_cons_zero, List.set_cons_succ])
  refine wpAnyH_ready (rs := [14]) (by kernel_rfl) (by simp) ?_
  refine AllReadyH.cons rfl (fun K hK => ?_) AllReadyH.nil
  go_simp
  refine (HSO.out _ hHeld2.1).mono ?_
  rintro e wq3 ⟨rfl, hq3⟩
  go_simp
  refine hK.out _ _ ((hHeld2).on hq3) (fun hHeld3 => ?_)
  clear hK K
  (try simp only [Act.put, List.setIfInBounds_toArray, List.set_cons_zero, List.set_cons_succ])
  refine wpAnyH_ready (rs := [16]) (by kernel_rfl) (by simp) ?_
  refine AllReadyH.cons rfl (fun K hK => ?_) AllReadyH.nil
  go_simp
  refine (HPO.out _).mono ?_
  rintro e wq4 ⟨rfl, hq4⟩
  go_simp
  refine hK.out _ _ ((hHeld3).on hq4) (fun hHeld4 => ?_)
  clear hK K
  (try simp only [Act.put, List.setIfInBounds_toArray, List.set_cons_zero, List.set_cons_succ])
  refine wpAnyH_ready (rs := [17]) (by kernel_rfl) (by simp) ?_
  refine AllReadyH.cons rfl (fun K hK => ?_) AllReadyH.nil
  go_simp
  refine (HHS.out _ hHeld4.1).mono ?_
  rintro e wq5 ⟨rfl, hq5⟩
  go_simp
  refine hK.out _ _ ((hHeld4).on hq5) (fun hHeld5 => ?_)
  clear hK K
  (try simp only [Act.put, List.setIfInBounds_toArray, List.set_cons_zero, List.set_cons_succ])
  refine take_at (i := 18) (d := 23) (v := .bool b3) rfl rfl (by kernel_rfl) (by kernel_rfl) (by kernel_rfl) (fun _ _ _ h => h) (Or.inl ⟨by rfl, ?_⟩) (by assumption) ?_
  · intro X hX; go_simp
  (try simp only [Act.put, List.setIfInBounds_toArray, List.set_cons_zero, List.set_cons_succ])
  refine take_at (i := 19) (d := 4) (v := .bool b3) rfl rfl (by kernel_rfl) (by kernel_rfl) (by kernel_rfl) (fun _ _ _ h => h) (Or.inl ⟨by rfl, ?_⟩) (by assumption) ?_
  · intro X hX; go_simp
  (try simp only [Act.put, List.setIfInBounds_toArray, List.set_cons_zero, List.set_cons_succ])
  refine wpAnyH_done (by kernel_rfl) ?_ _
  go_wp2_with fail
  first | go_ret | skip
  exact ⟨by rw [HF.out]; rfl, hHeld5.1⟩
end Go.Proofs.YtfljignkjmabpaaGreat
