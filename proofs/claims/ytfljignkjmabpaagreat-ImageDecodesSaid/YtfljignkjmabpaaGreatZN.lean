/- A part of the proof. -/
import Derived.Test.YtfljignkjmabpaaGreatZJ
set_option linter.unusedSimpArgs false
set_option linter.unusedVariables false
namespace Go.Proofs.YtfljignkjmabpaaGreat
set_option maxRecDepth 100000
open Go.RowKit
def docB (s : Sg) (a n q : Int) : Bool := permB s.perm q && (decide (s.at_ ≤ a) && (decide (n ≤ s.size) && decide (a ≤ s.at_ + s.size - n)))
theorem doc_stand {l : List Sg} {a n q : Int} (hn : 0 ≤ n) : l.any (fun s => docB s a n q) = standB l a n q := by
 unfold standB
 congr 1
 funext s
 unfold docB withB
 congr 1
 rw [Bool.eq_iff_iff]
 simp only [Bool.and_eq_true, decide_eq_true_eq]
 omega
theorem sgbox_below (w : World) (s : Sg) (q : Option Addr × Nat) : Below w.heap.size w (w.alloc (.cells (sgA s q) 61)) := (Below.refl _ _).alloc (Nat.le_refl _) _
set_option maxHeartbeats 4000000 in
theorem dstands_any (p : Pl) (x : Im) (a n q : Int) (w : World) (h : ImIn w (fun k => k < w.heap.size) p x) (hf : Long x.segs.length) (hs : ∀ s ∈ x.segs, SegOk s) (hn : 0 ≤ n) (hn' : n ≤ 9223372036854775807) :
  Calls Tryz.prog 145 #[imV p x, .int .i64 a, .int .i64 n, .int .i64 q] w fun e w' => e = .returned (.bool (standB x.segs a n q)) ∧ Below w.heap.size w w' := by
 obtain ⟨⟨sga, sgc⟩, nd, rp, sy, bk, fw, rl, sl, ini, fin, tl⟩ := p
 have hl : x.segs.length ≤ 140737488351232 := hf
 have H := hD (fun (X : World) (hX : Below w.heap.size w X) => (h.lt hX).segs.ex)
 have HN := hD (show sga = none → x.segs.length = 0 from fun h0 => by
  obtain ⟨B, h1, _⟩ := h.segs.ex
  exact (h1.nil h0).1)
 have HX := hD (show Below w.heap.size w (w.alloc (.cells (imA ⟨⟨sga, sgc⟩, nd, rp, sy, bk, fw, rl, sl, ini, fin, tl⟩ x) 40)) ∧ Ix (w.alloc (.cells (imA ⟨⟨sga, sgc⟩, nd, rp, sy, bk, fw, rl, sl, ini, fin, tl⟩ x) 40)) w.heap.size ⟨⟨sga, sgc⟩, nd, rp, sy, bk, fw, rl, sl, ini, fin, tl⟩ x from ⟨ibox_below _ _ _, Ix.new _ _ _⟩)
 have HSG := hD hs
 rw [← doc_stand hn, ← range_any x.segs noSg (fun s => docB s a n q)]
 generalize hp : (fun k => docB (x.segs.getD k noSg) a n q) = pp
 have HP := hD (fun k => (congrFun hp k).symm)
 clear h hf hs hp
 go_enter Tryz.func145, Tryz.ntmps145
 go_upto_region 1 with (fail)
 change Code.wp _ _ _ _ (w.alloc (.cells (imA ⟨⟨sga, sgc⟩, nd, rp, sy, bk, fw, rl, sl, ini, fin, tl⟩ x) 40))
 generalize w.alloc (.cells (imA ⟨⟨sga, sgc⟩, nd, rp, sy, bk, fw, rl, sl, ini, fin, tl⟩ x) 40) = w1 at *
 go_wp2_with fail
 go_loopw [9] (fun t wr => ∃ k : Nat, k ≤ x.segs.length ∧ t = .int .i64 k ∧ Below w1.heap.size w1 wr ∧ (List.range k).any pp = false) (fun t _ => x.segs.length - (intOf t).toNat)
 case atStart => exact ⟨0, Nat.zero_le _, rfl, Below.refl _ _, rfl⟩
 case round =>
  obtain ⟨k, hk, rfl, hb, he⟩ := hrel
  have HE := hD he
  have HB := hD hb
  have HB0 := hD (HX.out.1.trans (hb.mono HX.out.1.size))
  obtain ⟨-, -, c2, -⟩ := (HX.out.2.below hb).cells
  simp only at c2
  clear he hb
  by_cases hlt : k < x.segs.length
  ·
   obtain ⟨ad, rfl⟩ : ∃ ad, sga = some ad := by
    cases sga with
    | none => have := HN.out rfl; omega
    | some ad => exact ⟨ad, rfl⟩
   obtain ⟨B, hE, -⟩ := H.out wr HB0.out
   have hcap := hE.cap
   obtain ⟨b, o, rfl⟩ := hE.plain (by omega) rfl
   have hg := hE.get k hlt
   have d0 := hg 0 _ rfl
   have d1 := hg 1 _ rfl
   have d2 := hg 2 _ rfl
   have d3 := hg 3 _ rfl
   simp only [Nat.add_zero] at d0
   have HV := hD (HP.out k)
   have HS := hD (HSG.out _ (getD_mem (d := noSg) hlt))
   have HY := hD (fun h => range_yes (p := pp) hlt h)
   have HT := hD (range_take (p := pp) HE.out)
   clear hg hE
   generalize x.segs.getD k noSg = s at *
   generalize B k = pl at *
   have e1 : wrap64 (s.at_ + s.size) = s.at_ + s.size := by have := HS.out; unfold SegOk at this; exact wrap_in (by omega) (by omega)
   have e2 : wrap64 (s.at_ + s.size - n) = s.at_ + s.size - n := by have := HS.out; unfold SegOk at this; exact wrap_in (by omega) (by omega)
   have HBX := hD (HB.out.trans ((sgbox_below wr s pl).mono HB.out.size))
   have HBX0 := hD (HB0.out.trans ((sgbox_below wr s pl).mono HB0.out.size))
   have hx := Bx.new wr (sgA s pl) 61
   have x0 := hx.c 0
   have x1 := hx.c 1
   have x2 := hx.c 2
   have x3 := hx.c 3
   simp only [List.getElem?_toArray, List.getElem?_cons_succ, List.getElem?_cons_zero] at x0 x1 x2 x3
   clear hx
   have HVD := hD (HV.out.trans (show docB s a n q = (permB s.perm q && (decide (s.at_ ≤ a) && (decide (n ≤ s.size) && decide (a ≤ s.at_ + s.size - n)))) from rfl))
   have HPB := hD (show permB s.perm q = (bits .and .i64 s.perm q == q) from rfl)
   by_cases hv : docB s a n q = true
   ·
    have hd := hv
    unfold docB at hd
    simp only [Bool.and_eq_true, decide_eq_true_eq] at hd
    obtain ⟨h1, h2, h3, h4⟩ := hd
    rw [HPB.out] at h1
    have HR := hD (HY.out (HV.out.trans hv))
    clear hv
    go_wp2_with fail
    go_ret
    exact ⟨by rw [HR.out]; rfl, HBX0.out⟩
   ·
    have HF := hD (HT.out.trans (HV.out.trans (by simpa using hv)))
    have hc : (bits .and .i64 s.perm q == q) = false ∨ ((bits .and .i64 s.perm q == q) = true ∧ ¬ s.at_ ≤ a) ∨ ((bits .and .i64 s.perm q == q) = true ∧ s.at_ ≤ a ∧ ¬ n ≤ s.size) ∨ ((bits .and .i64 s.perm q == q) = true ∧ s.at_ ≤ a ∧ n ≤ s.size ∧ ¬ a ≤ s.at_ + s.size - n) := by
     unfold docB at hv
     rw [HPB.out] at hv
     simp only [Bool.and_eq_true, decide_eq_true_eq] at hv
     cases hq : (bits .and .i64 s.perm q == q)
     ·
      exact .inl rfl
     ·
      rw [hq] at hv
      simp only [true_and] at hv
      by_cases g1 : s.at_ ≤ a
      ·
       by_cases g2 : n ≤ s.size
       ·
        exact .inr (.inr (.inr ⟨rfl, g1, g2, fun g3 => hv ⟨g1, g2, g3⟩⟩))
       ·
        exact .inr (.inr (.inl ⟨rfl, g1, g2⟩))
      ·
       exact .inr (.inl ⟨rfl, g1⟩)
    clear HY HT hv HVD
    rcases hc with h1 | ⟨h1, h2⟩ | ⟨h1, h2, h3⟩ | ⟨h1, h2, h3, h4⟩
    all_goals
     go_wp2_with fail
     go_roundw
     case rel => exact ⟨k + 1, by omega, by go_num, HBX.out, HF.out⟩
     case measure => simp [intOf]; omega
  ·
   obtain rfl : k = x.segs.length := by omega
   go_wp2_with fail
   go_ret
   exact ⟨by rw [HE.out]; rfl, HB0.out⟩
theorem sized_any_ref (l : Str) (w : World) (h : Long l.length) : Calls Tryz.prog 142 #[str l] w fun e w' => e = .returned (.bool (pathB l)) ∧ w = w' := by
 unfold Long at h
 go_enter Tryz.func142, Tryz.ntmps142
 go_wp2_with fail
 all_goals
  go_ret
  refine ⟨ret_bool ?_, rfl⟩
  simp [pathB, withB, *] <;> omega
theorem up_any (n : Int) (w : World) (h0 : 0 ≤ n) (h1 : n ≤ 65536) : Calls Tryz.prog 143 #[.int .i64 n] w fun e w' => e = .returned (.int .i64 (upI n)) ∧ w = w' := by
 have e1 : wrap64 (n - n % 64) = n - n % 64 := wrap_in (by omega) (by omega)
 have e2 : wrap64 (n - n % 64 + 64) = n - n % 64 + 64 := wrap_in (by omega) (by omega)
 by_cases hm : n % 64 = 0
 ·
  have hv : upI n = n := by unfold upI; omega
  rw [hv]
  go_enter Tryz.func143, Tryz.ntmps143
  go_wp2_with fail
  go_ret
  exact ⟨rfl, rfl⟩
 ·
  have hv : upI n = n - n % 64 + 64 := by unfold upI; omega
  rw [hv]
  go_enter Tryz.func143, Tryz.ntmps143
  go_wp2_with fail
  go_ret
  exact ⟨rfl, rfl⟩
set_option maxHeartbeats 2000000 in
theorem wide_any (p : Pl) (x : Im) (r : Rl) (w : World) (h : ImIn w (fun k => k < w.heap.size) p x) (hf : Long x.syms.length) (hi : r.kind = 2 → ∃ j : Nat, r.sym = j ∧ j < x.syms.length) :
  Calls Tryz.prog 150 #[imV p x, .agg (rlA r)] w fun e w' => e = .returned (.int .i64 (wideI x r)) ∧ Below w.heap.size w w' := by
 obtain ⟨W, hW, hB, hX, hR⟩ := im_rl w p x r
 have HB := hD hB
 obtain ⟨-, -, -, -, -, c5, -⟩ := hX.cells
 obtain ⟨d0, d1, d2, d3⟩ := hR.rl
 have HS := hD (h.lt hB).syms
 clear h hB hX hR
 unfold Long at hf
 go_enter Tryz.func150, Tryz.ntmps150
 go_upto_region 1 with (fail)
 rw [← hW]
 clear hW
 by_cases hk : r.kind = 2
 ·
  obtain ⟨j, hj, hlt⟩ := hi hk
  obtain ⟨ad, hsy⟩ : ∃ ad, p.sy.1 = some ad := by
   cases h0 : p.sy.1 with
   | none => have := (HS.out.nil h0).1; omega
   | some ad => exact ⟨ad, rfl⟩
  rw [hsy] at HS c5
  obtain ⟨b, o, rfl⟩ := HS.out.plain (by omega)
  have hg := HS.out.els.get j hlt
  have e8 := hg 8 _ rfl
  have hv : wideI x r = (x.syms.getD j noSy).size := by unfold wideI; rw [if_pos hk, hj]; rfl
  rw [hj] at d2
  rw [hk] at d1
  clear hg hj hk hi
  have hj0 : (0 : Int) ≤ (j : Int) := by omega
  have hj1 : (j : Int) < (x.syms.length : Int) := by omega
  generalize x.syms.getD j noSy = s at *
  go_wp2_with fail
  go_ret
  exact ⟨by rw [hv]; rfl, HB.out⟩
 ·
  have hv : wideI x r = 8 := by unfold wideI; rw [if_neg hk]
  go_wp2_with fail
  go_ret
  exact ⟨by rw [hv]; rfl, HB.out⟩
end Go.Proofs.YtfljignkjmabpaaGreat
