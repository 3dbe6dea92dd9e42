/-
  The examples; what is looked at; a want in its box.
-/
import Derived.Test.YtkpmfahmhmdccaaDoorJ
namespace Go.Proofs.YtkpmfahmhmdccaaDoor
open Go.RowKit

theorem exp_ex : exp [47, 112] [36, 79, 82, 73, 71, 73, 78, 47, 108, 105, 98] = some [47, 112, 47, 108, 105, 98] := by
  rw [exp_o _ _ (by decide)]
  simp only [List.drop]
  rw [exp_none _ _ (by decide)]
  rfl
theorem expE_ex : expE [47, 112] [36, 79, 82, 73, 71, 73, 78, 47, 108, 105, 98] = ([47, 112, 47, 108, 105, 98], 0) := by
  unfold expE
  rw [if_neg (by decide), exp_ex]
  rfl
theorem expE_ab : expE [47, 112] [97, 47, 98] = ([97, 47, 98], 0) := by
  unfold expE
  rw [if_neg (by decide), exp_none _ _ (by decide)]
  rfl
theorem clean_ab : Fil.clean [97, 47, 98] = ([], 30) := by decide +kernel
theorem add_1 : addP [47, 112, 47, 108, 105, 98, 47, 120, 46, 115, 111] = [[47, 112, 47, 108, 105, 98, 47, 120, 46, 115, 111]] := by decide +kernel
theorem add_2 : addP (libS ++ 47 :: [120, 46, 115, 111]) = [[47, 108, 105, 98, 47, 120, 46, 115, 111]] := by decide +kernel
theorem add_3 : addP (usrS ++ 47 :: [120, 46, 115, 111]) = [[47, 117, 115, 114, 47, 108, 105, 98, 47, 120, 46, 115, 111]] := by decide +kernel
theorem cand_ex : candE [47, 112] [120, 46, 115, 111] [[36, 79, 82, 73, 71, 73, 78, 47, 108, 105, 98]] [] [] = ([[47, 112, 47, 108, 105, 98, 47, 120, 46, 115, 111], [47, 108, 105, 98, 47, 120, 46, 115, 111], [47, 117, 115, 114, 47, 108, 105, 98, 47, 120, 46, 115, 111]], 0) := by
  rw [candE_list _ _ _ (by decide) (by decide) (by decide), candL_eq, add_2, add_3]
  have : candM [47, 112] [120, 46, 115, 111] [[36, 79, 82, 73, 71, 73, 78, 47, 108, 105, 98]] [] [] = [[47, 112, 47, 108, 105, 98, 47, 120, 46, 115, 111]] := by
    unfold candM inD inOne
    simp only [List.flatMap_cons, List.flatMap_nil, expE_ex, if_true, cacheP, List.append_nil]
    exact add_1
  rw [this]
  rfl
theorem cand_ex2 : candE [47, 112] [97, 47, 98] [] [] [] = ([], 30) := by
  rw [candE_slash _ _ _ (by decide) (by decide) (by decide)]
  unfold onlyL
  rw [expE_ab, if_pos rfl, clean_ab, if_neg (by decide)]
theorem src_none (w : World) (P : Nat → Prop) : Src w P none ([] : List Str).length 0 (strs []) := ⟨rfl, fun _ => ⟨rfl, rfl⟩, Nat.le_refl _, (by intro ad h; cases h), (by intro ad h; cases h)⟩
theorem kns_none (w : World) (P : Nat → Prop) : Kns w P none ([] : List (Str × Str)).length 0 [] := ⟨rfl, fun _ => ⟨rfl, rfl⟩, Nat.le_refl _, (by intro ad h; cases h), (by intro ad h; cases h)⟩
theorem fits_small (o nm : Str) (rp : List Str) (ho : o.length ≤ 140737488351232) (hn : nm.length ≤ 140737488351232) (hr : ∀ d ∈ rp, d.length ≤ 140737488351232) (hl : (rp.length + 0 + 10) * 16 ≤ 140737488355328) : Fits o nm rp [] [] :=
  ⟨ho, hn, hr, (by intro d hd; cases hd), (by intro d hd; cases hd), hl, Nat.zero_le _⟩
theorem src_lit (w : World) (l : List Str) : Src (w.alloc (.cells (strs l).toArray 9)) (fun k => k < (w.alloc (.cells (strs l).toArray 9)).heap.size) (some ⟨w.heap.size, 0, none⟩) l.length l.length (strs l) :=
  ⟨by simp, (by intro h; cases h), Nat.le_refl _, (by intro ad h _; cases h; simp), (by intro ad h j u hu; cases h; exact cells_new w (strs l) 9 j u hu)⟩

set_option maxRecDepth 100000 in
set_option maxHeartbeats 2000000 in
theorem awake_any (w : World) (hm : Ml w) : Calls Tryd.prog 6 #[] w fun e w' => e = .returned (.bool true) ∧ Below w.heap.size w w' := by
  have hb0 := (Below.refl w.heap.size w).alloc (Nat.le_refl _) (.cells (strs [[36, 79, 82, 73, 71, 73, 78, 47, 108, 105, 98]]).toArray 9)
  have H1 := Lib.hid (cands_any (fun k => k < (w.alloc (.cells (strs [[36, 79, 82, 73, 71, 73, 78, 47, 108, 105, 98]]).toArray 9)).heap.size) [47, 112] [120, 46, 115, 111] (some ⟨w.heap.size, 0, none⟩) none none 1 0 0 [[36, 79, 82, 73, 71, 73, 78, 47, 108, 105, 98]] [] [] (w.alloc (.cells (strs [[36, 79, 82, 73, 71, 73, 78, 47, 108, 105, 98]]).toArray 9)) (src_lit w _) ⟨src_none _ _, kns_none _ _⟩ (fun _ h => h) (hm.below hb0) (fits_small _ _ _ (by simp) (by simp) (by intro d hd; simp at hd; subst hd; simp) (by simp)))
  rw [cand_ex] at H1
  have HM := Lib.hid (hm.below hb0)
  have HB0 := Lib.hid hb0
  clear hm hb0
  go_enter Tryd.func6, Tryd.ntmps6
  go_wp2_with fail
  refine H1.out.mono ?_
  rintro e w1 ⟨A, c, rfl, ho, hb1⟩
  have HB1 := Lib.hid (HB0.out.trans (hb1.mono HB0.out.size))
  have H2 := Lib.hid (cands_any (fun k => k < w1.heap.size) [47, 112] [97, 47, 98] none none none 0 0 0 [] [] [] w1 (src_none _ _) ⟨src_none _ _, kns_none _ _⟩ (fun _ h => h) (HM.out.below hb1) (fits_small _ _ _ (by simp) (by simp) (by intro d hd; cases hd) (by simp)))
  rw [cand_ex2] at H2
  have HO := Lib.hid ho
  clear hb1 ho H1
  go_wp2_with fail
  refine H2.out.mono ?_
  rintro e w2 ⟨A2, c2, rfl, ho2, hb2⟩
  have HB2 := Lib.hid (HB1.out.trans (hb2.mono HB1.out.size))
  have hs := (Src.of_own (Fil.own_below HO.out hb2)).lt
  clear hb2 H2 ho2
  have hb3 := (Below.refl w2.heap.size w2).alloc (Nat.le_refl _) (.cells (strs [[47, 112, 47, 108, 105, 98, 47, 120, 46, 115, 111], [47, 108, 105, 98, 47, 120, 46, 115, 111], [47, 117, 115, 114, 47, 108, 105, 98, 47, 120, 46, 115, 111]]).toArray 9)
  have HS := Lib.hid (same_yes _ _ A (some ⟨w2.heap.size, 0, none⟩) 3 c 3 _ _ (hs.below hb3 (fun _ h => h)) (src_lit w2 [[47, 112, 47, 108, 105, 98, 47, 120, 46, 115, 111], [47, 108, 105, 98, 47, 120, 46, 115, 111], [47, 117, 115, 114, 47, 108, 105, 98, 47, 120, 46, 115, 111]]) (by omega))
  have HB3 := Lib.hid (HB2.out.trans (hb3.mono HB2.out.size))
  clear hs hb3 HO
  go_wp2_with fail
  refine HS.out.mono ?_
  rintro e w4 ⟨rfl, hb4⟩
  go_wp2
  go_ret
  exact ⟨rfl, HB3.out.trans (hb4.mono HB3.out.size)⟩

/-- What is wanted. -/
structure Wt where
  nm : Str
  o : Str
  rp : List Str
  ps : List Str
  kn : List (Str × Str)
/-- Where its lists lie. -/
structure Wp where
  r : Option Addr × Nat
  p : Option Addr × Nat
  k : Option Addr × Nat
abbrev wtA (q : Wp) (x : Wt) : Array Value := #[str x.nm, str x.o, .slice q.r.1 x.rp.length q.r.2, .slice q.p.1 x.ps.length q.p.2, .slice q.k.1 x.kn.length q.k.2]
structure WtIn (w : World) (Q : Nat → Prop) (q : Wp) (x : Wt) : Prop where
  rp : Src w Q q.r.1 x.rp.length q.r.2 (strs x.rp)
  ps : Src w Q q.p.1 x.ps.length q.p.2 (strs x.ps)
  kn : Kns w Q q.k.1 x.kn.length q.k.2 x.kn
theorem WtIn.keep {w w' : World} {Q : Nat → Prop} {q : Wp} {x : Wt} (h : WtIn w Q q x) (hk : ∀ k, Q k → w'.heap[k]? = w.heap[k]?) : WtIn w' Q q x :=
  ⟨h.rp.keep (fun k hq _ => hk k hq), h.ps.keep (fun k hq _ => hk k hq), h.kn.1, h.kn.2.keep (fun k hq _ => hk k hq)⟩
theorem few_any (q : Wp) (x : Wt) (w : World) : Calls Tryd.prog 7 #[.agg (wtA q x)] w fun e w' => e = .returned (.bool (decide (x.o.length ≤ 5000))) ∧ Below w.heap.size w w' := by
  have HB := Lib.hid ((Below.refl w.heap.size w).alloc (Nat.le_refl _) (.cells (wtA q x) 27))
  have hsz : (ByteArray.mk x.o.toArray).size = x.o.length := str_size x.o
  go_enter Tryd.func7, Tryd.ntmps7
  go_wp2
  go_ret
  refine ⟨?_, HB.out⟩
  simp
  try omega
end Go.Proofs.YtkpmfahmhmdccaaDoor
