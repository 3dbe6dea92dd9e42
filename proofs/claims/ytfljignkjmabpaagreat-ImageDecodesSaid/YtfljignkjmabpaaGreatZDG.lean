/- A part of the proof. -/
import Derived.Test.YtfljignkjmabpaaGreatZDF
import Derived.Test.YtfljignkjmabpaaGreatZVA
set_option linter.unusedSimpArgs false
set_option linter.unusedVariables false
namespace Go.Proofs.YtfljignkjmabpaaGreat
set_option maxRecDepth 100000
open Go.RowKit
theorem dec_flags {l : Str} : ((rdIm (0, l)).2.1 = false ∧ rEnd (rdIm (0, l)).2.2 = 0) ↔ ¬ ((rdIm (0, l)).2.1 = true ∨ (rdIm (0, l)).2.2.1 ≠ 0 ∨ (rdIm (0, l)).2.2.2 ≠ []) := by
 generalize rdIm (0, l) = r
 obtain ⟨x, b, e, t⟩ := r
 simp only
 constructor
 ·
  rintro ⟨h1, h2⟩ h
  obtain ⟨h3, h4⟩ := rend_zero h2
  simp only at h3 h4
  simp [h1, h3, h4] at h
 ·
  intro h
  have h1 : b = false := by cases b <;> simp_all
  have h2 : e = 0 := by rcases Classical.em (e = 0) with h | h' <;> simp_all
  have h3 : t = [] := by rcases Classical.em (t = []) with h | h' <;> simp_all
  subst h1 h2 h3
  exact ⟨rfl, rfl⟩
theorem dread_bad (P : Nat → Prop) (A : Option Addr) (n c : Nat) (l : Str) (w : World) (h : Src w P A n c (cells l)) (hP : ∀ k, P k → k < w.heap.size) (hn : n ≤ 140737488355328) (hc : c ≤ 9223372036854775807) (hb : (rdIm (0, l)).2.1 = true ∨ (rdIm (0, l)).2.2.1 ≠ 0 ∨ (rdIm (0, l)).2.2.2 ≠ []) :
  Calls Tryz.prog 19 #[.slice A n c] w fun en w' => ∃ cs : Array Value, cs.size = 15 ∧ cs.all (·.oneCell') = true ∧ en = .returned (.tuple #[.agg cs, .bool false]) ∧ Below w.heap.size w w' := by
 refine (dread_any P A n c l w h hP hn hc).mono ?_
 rintro en w' ⟨cs, ok, h0, h1, he, hbl, hok, him⟩
 cases ok with
 | false => exact ⟨cs, h0, h1, he, hbl⟩
 | true => exact absurd hb (dec_flags.1 (of_decide_eq_true hok.symm))
theorem dread_good (P : Nat → Prop) (A : Option Addr) (n c : Nat) (l : Str) (w : World) (h : Src w P A n c (cells l)) (hP : ∀ k, P k → k < w.heap.size) (hn : n ≤ 140737488355328) (hc : c ≤ 9223372036854775807) (hb : ¬ ((rdIm (0, l)).2.1 = true ∨ (rdIm (0, l)).2.2.1 ≠ 0 ∨ (rdIm (0, l)).2.2.2 ≠ [])) :
  Calls Tryz.prog 19 #[.slice A n c] w fun en w' => ∃ p, en = .returned (.tuple #[imV p (decI l), .bool true]) ∧ ImIn w' (fun k => w.heap.size ≤ k ∧ k < w'.heap.size) p (decI l) ∧ Below w.heap.size w w' := by
 refine (dread_any P A n c l w h hP hn hc).mono ?_
 rintro en w' ⟨cs, ok, h0, h1, he, hbl, hok, him⟩
 cases ok with
 | false => exact absurd (dec_flags.2 hb) (of_decide_eq_false hok.symm)
 | true =>
  obtain ⟨p, hcs, hin⟩ := him rfl
  exact ⟨p, by rw [he, hcs]; rfl, hin, hbl⟩
set_option maxHeartbeats 4000000 in
theorem ddecode_any (P : Nat → Prop) (A : Option Addr) (n c : Nat) (l : Str) (w : World) (h : Src w P A n c (cells l)) (hP : ∀ k, P k → k < w.heap.size) (hn : n ≤ 140737488355328) (hc : c ≤ 9223372036854775807) :
  Calls Tryz.prog 9 #[.slice A n c] w (Dec w l) := by
 unfold Dec
 have hb1 : Below w.heap.size w (w.alloc (.cells zIm 40)) := (Below.refl _ _).alloc (Nat.le_refl _) _
 have HZ1 := hD (show (w.alloc (.cells zIm 40)).heap.size = w.heap.size + 1 by simp)
 have HNB := hD (dread_bad P A n c l (w.alloc (.cells zIm 40)) ((h.keep fun k hk _ => hb1.block k (hP k hk))) (fun k hk => Nat.lt_of_lt_of_le (hP k hk) hb1.size) hn hc)
 have HNG := hD (dread_good P A n c l (w.alloc (.cells zIm 40)) ((h.keep fun k hk _ => hb1.block k (hP k hk))) (fun k hk => Nat.lt_of_lt_of_le (hP k hk) hb1.size) hn hc)
 have HX := hD (Bx.new w zIm 40)
 have HB1 := hD hb1
 have HFIT := hD (dec_fit l)
 clear h hb1 hP hn hc
 have HDB := hD (@dec_bad l)
 have HDG := hD (@dec_good l)
 generalize ((rdIm (0, l)).2.1 = true ∨ (rdIm (0, l)).2.2.1 ≠ 0 ∨ (rdIm (0, l)).2.2.2 ≠ []) = BAD at *
 generalize decE l = d at *
 generalize decI l = x at *
 go_enter Tryz.func9, Tryz.ntmps9
 go_upto_region 1 with (fail)
 change Code.wp _ _ _ _ (w.alloc (.cells zIm 40))
 generalize w.alloc (.cells zIm 40) = w1 at *
 have HSZ := hD HB1.out.size
 by_cases hbad : BAD
 ·
  have HN := hD (HNB.out hbad)
  have HD := hD (HDB.out hbad)
  clear HNB HNG HDB HDG hbad
  go_upto_region 2 with (first
   | (go_at_call 19; (with_reducible refine (HN.out).mono ?_); rintro en w2 ⟨cs, h0, h1, rfl, hb⟩; have H0 := hD h0; have H1 := hD h1; have HB2 := hD hb; clear h0 h1 hb)
   | (refine wpl_store_im (r := w2.heap.size) (old := zIm) (cs := cs) (Bx.new w2 zIm 40) rfl H0.out H1.out rfl rfl ?_))
  have hba : Below w2.heap.size w2 ((w2.alloc (.cells zIm 40)).setRow w2.heap.size cs) := below_row ((Below.refl _ _).alloc (Nat.le_refl _) _) (Nat.le_refl _) _
  have HX5 := hD ((HX.out.below HB2.out).below hba)
  have HBW := hD (HB1.out.trans ((HB2.out.mono (HSZ.out)).trans (hba.mono (Nat.le_trans HSZ.out HB2.out.size))))
  have hd := HD.out
  subst hd
  clear hba HX
  go_upto_region 3 with (fail)
  change Code.wp _ _ _ _ ((w2.alloc (.cells zIm 40)).setRow w2.heap.size cs)
  generalize (w2.alloc (.cells zIm 40)).setRow w2.heap.size cs = w5 at *
  refine wp_region_lit ?_
  refine wpList_plain rfl fun K hK => ?_
  go_simp
  refine hK _ _ ?_
  clear hK K
  refine wpl_store_im HX5.out rfl (cs := zIm) rfl (by simp [Value.oneCell']) rfl rfl ?_
  have HZ := hD (setRow_heap w5 w.heap.size zIm zIm 40 (0, 0) HX5.out)
  have HBZ := hD (below_row HBW.out (Nat.le_refl _) zIm)
  generalize w5.setRow w.heap.size zIm = wz at *
  obtain ⟨k0, k1, k2, k3, k4, k5, k6, k7, k8, k9, k10, k11, k12, k13, k14⟩ := bx_cells HZ.out
  go_wp2_with (fail)
  refine bodyPost_ret (v := .tuple #[.agg zIm, .int .i64 98]) ?_ rfl (.inl ⟨by decide, rfl, HBZ.out⟩)
  rw [results_cell_tmp rfl]
  go_simp
 ·
  have HN := hD (HNG.out hbad)
  have HD := hD (HDG.out hbad)
  clear HNB HNG HDB HDG hbad
  go_upto_region 2 with (go_at_call 19; (with_reducible refine (HN.out).mono ?_); rintro en w2 ⟨p, rfl, hin, hb⟩; have HIN := hD hin; have HB2 := hD hb; clear hin hb)
  have hba : Below w2.heap.size w2 (w2.alloc (.cells (imA p x) 40)) := (Below.refl _ _).alloc (Nat.le_refl _) _
  have HX5 := hD ((HX.out.below HB2.out).below hba)
  have HBW := hD (HB1.out.trans ((HB2.out.mono (HSZ.out)).trans (hba.mono (Nat.le_trans HSZ.out HB2.out.size))))
  have HI5 := hD (Ix.new w2 p x)
  have HIN5 := hD (((HIN.out.keep fun k hk hl => hba.block k hl).weak fun k hk => ⟨by have := HZ1.out; omega, Nat.lt_of_lt_of_le hk.2 hba.size⟩ : ImIn (w2.alloc (.cells (imA p x) 40)) (fun k => w.heap.size + 1 ≤ k ∧ k < (w2.alloc (.cells (imA p x) 40)).heap.size) p x))
  clear hba HX HIN
  go_upto_region 4 with (fail)
  change Code.wp _ _ _ _ (w2.alloc (.cells (imA p x) 40))
  generalize w2.alloc (.cells (imA p x) 40) = w5 at *
  generalize w2.heap.size = Q at *
  have HM := hD (dmay_any p x w5 (HIN5.out.weak fun k hk => hk.2) HFIT.out)
  have HD' := HD
  rw [← HD'.out] at HM
  clear HD'
  refine wp_region_lit ?_
  refine wpl_load_im HI5.out rfl ?_
  go_upto_region 5 with (go_at_call 20; (with_reducible refine (HM.out).mono ?_); rintro en w6 ⟨rfl, hb6⟩; have HB6 := hD hb6; clear hb6)
  have HX6 := hD (HX5.out.below HB6.out)
  have HI6 := hD (HI5.out.below HB6.out)
  have HBW6 := hD (HBW.out.trans (HB6.out.mono HBW.out.size))
  have HIN6 := hD (((HIN5.out.keep fun k hk hl => HB6.out.block k hl).weak fun k hk => ⟨hk.1, Nat.lt_of_lt_of_le hk.2 HB6.out.size⟩ : ImIn w6 (fun k => w.heap.size + 1 ≤ k ∧ k < w6.heap.size) p x))
  clear HD HM
  by_cases hd0 : d = 0
  ·
   subst hd0
   go_upto_region 7 with (fail)
   refine wp_region_lit ?_
   refine wpl_load_im HI6.out rfl ?_
   refine wpl_store_im HX6.out rfl (cs := imA p x) rfl (by simp [Value.oneCell']) rfl rfl ?_
   have HZ := hD (setRow_heap w6 w.heap.size zIm (imA p x) 40 (0, 0) HX6.out)
   have HBZ := hD (below_row HBW6.out (Nat.le_refl _) (imA p x))
   have HIZ := hD (((HIN6.out.keep fun k hk hl => setRow_other w6 w.heap.size k (imA p x) (by omega)).weak fun k hk => ⟨by omega, by rw [setRow_size]; exact hk.2⟩ : ImIn (w6.setRow w.heap.size (imA p x)) (fun k => w.heap.size ≤ k ∧ k < (w6.setRow w.heap.size (imA p x)).heap.size) p x))
   generalize w6.setRow w.heap.size (imA p x) = wz at *
   obtain ⟨k0, k1, k2, k3, k4, k5, k6, k7, k8, k9, k10, k11, k12, k13, k14⟩ := bx_cells HZ.out
   go_wp2_with (fail)
   refine bodyPost_ret (v := .tuple #[imV p x, .int .i64 0]) ?_ rfl (.inr ⟨rfl, p, rfl, HIZ.out, HBZ.out⟩)
   rw [results_cell_tmp rfl]
   go_simp
  ·
   have hdn : (d == 0) = false := by simpa using hd0
   have HNE := hD hd0
   go_upto_region 6 with (fail)
   refine wp_region_lit ?_
   refine wpList_plain rfl fun K hK => ?_
   go_simp
   refine hK _ _ ?_
   clear hK K
   refine wpList_plain rfl fun K hK => ?_
   go_simp
   refine hK _ _ ?_
   clear hK K
   refine wpl_store_im HX6.out rfl (cs := zIm) rfl (by simp [Value.oneCell']) rfl rfl ?_
   have HZ := hD (setRow_heap w6 w.heap.size zIm zIm 40 (0, 0) HX6.out)
   have HBZ := hD (below_row HBW6.out (Nat.le_refl _) zIm)
   generalize w6.setRow w.heap.size zIm = wz at *
   obtain ⟨k0, k1, k2, k3, k4, k5, k6, k7, k8, k9, k10, k11, k12, k13, k14⟩ := bx_cells HZ.out
   go_wp2_with (fail)
   refine bodyPost_ret (v := .tuple #[.agg zIm, .int .i64 d]) ?_ rfl (.inl ⟨HNE.out, rfl, HBZ.out⟩)
   rw [results_cell_tmp rfl]
   go_simp
end Go.Proofs.YtfljignkjmabpaaGreat
