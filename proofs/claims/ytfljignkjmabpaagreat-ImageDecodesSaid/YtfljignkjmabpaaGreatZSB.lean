/- A part of the proof. -/
import Derived.Test.YtfljignkjmabpaaGreatZRH
set_option linter.unusedSimpArgs false
set_option linter.unusedVariables false
namespace Go.Proofs.YtfljignkjmabpaaGreat
set_option maxRecDepth 100000
open Go.RowKit
abbrev zIm : Array Value := #[.string ⟨#[]⟩, .int .i64 0, .slice none 0 0, .slice none 0 0, .slice none 0 0, .slice none 0 0, .slice none 0 0, .slice none 0 0, .int .i64 0, .slice none 0 0, .slice none 0 0, .slice none 0 0, .slice none 0 0, .slice none 0 0, .int .i64 0]
def DecX (d : Int) (x : Im) (w : World) (e : Ending) (w' : World) : Prop :=
 (d ≠ 0 ∧ e = .returned (.tuple #[.agg zIm, .int .i64 d]) ∧ Below w.heap.size w w') ∨
 (d = 0 ∧ ∃ p, e = .returned (.tuple #[imV p x, .int .i64 0]) ∧ ImIn w' (fun k => w.heap.size ≤ k ∧ k < w'.heap.size) p x ∧ Below w.heap.size w w')
def Dec (w : World) (l : Str) : Ending → World → Prop := DecX (decE l) (decI l) w
theorem Ri.start {w : World} {B g c : Nat} {A : Option Addr} {l : Str} (h : Rd w (fun k => B ≤ k ∧ k < g) g 0 A c l) : Ri (w.alloc (.cells #[.pointer (some ⟨g, 0, none⟩), .bool false] 66)) w.heap.size g false (0, l) := by
 have hb : Below w.heap.size w (w.alloc (.cells #[.pointer (some ⟨g, 0, none⟩), .bool false] 66)) := (Below.refl _ _).alloc (Nat.le_refl _) _
 have hg := h.lt
 refine ⟨⟨A, c, ⟨(hb.block g hg).trans h.blk, (h.src.keep fun k hk hl => hb.block k hl).weak fun k hk => hk.2, by simp, h.lim, h.small⟩⟩, Bx.new _ _ _, hg⟩
theorem below_row {w w5 : World} {B r : Nat} (h : Below B w w5) (hr : B ≤ r) (cs : Array Value) : Below B w (w5.setRow r cs) :=
 ⟨h.os, h.tape, h.output, by rw [setRow_size]; exact h.size, fun k hk => (setRow_other w5 r k cs (by omega)).trans (h.block k hk)⟩
theorem rend_zero {t : St} (h : rEnd t = 0) : t.1 = 0 ∧ t.2 = [] := by
 unfold rEnd at h
 split at h
 ·
  cases h
 ·
  rename_i hn
  exact ⟨h, Decidable.byContradiction fun e => hn ⟨h, e⟩⟩
theorem rend_not {t : St} (h : ¬ rEnd t = 0) : t.1 ≠ 0 ∨ t.2 ≠ [] := by
 by_cases h1 : t.1 = 0
 ·
  right
  intro h2
  apply h
  unfold rEnd
  rw [if_neg (by simp [h2])]
  exact h1
 ·
  exact .inl h1
theorem bx_cells {w : World} {r : Nat} {v0 v1 v2 v3 v4 v5 v6 v7 v8 v9 v10 v11 v12 v13 v14 : Value} (h : Bx w r #[v0, v1, v2, v3, v4, v5, v6, v7, v8, v9, v10, v11, v12, v13, v14] 40) :
  w.cell? ⟨r, 0, none⟩ = some v0 ∧ w.cell? ⟨r, 1, none⟩ = some v1 ∧ w.cell? ⟨r, 2, none⟩ = some v2 ∧ w.cell? ⟨r, 3, none⟩ = some v3 ∧ w.cell? ⟨r, 4, none⟩ = some v4 ∧ w.cell? ⟨r, 5, none⟩ = some v5 ∧ w.cell? ⟨r, 6, none⟩ = some v6 ∧ w.cell? ⟨r, 7, none⟩ = some v7 ∧
  w.cell? ⟨r, 8, none⟩ = some v8 ∧ w.cell? ⟨r, 9, none⟩ = some v9 ∧ w.cell? ⟨r, 10, none⟩ = some v10 ∧ w.cell? ⟨r, 11, none⟩ = some v11 ∧ w.cell? ⟨r, 12, none⟩ = some v12 ∧ w.cell? ⟨r, 13, none⟩ = some v13 ∧ w.cell? ⟨r, 14, none⟩ = some v14 :=
 ⟨h.c 0, h.c 1, h.c 2, h.c 3, h.c 4, h.c 5, h.c 6, h.c 7, h.c 8, h.c 9, h.c 10, h.c 11, h.c 12, h.c 13, h.c 14⟩
theorem wpl_store_im {ops : Array Oper} {rest : List Oper} {u v : Tmp} {q : TypeId} {s : String} {af : Array Edge} {a : Act} {w : World} {Q : Exit → Act → World → Prop} {r : Nat} {old cs : Array Value} (hb : Bx w r old 40) (ho : old.size = 15) (hs : cs.size = 15) (h1 : cs.all (·.oneCell') = true)
  (hu : a.eval (.tmp u) = .pointer (some ⟨r, 0, none⟩)) (hv : a.eval (.tmp v) = .agg cs) (h : wpList Tryz.prog ops Q rest a (w.setRow r cs)) : wpList Tryz.prog ops Q (⟨none, .store 40 (.tmp u) (.tmp v), q, s, af, none⟩ :: rest) a w :=
 wpList_plain rfl fun _ hK => wp_store_row 40 _ _ rfl r cs hu hv 40 old hb (by rw [hs]; exact Tryz.info_img) (by rw [ho, hs]) h1 (hK _ _ h)
theorem wpl_load_im {ops : Array Oper} {rest : List Oper} {t u : Tmp} {q : TypeId} {s : String} {af : Array Edge} {a : Act} {w : World} {Q : Exit → Act → World → Prop} {r : Nat} {p : Pl} {x : Im} (hb : Ix w r p x) (hu : a.eval (.tmp u) = .pointer (some ⟨r, 0, none⟩))
  (h : wpList Tryz.prog ops Q rest (a.put (some t) (imV p x)) w) : wpList Tryz.prog ops Q (⟨some t, .load 40 (.tmp u), q, s, af, none⟩ :: rest) a w :=
 wpList_plain rfl fun _ hK => wp_load_row 40 _ rfl r hu 40 _ (0, 0) _ hb.bx Tryz.underlying40 rfl Tryz.info_img (hK _ _ h)
set_option maxHeartbeats 4000000 in
theorem decode_any (P : Nat → Prop) (A : Option Addr) (n c : Nat) (l : Str) (w : World) (h : Src w P A n c (cells l)) (hn : n ≤ 140737488355328) :
  Calls Tryz.prog 7 #[.slice A n c] w (Dec w l) := by
 unfold Dec
 have HS := hD h
 have hb1 : Below w.heap.size w (w.alloc (.cells zIm 40)) := (Below.refl _ _).alloc (Nat.le_refl _) _
 have HN := hD (rnew_any (fun k => k < w.heap.size) A n c l (w.alloc (.cells zIm 40)) (h.lt.below hb1 (fun _ h => h)) hn)
 have HX := hD (Bx.new w zIm 40)
 have HB1 := hD hb1
 have hz1 : (w.alloc (.cells zIm 40)).heap.size = w.heap.size + 1 := by simp
 have HZ1 := hD hz1
 clear h hb1 hz1
 go_enter Tryz.func7, Tryz.ntmps7
 go_upto_region 1 with (fail)
 change Code.wp _ _ _ _ (w.alloc (.cells zIm 40))
 generalize w.alloc (.cells zIm 40) = w1 at *
 go_upto_region 2 with (go_at_call 16; (with_reducible refine (HN.out).mono ?_); rintro en w2 ⟨g, A2, c2, rfl, h2, hb2, hg⟩; have HRD := hD h2; have HB2 := hD hb2; have HG := hD hg; clear h2 hb2 hg)
 have HRI := hD (Ri.start HRD.out)
 have hbx : Below w2.heap.size w2 (w2.alloc (.cells #[.pointer (some ⟨g, 0, none⟩), .bool false] 66)) := (Below.refl _ _).alloc (Nat.le_refl _) _
 have HB3 := hD (hbx.mono HB2.out.size)
 have HX3 := hD ((HX.out.below HB2.out).below hbx)
 clear hbx HRD HN
 change Code.wp _ _ _ _ (w2.alloc (.cells #[.pointer (some ⟨g, 0, none⟩), .bool false] 66))
 generalize w2.alloc (.cells #[.pointer (some ⟨g, 0, none⟩), .bool false] 66) = w3 at *
 generalize hG : w2.heap.size = G at *
 have HIMG := hD (rimage_any w3 HRI.out)
 go_upto_region 3 with (go_at_call 17; (with_reducible refine (HIMG.out).mono ?_); rintro en w4 ⟨p, y, rfl, hin, hy, hri, hkr⟩; have HIN := hD hin; have HY := hD hy; have HR4 := hD hri; have HK4 := hD hkr; clear hin hy hri hkr)
 have hbi := ibox_below w4 p y
 have hs2 := HB2.out.size
 have hs3 := HB3.out.size
 have hz1 := HZ1.out
 have hgg := HG.out
 have hBW := (((HB1.out.trans (HB2.out.mono (by omega))).trans (HB3.out.mono (by omega))).trans (HK4.out.to_below (B := w.heap.size) (by omega) (by omega) (by omega))).trans (hbi.mono (by have := HK4.out.size; omega))
 have HBW := hD hBW
 have HI5 := hD (Ix.new w4 p y)
 have HR5 := hD (HR4.out.below hbi)
 have HX5 := hD ((HK4.out.bx HX3.out (by omega) (by omega)).below hbi)
 have HIN5 := hD (((HIN.out.keep fun k hk hl => hbi.block k hl).weak fun k hk => ⟨by omega, Nat.lt_of_lt_of_le hk.2 hbi.size⟩ : ImIn (w4.alloc (.cells (imA p y) 40)) (fun k => w.heap.size + 1 ≤ k ∧ k < (w4.alloc (.cells (imA p y) 40)).heap.size) p y))
 clear hbi hs2 hs3 hz1 hgg hBW HIN HR4 HX3 HX HB1 HB2 HB3 HK4 HRI HIMG
 have HD1 := hD (@dec_bad l)
 have HD2 := hD (@dec_good l)
 have HDI := hD (show decI l = (rdIm (0, l)).1 from rfl)
 have HF := hD (dec_fit l)
 change Code.wp _ _ _ _ (w4.alloc (.cells (imA p y) 40))
 generalize w4.alloc (.cells (imA p y) 40) = w5 at *
 generalize decE l = d at *
 generalize decI l = x at *
 generalize rdIm (0, l) = r at *
 obtain ⟨i, b, t⟩ := r
 simp only [Bool.false_or] at HY HR5 HD1 HD2 HDI
 generalize hQ : w4.heap.size = Q at *
 clear hQ
 have e0 : w5.cell? ⟨G, 0, none⟩ = some (.pointer (some ⟨g, 0, none⟩)) := HR5.out.c0
 have e1 : w5.cell? ⟨G, 1, none⟩ = some (.bool b) := HR5.out.c1
 have HEN := hD HR5.out.end_
 cases b with
 | true =>
  have hd := HD1.out (.inl rfl)
  subst hd
  go_upto_region 4 with (fail)
  refine wp_region_lit ?_
  refine wpList_plain rfl fun K hK => ?_
  go_simp
  refine hK _ _ ?_
  clear hK K
  refine wpl_store_im HX5.out rfl (cs := zIm) rfl (by simp [Value.oneCell']) rfl rfl ?_
  have HZ := hD (setRow_heap w5 w.heap.size zIm zIm 40 (0, 0) HX5.out)
  have HBZ := hD (below_row HBW.out (Nat.le_refl _) zIm)
  generalize w5.setRow w.heap.size zIm = wz at *
  obtain ⟨k0, k1, k2, k3, k4, k5, k6, k7, k8, k9, k10, k11, k12, k13, k14⟩ := bx_cells HZ.out
  go_wp2_with (fail)
  refine bodyPost_ret (v := .tuple #[.agg zIm, .int .i64 98]) ?_ rfl (.inl ⟨by decide, rfl, HBZ.out⟩)
  rw [results_cell_tmp rfl]
  go_simp
 | false =>
  by_cases hend : rEnd t = 0
  ·
   obtain ⟨t1, t2⟩ := rend_zero hend
   have hd := HD2.out (by simp [t1, t2])
   have hyi := HY.out t1
   have hxi := HDI.out
   rw [hend] at HEN
   subst hxi
   subst hyi
   have HM := hD (may_im_any p y w5 (HIN5.out.weak fun k hk => hk.2) HF.out)
   rw [← hd] at HM
   have HT := hD (And.intro t1 t2)
   clear hend t1 t2 hd HD1 HD2 HDI HY HF
   go_upto_region 5 with (go_at_call 18; (with_reducible refine (HEN.out).mono ?_); rintro en wq ⟨rfl, rfl⟩)
   refine wp_region_lit ?_
   refine wpl_load_im HI5.out rfl ?_
   go_upto_region 6 with (go_at_call 15; (with_reducible refine (HM.out).mono ?_); rintro en w6 ⟨rfl, hb6⟩; have HB6 := hD hb6; clear hb6)
   have HX6 := hD (HX5.out.below HB6.out)
   have HI6 := hD (HI5.out.below HB6.out)
   have HBW6 := hD (HBW.out.trans (HB6.out.mono HBW.out.size))
   have HIN6 := hD (((HIN5.out.keep fun k hk hl => HB6.out.block k hl).weak fun k hk => ⟨hk.1, Nat.lt_of_lt_of_le hk.2 HB6.out.size⟩ : ImIn w6 (fun k => w.heap.size + 1 ≤ k ∧ k < w6.heap.size) p y))
   by_cases hd0 : d = 0
   ·
    subst hd0
    go_upto_region 8 with (fail)
    refine wp_region_lit ?_
    refine wpl_load_im HI6.out rfl ?_
    refine wpl_store_im HX6.out rfl (cs := imA p y) rfl (by simp [Value.oneCell']) rfl rfl ?_
    have HZ := hD (setRow_heap w6 w.heap.size zIm (imA p y) 40 (0, 0) HX6.out)
    have HBZ := hD (below_row HBW6.out (Nat.le_refl _) (imA p y))
    have HIZ := hD (((HIN6.out.keep fun k hk hl => setRow_other w6 w.heap.size k (imA p y) (by omega)).weak fun k hk => ⟨by omega, by rw [setRow_size]; exact hk.2⟩ : ImIn (w6.setRow w.heap.size (imA p y)) (fun k => w.heap.size ≤ k ∧ k < (w6.setRow w.heap.size (imA p y)).heap.size) p y))
    generalize w6.setRow w.heap.size (imA p y) = wz at *
    obtain ⟨k0, k1, k2, k3, k4, k5, k6, k7, k8, k9, k10, k11, k12, k13, k14⟩ := bx_cells HZ.out
    go_wp2_with (fail)
    refine bodyPost_ret (v := .tuple #[imV p y, .int .i64 0]) ?_ rfl (.inr ⟨rfl, p, rfl, HIZ.out, HBZ.out⟩)
    rw [results_cell_tmp rfl]
    go_simp
   ·
    have hdn : (d == 0) = false := by simpa using hd0
    go_upto_region 7 with (fail)
    refine wp_region_lit ?_
    refine wpList_plain rfl fun K hK => ?_
    go_simp
    refine hK _ _ ?_
    clear hK K
    refine wpList_plain rfl fun K hK => ?_
    go_simp
    refine hK _ _ ?_
    clear hK K
    refine wpl_store_im HX6.out rfl (cs := zIm) rfl (by simp [Value.oneCell']) rfl rfl ?_
    have HZ := hD (setRow_heap w6 w.heap.size zIm zIm 40 (0, 0) HX6.out)
    have HBZ := hD (below_row HBW6.out (Nat.le_refl _) zIm)
    generalize w6.setRow w.heap.size zIm = wz at *
    obtain ⟨k0, k1, k2, k3, k4, k5, k6, k7, k8, k9, k10, k11, k12, k13, k14⟩ := bx_cells HZ.out
    go_wp2_with (fail)
    refine bodyPost_ret (v := .tuple #[.agg zIm, .int .i64 d]) ?_ rfl (.inl ⟨hd0, rfl, HBZ.out⟩)
    rw [results_cell_tmp rfl]
    go_simp
  ·
   have hd := HD1.out (.inr (rend_not hend))
   subst hd
   have hen : (rEnd t == 0) = false := by simpa using hend
   clear HD1 HD2
   go_upto_region 4 with (go_at_call 18; (with_reducible refine (HEN.out).mono ?_); rintro en wq ⟨rfl, rfl⟩)
   refine wp_region_lit ?_
   refine wpList_plain rfl fun K hK => ?_
   go_simp
   refine hK _ _ ?_
   clear hK K
   refine wpl_store_im HX5.out rfl (cs := zIm) rfl (by simp [Value.oneCell']) rfl rfl ?_
   have HZ := hD (setRow_heap w5 w.heap.size zIm zIm 40 (0, 0) HX5.out)
   have HBZ := hD (below_row HBW.out (Nat.le_refl _) zIm)
   generalize w5.setRow w.heap.size zIm = wz at *
   obtain ⟨k0, k1, k2, k3, k4, k5, k6, k7, k8, k9, k10, k11, k12, k13, k14⟩ := bx_cells HZ.out
   go_wp2_with (fail)
   refine bodyPost_ret (v := .tuple #[.agg zIm, .int .i64 98]) ?_ rfl (.inl ⟨by decide, rfl, HBZ.out⟩)
   rw [results_cell_tmp rfl]
   go_simp
end Go.Proofs.YtfljignkjmabpaaGreat
