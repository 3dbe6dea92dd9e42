/-
  Bind (written by mk.py).
-/
import Derived.Test.YtpcgedngikpnoaaG
namespace Go.Proofs.Ytpcgedngikpnoaa
set_option maxRecDepth 100000
set_option linter.unusedSimpArgs false
set_option linter.unusedVariables false
open Go.RowKit

theorem getD_get {α : Type} (l : List α) (d : α) {k : Nat} (hk : k < l.length) : l[k] = l.getD k d := by rw [List.getD_eq_getElem?_getD, List.getElem?_eq_getElem hk, Option.getD_some]
theorem getD_mem {α : Type} (l : List α) (d : α) {k : Nat} (hk : k < l.length) : l.getD k d ∈ l := by rw [← getD_get l d hk]; exact List.getElem_mem hk
/-- What Bind answers. -/
def bindP (i k : Int) (cp : Bool) (xs : List Im) : Fd × Int :=
  if i < 0 ∨ (xs.length : Int) ≤ i ∨ k < 0 ∨ ((xs.getD i.toNat noIm).syms.length : Int) ≤ k then ((0, 0, false), 140)
  else if ownB ((xs.getD i.toNat noIm).syms.getD k.toNat noSy) = true ∧ cp = false then ((i, k, true), 0)
  else if (lookP (fun x => (tabI (refI ((xs.getD i.toNat noIm).syms.getD k.toNat noSy)) x).1) (if cp then i else -1) 0 xs).2.2 = false ∧ ((xs.getD i.toNat noIm).syms.getD k.toNat noSy).weak = false then ((0, 0, false), 141)
  else (lookP (fun x => (tabI (refI ((xs.getD i.toNat noIm).syms.getD k.toNat noSy)) x).1) (if cp then i else -1) 0 xs, 0)
theorem bind_bad {i k : Int} {cp : Bool} {xs : List Im} (h : i < 0 ∨ (xs.length : Int) ≤ i ∨ k < 0 ∨ ((xs.getD i.toNat noIm).syms.length : Int) ≤ k) : bindP i k cp xs = ((0, 0, false), 140) := if_pos h
theorem bind_good {i k : Nat} {cp : Bool} {xs : List Im} (hi : i < xs.length) (hk : k < (xs.getD i noIm).syms.length) : bindP i k cp xs =
    if ownB ((xs.getD i noIm).syms.getD k noSy) = true ∧ cp = false then (((i : Int), (k : Int), true), 0)
    else if (lookP (fun x => (tabI (refI ((xs.getD i noIm).syms.getD k noSy)) x).1) (if cp then (i : Int) else -1) 0 xs).2.2 = false ∧ ((xs.getD i noIm).syms.getD k noSy).weak = false then ((0, 0, false), 141)
    else (lookP (fun x => (tabI (refI ((xs.getD i noIm).syms.getD k noSy)) x).1) (if cp then (i : Int) else -1) 0 xs, 0) := by
  unfold bindP
  rw [if_neg (by simp only [Int.toNat_natCast]; omega)]
  rfl
set_option maxRecDepth 100000 in
set_option maxHeartbeats 4000000 in
theorem bind_any (i k : Int) (cp : Bool) (A : Option Addr) (n c : Nat) (xs : List Im) (w : World) (h : Ims w (fun k => k < w.heap.size) A n c xs) (hf : FitsS xs) (hn : n ≤ 17592186044416) (hi64 : I64 i) (hk64 : I64 k) :
    Calls Try.prog 19 #[.int .i64 i, .int .i64 k, .bool cp, .slice A n c] w fun e w' => e = .returned (.tuple #[fdV (bindP i k cp xs).1, .int .i64 (bindP i k cp xs).2]) ∧ Below w.heap.size w w' := by
  obtain rfl := h.len
  obtain ⟨-, q, h1, h2⟩ := h
  have hcap := h1.cap
  have HIM := Lib.hid (show Ims w (fun k => k < w.heap.size) A xs.length c xs from ⟨rfl, q, h1, h2⟩)
  have HE := Lib.hid h1
  have HY := Lib.hid h2
  have HF := Lib.hid hf
  have HB1 := Lib.hid (show Below w.heap.size w (w.alloc (.cells (fdA (0, 0, false)) 29)) from (Below.refl _ _).alloc (Nat.le_refl _) _)
  have HX1 := Lib.hid (Bx.new w (fdA (0, 0, false)) 29)
  clear h1 h2 hf
  go_enter Try.func19, Try.ntmps19
  go_upto_region 1 with (fail)
  change Code.wp _ _ _ _ (w.alloc (.cells (fdA (0, 0, false)) 29))
  generalize w.alloc (.cells (fdA (0, 0, false)) 29) = w1 at *
  by_cases hi0 : i < 0
  · have d0 : decide (i < 0) = true := decide_eq_true hi0
    have HR := Lib.hid (bind_bad (i := i) (k := k) (cp := cp) (xs := xs) (.inl hi0))
    clear hi0
    have x0 := HX1.out.c 0
    have x1 := HX1.out.c 1
    have x2 := HX1.out.c 2
    have f0 := HX1.out.f 0
    have f1 := HX1.out.f 1
    have f2 := HX1.out.f 2
    go_wp2
    have hq := fd_set HX1.out (0, 0, false)
    have HB9 := Lib.hid (HB1.out.trans (hq.2.mono (Nat.le_refl _)))
    have HX9 := Lib.hid hq.1
    clear hq x0 x1 x2 f0 f1 f2
    change bodyPost _ _ _ _ _ (fd3 w1 w.heap.size (0, 0, false))
    generalize fd3 w1 w.heap.size (0, 0, false) = w9 at *
    have x0 := HX9.out.c 0
    have x1 := HX9.out.c 1
    have x2 := HX9.out.c 2
    exact bodyPost_ret (v := .tuple #[fdV (0, 0, false), .int .i64 140]) (by simp [results, Try.results19, go_sem, x0, x1, x2]) rfl ⟨by rw [HR.out], HB9.out⟩
  by_cases hi1 : (xs.length : Int) ≤ i
  · have d0 : decide (i < 0) = false := decide_eq_false hi0
    have d1 : decide ((xs.length : Int) ≤ i) = true := decide_eq_true hi1
    have HR := Lib.hid (bind_bad (i := i) (k := k) (cp := cp) (xs := xs) (.inr (.inl hi1)))
    clear hi0 hi1
    have x0 := HX1.out.c 0
    have x1 := HX1.out.c 1
    have x2 := HX1.out.c 2
    have f0 := HX1.out.f 0
    have f1 := HX1.out.f 1
    have f2 := HX1.out.f 2
    go_wp2
    have hq := fd_set HX1.out (0, 0, false)
    have HB9 := Lib.hid (HB1.out.trans (hq.2.mono (Nat.le_refl _)))
    have HX9 := Lib.hid hq.1
    clear hq x0 x1 x2 f0 f1 f2
    change bodyPost _ _ _ _ _ (fd3 w1 w.heap.size (0, 0, false))
    generalize fd3 w1 w.heap.size (0, 0, false) = w9 at *
    have x0 := HX9.out.c 0
    have x1 := HX9.out.c 1
    have x2 := HX9.out.c 2
    exact bodyPost_ret (v := .tuple #[fdV (0, 0, false), .int .i64 140]) (by simp [results, Try.results19, go_sem, x0, x1, x2]) rfl ⟨by rw [HR.out], HB9.out⟩
  obtain ⟨a, rfl⟩ : ∃ a : Nat, i = (a : Int) := ⟨i.toNat, by omega⟩
  have hal : a < xs.length := by omega
  have d0 : decide ((a : Int) < 0) = false := decide_eq_false hi0
  have d1 : decide ((xs.length : Int) ≤ (a : Int)) = false := decide_eq_false hi1
  have a0 : (0 : Int) ≤ (a : Int) := by omega
  have a1 : (a : Int) < (xs.length : Int) := by omega
  by_cases hk0 : k < 0
  · have d2 : decide (k < 0) = true := decide_eq_true hk0
    have HR := Lib.hid (bind_bad (i := (a : Int)) (k := k) (cp := cp) (xs := xs) (.inr (.inr (.inl hk0))))
    clear hk0 hi0 hi1
    have x0 := HX1.out.c 0
    have x1 := HX1.out.c 1
    have x2 := HX1.out.c 2
    have f0 := HX1.out.f 0
    have f1 := HX1.out.f 1
    have f2 := HX1.out.f 2
    go_wp2
    have hq := fd_set HX1.out (0, 0, false)
    have HB9 := Lib.hid (HB1.out.trans (hq.2.mono (Nat.le_refl _)))
    have HX9 := Lib.hid hq.1
    clear hq x0 x1 x2 f0 f1 f2
    change bodyPost _ _ _ _ _ (fd3 w1 w.heap.size (0, 0, false))
    generalize fd3 w1 w.heap.size (0, 0, false) = w9 at *
    have x0 := HX9.out.c 0
    have x1 := HX9.out.c 1
    have x2 := HX9.out.c 2
    exact bodyPost_ret (v := .tuple #[fdV (0, 0, false), .int .i64 140]) (by simp [results, Try.results19, go_sem, x0, x1, x2]) rfl ⟨by rw [HR.out], HB9.out⟩
  have d2 : decide (k < 0) = false := decide_eq_false hk0
  obtain ⟨ad, rfl⟩ : ∃ ad, A = some ad := by
    cases A with
    | none => have := (HE.out.nil rfl).1; omega
    | some ad => exact ⟨ad, rfl⟩
  obtain ⟨b, o, rfl⟩ := HE.out.plain (by omega) rfl
  obtain ⟨c0, c1, c2, c3, c4, c5, c6, c7, c8, c9, c10, c11, c12, c13, c14⟩ := Ims.cells (HE.out.lt HB1.out) a hal
  clear c0 c1 c2 c3 c4 c6 c7 c8 c9 c10 c11 c12 c13 c14
  have HS1 := Lib.hid ((HY.out a hal).lt HB1.out)
  have HSY := Lib.hid (show (xs.getD a noIm).syms.length ≤ 140737488355328 from (HF.out.2 _ (getD_mem xs noIm hal)).syms)
  have HNM := Lib.hid (show ∀ s ∈ (xs.getD a noIm).syms, s.name.length ≤ 140737488351232 from (HF.out.2 _ (getD_mem xs noIm hal)).name)
  by_cases hk1 : ((xs.getD a noIm).syms.length : Int) ≤ k
  · have HR := Lib.hid (bind_bad (i := (a : Int)) (k := k) (cp := cp) (xs := xs) (.inr (.inr (.inr hk1))))
    generalize xs.getD a noIm = x at *
    have d3 : decide ((x.syms.length : Int) ≤ k) = true := decide_eq_true hk1
    clear hk0 hi0 hi1 hk1
    have x0 := HX1.out.c 0
    have x1 := HX1.out.c 1
    have x2 := HX1.out.c 2
    have f0 := HX1.out.f 0
    have f1 := HX1.out.f 1
    have f2 := HX1.out.f 2
    go_wp2
    have hq := fd_set HX1.out (0, 0, false)
    have HB9 := Lib.hid (HB1.out.trans (hq.2.mono (Nat.le_refl _)))
    have HX9 := Lib.hid hq.1
    clear hq x0 x1 x2 f0 f1 f2
    change bodyPost _ _ _ _ _ (fd3 w1 w.heap.size (0, 0, false))
    generalize fd3 w1 w.heap.size (0, 0, false) = w9 at *
    have x0 := HX9.out.c 0
    have x1 := HX9.out.c 1
    have x2 := HX9.out.c 2
    exact bodyPost_ret (v := .tuple #[fdV (0, 0, false), .int .i64 140]) (by simp [results, Try.results19, go_sem, x0, x1, x2]) rfl ⟨by rw [HR.out], HB9.out⟩
  obtain ⟨m, rfl⟩ : ∃ m : Nat, k = (m : Int) := ⟨k.toNat, by omega⟩
  have hml : m < (xs.getD a noIm).syms.length := by omega
  have HG := Lib.hid (bind_good (cp := cp) hal hml)
  have HBG := Lib.hid (show ((xs.getD a noIm).syms.getD m noSy).name.length ≤ 140737488351232 from HNM.out _ (getD_mem _ _ hml))
  have hsm : (xs.getD a noIm).syms[m] = (xs.getD a noIm).syms.getD m noSy := getD_get _ _ hml
  generalize xs.getD a noIm = x at *
  generalize q a = p at *
  have d3 : decide ((x.syms.length : Int) ≤ (m : Int)) = false := decide_eq_false hk1
  have m0 : (0 : Int) ≤ (m : Int) := by omega
  have m1 : (m : Int) < (x.syms.length : Int) := by omega
  generalize hsy : p.sy.1 = sA at *
  generalize p.sy.2 = sC at *
  obtain ⟨sa, rfl⟩ : ∃ sa, sA = some sa := by
    cases sA with
    | none => have h0 := HS1.out.syms.nil; rw [hsy] at h0; have := (h0 rfl).1; omega
    | some sa => exact ⟨sa, rfl⟩
  have hsyl := HS1.out.syms
  rw [hsy] at hsyl
  obtain ⟨sb, so, rfl⟩ := hsyl.plain (by omega)
  have hsc := hsyl.cap
  obtain ⟨s0, s1, s2, s3, s4, s5, s6, s7, s8⟩ := hsyl.get m hml
  rw [hsm] at s0 s1 s2 s3 s4 s5 s6 s7 s8
  clear hsyl hsy hsm HS1 HNM hk0 hi0 hi1 hk1
  generalize x.syms.getD m noSy = s at *
  have HOW := Lib.hid (fun X => own_any s X)
  generalize hob : ownB s = ob at *
  go_upto_region 4 with (fail)
  have hbs := box_below w1 s
  have HX2 := Lib.hid (HX1.out.below hbs)
  have HB2 := Lib.hid (HB1.out.trans (hbs.mono HB1.out.size))
  have HS2 := Lib.hid (Sx.new w1 s)
  clear hbs HX1 HB1 c5 s0 s1 s2 s3 s4 s5 s6 s7 s8
  change Code.wp _ _ _ _ (w1.alloc (.cells (symA s) 25))
  generalize w1.alloc (.cells (symA s) 25) = w2 at *
  generalize w1.heap.size = g2 at *
  obtain ⟨y0, y1, y2, y3, y4, y5, y6, y7, y8⟩ := HS2.out.cells
  by_cases hown : ob = true ∧ cp = false
  · obtain ⟨rfl, rfl⟩ := hown
    have HR := Lib.hid (show bindP (a : Int) (m : Int) false xs = (((a : Int), (m : Int), true), 0) from HG.out.trans (if_pos ⟨rfl, rfl⟩))
    clear hob
    go_upto_region 5 with (go_at_call 21; (with_reducible refine (HOW.out _).mono ?_); rintro e w3 ⟨rfl, hb3⟩; have HX3 := Lib.hid (HX2.out.below hb3); have HB3 := Lib.hid (HB2.out.trans (hb3.mono HB2.out.size)); clear hb3)
    have x0 := HX3.out.c 0
    have x1 := HX3.out.c 1
    have x2 := HX3.out.c 2
    have f0 := HX3.out.f 0
    have f1 := HX3.out.f 1
    have f2 := HX3.out.f 2
    go_wp2
    have hq := fd_set HX3.out ((a : Int), (m : Int), true)
    have HB9 := Lib.hid (HB3.out.trans (hq.2.mono (Nat.le_refl _)))
    have HX9 := Lib.hid hq.1
    clear hq x0 x1 x2 f0 f1 f2
    change bodyPost _ _ _ _ _ (fd3 w3 w.heap.size ((a : Int), (m : Int), true))
    generalize fd3 w3 w.heap.size ((a : Int), (m : Int), true) = w9 at *
    have x0 := HX9.out.c 0
    have x1 := HX9.out.c 1
    have x2 := HX9.out.c 2
    exact bodyPost_ret (v := .tuple #[fdV ((a : Int), (m : Int), true), .int .i64 0]) (by simp [results, Try.results19, go_sem, x0, x1, x2]) rfl ⟨by rw [HR.out], HB9.out⟩
  rcases (show (ob = false ∧ cp = false) ∨ (ob = false ∧ cp = true) ∨ (ob = true ∧ cp = true) by cases ob <;> cases cp <;> simp_all) with ⟨hobv, hcpv⟩ | ⟨hobv, hcpv⟩ | ⟨hobv, hcpv⟩
  · clear hown
    obtain rfl := hobv
    obtain rfl := hcpv
    have HR := Lib.hid (HG.out.trans (if_neg (by decide)))
    simp only [Bool.false_eq_true, if_false] at HR
    have HLK := Lib.hid (fun (X : World) (hX : Below w.heap.size w X) => look_any (refI s) (-1) (some ⟨b, o, none⟩) xs.length c xs X (HIM.out.lt hX) HF.out hn (Nat.le_trans HBG.out (by decide)))
    generalize lookP (fun x => (tabI (refI s) x).1) (-1) 0 xs = L at *
    generalize numL (tabN (refI s)) (-1) xs (goneP (fun x => (tabI (refI s) x).1) (-1) 0 xs) = nl at *
    clear hob
    go_upto_region 9 with (go_at_call 21; (with_reducible refine (HOW.out _).mono ?_); rintro e w3 ⟨rfl, hb3⟩; have HX3 := Lib.hid (HX2.out.below hb3); have HS3 := Lib.hid (HS2.out.below hb3); have HB3 := Lib.hid (HB2.out.trans (hb3.mono HB2.out.size)); clear hb3)
    clear y0 y1 y2 y3 y4 y5 y6 y7 y8 HX2 HS2 HB2
    obtain ⟨y0, y1, y2, y3, y4, y5, y6, y7, y8⟩ := HS3.out.cells
    have HRT := Lib.hid (fun X => refTo_any s X)
    go_upto_region 10 with (first
      | (go_at_call 36; (with_reducible refine (HRT.out _).mono ?_); rintro e w4 ⟨rfl, hb4⟩; have HX4 := Lib.hid (HX3.out.below hb4); have HS4 := Lib.hid (HS3.out.below hb4); have HB4 := Lib.hid (HB3.out.trans (hb4.mono HB3.out.size)); clear hb4)
      | (go_at_call 13; (with_reducible refine (HLK.out _ HB4.out).mono ?_); rintro e w5 ⟨nb, rfl, -, hb5⟩; have HX5 := Lib.hid (HX4.out.below hb5); have HS5 := Lib.hid (HS4.out.below hb5); have HB5 := Lib.hid (HB4.out.trans (hb5.mono HB4.out.size)); clear hb5))
    have HBL := Lib.hid (show Below w5.heap.size w5 (w5.alloc (.cells (fdA L) 29)) from (Below.refl _ _).alloc (Nat.le_refl _) _)
    have HX6 := Lib.hid (HX5.out.below HBL.out)
    have HS6 := Lib.hid (HS5.out.below HBL.out)
    have HB6 := Lib.hid (HB5.out.trans (HBL.out.mono HB5.out.size))
    have HL6 := Lib.hid (Bx.new w5 (fdA L) 29)
    clear HBL HX5 HS5 HB5
    change Code.wp _ _ _ _ (w5.alloc (.cells (fdA L) 29))
    generalize w5.alloc (.cells (fdA L) 29) = w6 at *
    generalize w5.heap.size = g6 at *
    obtain ⟨l0, l1, l2⟩ := L
    have z0 := HL6.out.c 0
    have z1 := HL6.out.c 1
    have z2 := HL6.out.c 2
    obtain ⟨-, -, -, -, y4, -, -, -, -⟩ := HS6.out.cells
    cases l2
    · generalize s.weak = wk at *
      cases wk
      · have HRR := Lib.hid (HR.out.trans (if_pos ⟨rfl, rfl⟩))
        have x0 := HX6.out.c 0
        have x1 := HX6.out.c 1
        have x2 := HX6.out.c 2
        have f0 := HX6.out.f 0
        have f1 := HX6.out.f 1
        have f2 := HX6.out.f 2
        go_wp2
        have hq := fd_set HX6.out (0, 0, false)
        have HB9 := Lib.hid (HB6.out.trans (hq.2.mono (Nat.le_refl _)))
        have HX9 := Lib.hid hq.1
        clear hq x0 x1 x2 f0 f1 f2
        change bodyPost _ _ _ _ _ (fd3 w6 w.heap.size (0, 0, false))
        generalize fd3 w6 w.heap.size (0, 0, false) = w9 at *
        have x0 := HX9.out.c 0
        have x1 := HX9.out.c 1
        have x2 := HX9.out.c 2
        exact bodyPost_ret (v := .tuple #[fdV (0, 0, false), .int .i64 141]) (by simp [results, Try.results19, go_sem, x0, x1, x2]) rfl ⟨by rw [HRR.out], HB9.out⟩
      · have HRR := Lib.hid (HR.out.trans (if_neg (fun h => Bool.noConfusion h.2)))
        have x0 := HX6.out.c 0
        have x1 := HX6.out.c 1
        have x2 := HX6.out.c 2
        have f0 := HX6.out.f 0
        have f1 := HX6.out.f 1
        have f2 := HX6.out.f 2
        go_wp2
        have hq := fd_set HX6.out (l0, l1, false)
        have HB9 := Lib.hid (HB6.out.trans (hq.2.mono (Nat.le_refl _)))
        have HX9 := Lib.hid hq.1
        clear hq x0 x1 x2 f0 f1 f2
        change bodyPost _ _ _ _ _ (fd3 w6 w.heap.size (l0, l1, false))
        generalize fd3 w6 w.heap.size (l0, l1, false) = w9 at *
        have x0 := HX9.out.c 0
        have x1 := HX9.out.c 1
        have x2 := HX9.out.c 2
        exact bodyPost_ret (v := .tuple #[fdV (l0, l1, false), .int .i64 0]) (by simp [results, Try.results19, go_sem, x0, x1, x2]) rfl ⟨by rw [HRR.out], HB9.out⟩
    · have HRR := Lib.hid (HR.out.trans (if_neg (fun h => Bool.noConfusion h.1)))
      have x0 := HX6.out.c 0
      have x1 := HX6.out.c 1
      have x2 := HX6.out.c 2
      have f0 := HX6.out.f 0
      have f1 := HX6.out.f 1
      have f2 := HX6.out.f 2
      go_wp2
      have hq := fd_set HX6.out (l0, l1, true)
      have HB9 := Lib.hid (HB6.out.trans (hq.2.mono (Nat.le_refl _)))
      have HX9 := Lib.hid hq.1
      clear hq x0 x1 x2 f0 f1 f2
      change bodyPost _ _ _ _ _ (fd3 w6 w.heap.size (l0, l1, true))
      generalize fd3 w6 w.heap.size (l0, l1, true) = w9 at *
      have x0 := HX9.out.c 0
      have x1 := HX9.out.c 1
      have x2 := HX9.out.c 2
      exact bodyPost_ret (v := .tuple #[fdV (l0, l1, true), .int .i64 0]) (by simp [results, Try.results19, go_sem, x0, x1, x2]) rfl ⟨by rw [HRR.out], HB9.out⟩
  · clear hown
    obtain rfl := hobv
    obtain rfl := hcpv
    have HR := Lib.hid (HG.out.trans (if_neg (by decide)))
    simp only [if_true] at HR
    have HLK := Lib.hid (fun (X : World) (hX : Below w.heap.size w X) => look_any (refI s) (a : Int) (some ⟨b, o, none⟩) xs.length c xs X (HIM.out.lt hX) HF.out hn (Nat.le_trans HBG.out (by decide)))
    generalize lookP (fun x => (tabI (refI s) x).1) (a : Int) 0 xs = L at *
    generalize numL (tabN (refI s)) (a : Int) xs (goneP (fun x => (tabI (refI s) x).1) (a : Int) 0 xs) = nl at *
    clear hob
    go_upto_region 9 with (go_at_call 21; (with_reducible refine (HOW.out _).mono ?_); rintro e w3 ⟨rfl, hb3⟩; have HX3 := Lib.hid (HX2.out.below hb3); have HS3 := Lib.hid (HS2.out.below hb3); have HB3 := Lib.hid (HB2.out.trans (hb3.mono HB2.out.size)); clear hb3)
    clear y0 y1 y2 y3 y4 y5 y6 y7 y8 HX2 HS2 HB2
    obtain ⟨y0, y1, y2, y3, y4, y5, y6, y7, y8⟩ := HS3.out.cells
    have HRT := Lib.hid (fun X => refTo_any s X)
    go_upto_region 10 with (first
      | (go_at_call 36; (with_reducible refine (HRT.out _).mono ?_); rintro e w4 ⟨rfl, hb4⟩; have HX4 := Lib.hid (HX3.out.below hb4); have HS4 := Lib.hid (HS3.out.below hb4); have HB4 := Lib.hid (HB3.out.trans (hb4.mono HB3.out.size)); clear hb4)
      | (go_at_call 13; (with_reducible refine (HLK.out _ HB4.out).mono ?_); rintro e w5 ⟨nb, rfl, -, hb5⟩; have HX5 := Lib.hid (HX4.out.below hb5); have HS5 := Lib.hid (HS4.out.below hb5); have HB5 := Lib.hid (HB4.out.trans (hb5.mono HB4.out.size)); clear hb5))
    have HBL := Lib.hid (show Below w5.heap.size w5 (w5.alloc (.cells (fdA L) 29)) from (Below.refl _ _).alloc (Nat.le_refl _) _)
    have HX6 := Lib.hid (HX5.out.below HBL.out)
    have HS6 := Lib.hid (HS5.out.below HBL.out)
    have HB6 := Lib.hid (HB5.out.trans (HBL.out.mono HB5.out.size))
    have HL6 := Lib.hid (Bx.new w5 (fdA L) 29)
    clear HBL HX5 HS5 HB5
    change Code.wp _ _ _ _ (w5.alloc (.cells (fdA L) 29))
    generalize w5.alloc (.cells (fdA L) 29) = w6 at *
    generalize w5.heap.size = g6 at *
    obtain ⟨l0, l1, l2⟩ := L
    have z0 := HL6.out.c 0
    have z1 := HL6.out.c 1
    have z2 := HL6.out.c 2
    obtain ⟨-, -, -, -, y4, -, -, -, -⟩ := HS6.out.cells
    cases l2
    · generalize s.weak = wk at *
      cases wk
      · have HRR := Lib.hid (HR.out.trans (if_pos ⟨rfl, rfl⟩))
        have x0 := HX6.out.c 0
        have x1 := HX6.out.c 1
        have x2 := HX6.out.c 2
        have f0 := HX6.out.f 0
        have f1 := HX6.out.f 1
        have f2 := HX6.out.f 2
        go_wp2
        have hq := fd_set HX6.out (0, 0, false)
        have HB9 := Lib.hid (HB6.out.trans (hq.2.mono (Nat.le_refl _)))
        have HX9 := Lib.hid hq.1
        clear hq x0 x1 x2 f0 f1 f2
        change bodyPost _ _ _ _ _ (fd3 w6 w.heap.size (0, 0, false))
        generalize fd3 w6 w.heap.size (0, 0, false) = w9 at *
        have x0 := HX9.out.c 0
        have x1 := HX9.out.c 1
        have x2 := HX9.out.c 2
        exact bodyPost_ret (v := .tuple #[fdV (0, 0, false), .int .i64 141]) (by simp [results, Try.results19, go_sem, x0, x1, x2]) rfl ⟨by rw [HRR.out], HB9.out⟩
      · have HRR := Lib.hid (HR.out.trans (if_neg (fun h => Bool.noConfusion h.2)))
        have x0 := HX6.out.c 0
        have x1 := HX6.out.c 1
        have x2 := HX6.out.c 2
        have f0 := HX6.out.f 0
        have f1 := HX6.out.f 1
        have f2 := HX6.out.f 2
        go_wp2
        have hq := fd_set HX6.out (l0, l1, false)
        have HB9 := Lib.hid (HB6.out.trans (hq.2.mono (Nat.le_refl _)))
        have HX9 := Lib.hid hq.1
        clear hq x0 x1 x2 f0 f1 f2
        change bodyPost _ _ _ _ _ (fd3 w6 w.heap.size (l0, l1, false))
        generalize fd3 w6 w.heap.size (l0, l1, false) = w9 at *
        have x0 := HX9.out.c 0
        have x1 := HX9.out.c 1
        have x2 := HX9.out.c 2
        exact bodyPost_ret (v := .tuple #[fdV (l0, l1, false), .int .i64 0]) (by simp [results, Try.results19, go_sem, x0, x1, x2]) rfl ⟨by rw [HRR.out], HB9.out⟩
    · have HRR := Lib.hid (HR.out.trans (if_neg (fun h => Bool.noConfusion h.1)))
      have x0 := HX6.out.c 0
      have x1 := HX6.out.c 1
      have x2 := HX6.out.c 2
      have f0 := HX6.out.f 0
      have f1 := HX6.out.f 1
      have f2 := HX6.out.f 2
      go_wp2
      have hq := fd_set HX6.out (l0, l1, true)
      have HB9 := Lib.hid (HB6.out.trans (hq.2.mono (Nat.le_refl _)))
      have HX9 := Lib.hid hq.1
      clear hq x0 x1 x2 f0 f1 f2
      change bodyPost _ _ _ _ _ (fd3 w6 w.heap.size (l0, l1, true))
      generalize fd3 w6 w.heap.size (l0, l1, true) = w9 at *
      have x0 := HX9.out.c 0
      have x1 := HX9.out.c 1
      have x2 := HX9.out.c 2
      exact bodyPost_ret (v := .tuple #[fdV (l0, l1, true), .int .i64 0]) (by simp [results, Try.results19, go_sem, x0, x1, x2]) rfl ⟨by rw [HRR.out], HB9.out⟩
  · clear hown
    obtain rfl := hobv
    obtain rfl := hcpv
    have HR := Lib.hid (HG.out.trans (if_neg (by decide)))
    simp only [if_true] at HR
    have HLK := Lib.hid (fun (X : World) (hX : Below w.heap.size w X) => look_any (refI s) (a : Int) (some ⟨b, o, none⟩) xs.length c xs X (HIM.out.lt hX) HF.out hn (Nat.le_trans HBG.out (by decide)))
    generalize lookP (fun x => (tabI (refI s) x).1) (a : Int) 0 xs = L at *
    generalize numL (tabN (refI s)) (a : Int) xs (goneP (fun x => (tabI (refI s) x).1) (a : Int) 0 xs) = nl at *
    clear hob
    go_upto_region 9 with (go_at_call 21; (with_reducible refine (HOW.out _).mono ?_); rintro e w3 ⟨rfl, hb3⟩; have HX3 := Lib.hid (HX2.out.below hb3); have HS3 := Lib.hid (HS2.out.below hb3); have HB3 := Lib.hid (HB2.out.trans (hb3.mono HB2.out.size)); clear hb3)
    clear y0 y1 y2 y3 y4 y5 y6 y7 y8 HX2 HS2 HB2
    obtain ⟨y0, y1, y2, y3, y4, y5, y6, y7, y8⟩ := HS3.out.cells
    have HRT := Lib.hid (fun X => refTo_any s X)
    go_upto_region 10 with (first
      | (go_at_call 36; (with_reducible refine (HRT.out _).mono ?_); rintro e w4 ⟨rfl, hb4⟩; have HX4 := Lib.hid (HX3.out.below hb4); have HS4 := Lib.hid (HS3.out.below hb4); have HB4 := Lib.hid (HB3.out.trans (hb4.mono HB3.out.size)); clear hb4)
      | (go_at_call 13; (with_reducible refine (HLK.out _ HB4.out).mono ?_); rintro e w5 ⟨nb, rfl, -, hb5⟩; have HX5 := Lib.hid (HX4.out.below hb5); have HS5 := Lib.hid (HS4.out.below hb5); have HB5 := Lib.hid (HB4.out.trans (hb5.mono HB4.out.size)); clear hb5))
    have HBL := Lib.hid (show Below w5.heap.size w5 (w5.alloc (.cells (fdA L) 29)) from (Below.refl _ _).alloc (Nat.le_refl _) _)
    have HX6 := Lib.hid (HX5.out.below HBL.out)
    have HS6 := Lib.hid (HS5.out.below HBL.out)
    have HB6 := Lib.hid (HB5.out.trans (HBL.out.mono HB5.out.size))
    have HL6 := Lib.hid (Bx.new w5 (fdA L) 29)
    clear HBL HX5 HS5 HB5
    change Code.wp _ _ _ _ (w5.alloc (.cells (fdA L) 29))
    generalize w5.alloc (.cells (fdA L) 29) = w6 at *
    generalize w5.heap.size = g6 at *
    obtain ⟨l0, l1, l2⟩ := L
    have z0 := HL6.out.c 0
    have z1 := HL6.out.c 1
    have z2 := HL6.out.c 2
    obtain ⟨-, -, -, -, y4, -, -, -, -⟩ := HS6.out.cells
    cases l2
    · generalize s.weak = wk at *
      cases wk
      · have HRR := Lib.hid (HR.out.trans (if_pos ⟨rfl, rfl⟩))
        have x0 := HX6.out.c 0
        have x1 := HX6.out.c 1
        have x2 := HX6.out.c 2
        have f0 := HX6.out.f 0
        have f1 := HX6.out.f 1
        have f2 := HX6.out.f 2
        go_wp2
        have hq := fd_set HX6.out (0, 0, false)
        have HB9 := Lib.hid (HB6.out.trans (hq.2.mono (Nat.le_refl _)))
        have HX9 := Lib.hid hq.1
        clear hq x0 x1 x2 f0 f1 f2
        change bodyPost _ _ _ _ _ (fd3 w6 w.heap.size (0, 0, false))
        generalize fd3 w6 w.heap.size (0, 0, false) = w9 at *
        have x0 := HX9.out.c 0
        have x1 := HX9.out.c 1
        have x2 := HX9.out.c 2
        exact bodyPost_ret (v := .tuple #[fdV (0, 0, false), .int .i64 141]) (by simp [results, Try.results19, go_sem, x0, x1, x2]) rfl ⟨by rw [HRR.out], HB9.out⟩
      · have HRR := Lib.hid (HR.out.trans (if_neg (fun h => Bool.noConfusion h.2)))
        have x0 := HX6.out.c 0
        have x1 := HX6.out.c 1
        have x2 := HX6.out.c 2
        have f0 := HX6.out.f 0
        have f1 := HX6.out.f 1
        have f2 := HX6.out.f 2
        go_wp2
        have hq := fd_set HX6.out (l0, l1, false)
        have HB9 := Lib.hid (HB6.out.trans (hq.2.mono (Nat.le_refl _)))
        have HX9 := Lib.hid hq.1
        clear hq x0 x1 x2 f0 f1 f2
        change bodyPost _ _ _ _ _ (fd3 w6 w.heap.size (l0, l1, false))
        generalize fd3 w6 w.heap.size (l0, l1, false) = w9 at *
        have x0 := HX9.out.c 0
        have x1 := HX9.out.c 1
        have x2 := HX9.out.c 2
        exact bodyPost_ret (v := .tuple #[fdV (l0, l1, false), .int .i64 0]) (by simp [results, Try.results19, go_sem, x0, x1, x2]) rfl ⟨by rw [HRR.out], HB9.out⟩
    · have HRR := Lib.hid (HR.out.trans (if_neg (fun h => Bool.noConfusion h.1)))
      have x0 := HX6.out.c 0
      have x1 := HX6.out.c 1
      have x2 := HX6.out.c 2
      have f0 := HX6.out.f 0
      have f1 := HX6.out.f 1
      have f2 := HX6.out.f 2
      go_wp2
      have hq := fd_set HX6.out (l0, l1, true)
      have HB9 := Lib.hid (HB6.out.trans (hq.2.mono (Nat.le_refl _)))
      have HX9 := Lib.hid hq.1
      clear hq x0 x1 x2 f0 f1 f2
      change bodyPost _ _ _ _ _ (fd3 w6 w.heap.size (l0, l1, true))
      generalize fd3 w6 w.heap.size (l0, l1, true) = w9 at *
      have x0 := HX9.out.c 0
      have x1 := HX9.out.c 1
      have x2 := HX9.out.c 2
      exact bodyPost_ret (v := .tuple #[fdV (l0, l1, true), .int .i64 0]) (by simp [results, Try.results19, go_sem, x0, x1, x2]) rfl ⟨by rw [HRR.out], HB9.out⟩
set_option maxRecDepth 100000 in
set_option maxHeartbeats 4000000 in
theorem dbind_any (i k : Int) (cp : Bool) (A : Option Addr) (n c : Nat) (xs : List Im) (w : World) (h : Ims w (fun k => k < w.heap.size) A n c xs) (hf : FitsS xs) (hn : n ≤ 17592186044416) (hi64 : I64 i) (hk64 : I64 k) :
    Calls Try.prog 20 #[.int .i64 i, .int .i64 k, .bool cp, .slice A n c] w fun e w' => e = .returned (.tuple #[fdV (bindP i k cp xs).1, .int .i64 (bindP i k cp xs).2]) ∧ Below w.heap.size w w' := by
  obtain rfl := h.len
  obtain ⟨-, q, h1, h2⟩ := h
  have hcap := h1.cap
  have HIM := Lib.hid (show Ims w (fun k => k < w.heap.size) A xs.length c xs from ⟨rfl, q, h1, h2⟩)
  have HE := Lib.hid h1
  have HY := Lib.hid h2
  have HF := Lib.hid hf
  have HB1 := Lib.hid (show Below w.heap.size w (w.alloc (.cells (fdA (0, 0, false)) 34)) from (Below.refl _ _).alloc (Nat.le_refl _) _)
  have HX1 := Lib.hid (Bx.new w (fdA (0, 0, false)) 34)
  clear h1 h2 hf
  go_enter Try.func20, Try.ntmps20
  go_upto_region 1 with (fail)
  change Code.wp _ _ _ _ (w.alloc (.cells (fdA (0, 0, false)) 34))
  generalize w.alloc (.cells (fdA (0, 0, false)) 34) = w1 at *
  by_cases hi0 : i < 0
  · have d0 : decide (i < 0) = true := decide_eq_true hi0
    have HR := Lib.hid (bind_bad (i := i) (k := k) (cp := cp) (xs := xs) (.inl hi0))
    clear hi0
    have x0 := HX1.out.c 0
    have x1 := HX1.out.c 1
    have x2 := HX1.out.c 2
    have f0 := HX1.out.f 0
    have f1 := HX1.out.f 1
    have f2 := HX1.out.f 2
    go_wp2
    have hq := fd_set HX1.out (0, 0, false)
    have HB9 := Lib.hid (HB1.out.trans (hq.2.mono (Nat.le_refl _)))
    have HX9 := Lib.hid hq.1
    clear hq x0 x1 x2 f0 f1 f2
    change bodyPost _ _ _ _ _ (fd3 w1 w.heap.size (0, 0, false))
    generalize fd3 w1 w.heap.size (0, 0, false) = w9 at *
    have x0 := HX9.out.c 0
    have x1 := HX9.out.c 1
    have x2 := HX9.out.c 2
    exact bodyPost_ret (v := .tuple #[fdV (0, 0, false), .int .i64 140]) (by simp [results, Try.results20, go_sem, x0, x1, x2]) rfl ⟨by rw [HR.out], HB9.out⟩
  by_cases hi1 : (xs.length : Int) ≤ i
  · have d0 : decide (i < 0) = false := decide_eq_false hi0
    have d1 : decide ((xs.length : Int) ≤ i) = true := decide_eq_true hi1
    have HR := Lib.hid (bind_bad (i := i) (k := k) (cp := cp) (xs := xs) (.inr (.inl hi1)))
    clear hi0 hi1
    have x0 := HX1.out.c 0
    have x1 := HX1.out.c 1
    have x2 := HX1.out.c 2
    have f0 := HX1.out.f 0
    have f1 := HX1.out.f 1
    have f2 := HX1.out.f 2
    go_wp2
    have hq := fd_set HX1.out (0, 0, false)
    have HB9 := Lib.hid (HB1.out.trans (hq.2.mono (Nat.le_refl _)))
    have HX9 := Lib.hid hq.1
    clear hq x0 x1 x2 f0 f1 f2
    change bodyPost _ _ _ _ _ (fd3 w1 w.heap.size (0, 0, false))
    generalize fd3 w1 w.heap.size (0, 0, false) = w9 at *
    have x0 := HX9.out.c 0
    have x1 := HX9.out.c 1
    have x2 := HX9.out.c 2
    exact bodyPost_ret (v := .tuple #[fdV (0, 0, false), .int .i64 140]) (by simp [results, Try.results20, go_sem, x0, x1, x2]) rfl ⟨by rw [HR.out], HB9.out⟩
  obtain ⟨a, rfl⟩ : ∃ a : Nat, i = (a : Int) := ⟨i.toNat, by omega⟩
  have hal : a < xs.length := by omega
  have d0 : decide ((a : Int) < 0) = false := decide_eq_false hi0
  have d1 : decide ((xs.length : Int) ≤ (a : Int)) = false := decide_eq_false hi1
  have a0 : (0 : Int) ≤ (a : Int) := by omega
  have a1 : (a : Int) < (xs.length : Int) := by omega
  by_cases hk0 : k < 0
  · have d2 : decide (k < 0) = true := decide_eq_true hk0
    have HR := Lib.hid (bind_bad (i := (a : Int)) (k := k) (cp := cp) (xs := xs) (.inr (.inr (.inl hk0))))
    clear hk0 hi0 hi1
    have x0 := HX1.out.c 0
    have x1 := HX1.out.c 1
    have x2 := HX1.out.c 2
    have f0 := HX1.out.f 0
    have f1 := HX1.out.f 1
    have f2 := HX1.out.f 2
    go_wp2
    have hq := fd_set HX1.out (0, 0, false)
    have HB9 := Lib.hid (HB1.out.trans (hq.2.mono (Nat.le_refl _)))
    have HX9 := Lib.hid hq.1
    clear hq x0 x1 x2 f0 f1 f2
    change bodyPost _ _ _ _ _ (fd3 w1 w.heap.size (0, 0, false))
    generalize fd3 w1 w.heap.size (0, 0, false) = w9 at *
    have x0 := HX9.out.c 0
    have x1 := HX9.out.c 1
    have x2 := HX9.out.c 2
    exact bodyPost_ret (v := .tuple #[fdV (0, 0, false), .int .i64 140]) (by simp [results, Try.results20, go_sem, x0, x1, x2]) rfl ⟨by rw [HR.out], HB9.out⟩
  have d2 : decide (k < 0) = false := decide_eq_false hk0
  obtain ⟨ad, rfl⟩ : ∃ ad, A = some ad := by
    cases A with
    | none => have := (HE.out.nil rfl).1; omega
    | some ad => exact ⟨ad, rfl⟩
  obtain ⟨b, o, rfl⟩ := HE.out.plain (by omega) rfl
  obtain ⟨c0, c1, c2, c3, c4, c5, c6, c7, c8, c9, c10, c11, c12, c13, c14⟩ := Ims.cells (HE.out.lt HB1.out) a hal
  clear c0 c1 c2 c3 c4 c6 c7 c8 c9 c10 c11 c12 c13 c14
  have HS1 := Lib.hid ((HY.out a hal).lt HB1.out)
  have HSY := Lib.hid (show (xs.getD a noIm).syms.length ≤ 140737488355328 from (HF.out.2 _ (getD_mem xs noIm hal)).syms)
  have HNM := Lib.hid (show ∀ s ∈ (xs.getD a noIm).syms, s.name.length ≤ 140737488351232 from (HF.out.2 _ (getD_mem xs noIm hal)).name)
  by_cases hk1 : ((xs.getD a noIm).syms.length : Int) ≤ k
  · have HR := Lib.hid (bind_bad (i := (a : Int)) (k := k) (cp := cp) (xs := xs) (.inr (.inr (.inr hk1))))
    generalize xs.getD a noIm = x at *
    have d3 : decide ((x.syms.length : Int) ≤ k) = true := decide_eq_true hk1
    clear hk0 hi0 hi1 hk1
    have x0 := HX1.out.c 0
    have x1 := HX1.out.c 1
    have x2 := HX1.out.c 2
    have f0 := HX1.out.f 0
    have f1 := HX1.out.f 1
    have f2 := HX1.out.f 2
    go_wp2
    have hq := fd_set HX1.out (0, 0, false)
    have HB9 := Lib.hid (HB1.out.trans (hq.2.mono (Nat.le_refl _)))
    have HX9 := Lib.hid hq.1
    clear hq x0 x1 x2 f0 f1 f2
    change bodyPost _ _ _ _ _ (fd3 w1 w.heap.size (0, 0, false))
    generalize fd3 w1 w.heap.size (0, 0, false) = w9 at *
    have x0 := HX9.out.c 0
    have x1 := HX9.out.c 1
    have x2 := HX9.out.c 2
    exact bodyPost_ret (v := .tuple #[fdV (0, 0, false), .int .i64 140]) (by simp [results, Try.results20, go_sem, x0, x1, x2]) rfl ⟨by rw [HR.out], HB9.out⟩
  obtain ⟨m, rfl⟩ : ∃ m : Nat, k = (m : Int) := ⟨k.toNat, by omega⟩
  have hml : m < (xs.getD a noIm).syms.length := by omega
  have HG := Lib.hid (bind_good (cp := cp) hal hml)
  have HBG := Lib.hid (show ((xs.getD a noIm).syms.getD m noSy).name.length ≤ 140737488351232 from HNM.out _ (getD_mem _ _ hml))
  have hsm : (xs.getD a noIm).syms[m] = (xs.getD a noIm).syms.getD m noSy := getD_get _ _ hml
  generalize xs.getD a noIm = x at *
  generalize q a = p at *
  have d3 : decide ((x.syms.length : Int) ≤ (m : Int)) = false := decide_eq_false hk1
  have m0 : (0 : Int) ≤ (m : Int) := by omega
  have m1 : (m : Int) < (x.syms.length : Int) := by omega
  generalize hsy : p.sy.1 = sA at *
  generalize p.sy.2 = sC at *
  obtain ⟨sa, rfl⟩ : ∃ sa, sA = some sa := by
    cases sA with
    | none => have h0 := HS1.out.syms.nil; rw [hsy] at h0; have := (h0 rfl).1; omega
    | some sa => exact ⟨sa, rfl⟩
  have hsyl := HS1.out.syms
  rw [hsy] at hsyl
  obtain ⟨sb, so, rfl⟩ := hsyl.plain (by omega)
  have hsc := hsyl.cap
  obtain ⟨s0, s1, s2, s3, s4, s5, s6, s7, s8⟩ := hsyl.get m hml
  rw [hsm] at s0 s1 s2 s3 s4 s5 s6 s7 s8
  clear hsyl hsy hsm HS1 HNM hk0 hi0 hi1 hk1
  generalize x.syms.getD m noSy = s at *
  have HOW := Lib.hid (fun X => down_any s X)
  generalize hob : ownB s = ob at *
  go_upto_region 4 with (fail)
  have hbs := box_below w1 s
  have HX2 := Lib.hid (HX1.out.below hbs)
  have HB2 := Lib.hid (HB1.out.trans (hbs.mono HB1.out.size))
  have HS2 := Lib.hid (Sx.new w1 s)
  clear hbs HX1 HB1 c5 s0 s1 s2 s3 s4 s5 s6 s7 s8
  change Code.wp _ _ _ _ (w1.alloc (.cells (symA s) 25))
  generalize w1.alloc (.cells (symA s) 25) = w2 at *
  generalize w1.heap.size = g2 at *
  obtain ⟨y0, y1, y2, y3, y4, y5, y6, y7, y8⟩ := HS2.out.cells
  by_cases hown : ob = true ∧ cp = false
  · obtain ⟨rfl, rfl⟩ := hown
    have HR := Lib.hid (show bindP (a : Int) (m : Int) false xs = (((a : Int), (m : Int), true), 0) from HG.out.trans (if_pos ⟨rfl, rfl⟩))
    clear hob
    go_upto_region 5 with (go_at_call 22; (with_reducible refine (HOW.out _).mono ?_); rintro e w3 ⟨rfl, hb3⟩; have HX3 := Lib.hid (HX2.out.below hb3); have HB3 := Lib.hid (HB2.out.trans (hb3.mono HB2.out.size)); clear hb3)
    have x0 := HX3.out.c 0
    have x1 := HX3.out.c 1
    have x2 := HX3.out.c 2
    have f0 := HX3.out.f 0
    have f1 := HX3.out.f 1
    have f2 := HX3.out.f 2
    go_wp2
    have hq := fd_set HX3.out ((a : Int), (m : Int), true)
    have HB9 := Lib.hid (HB3.out.trans (hq.2.mono (Nat.le_refl _)))
    have HX9 := Lib.hid hq.1
    clear hq x0 x1 x2 f0 f1 f2
    change bodyPost _ _ _ _ _ (fd3 w3 w.heap.size ((a : Int), (m : Int), true))
    generalize fd3 w3 w.heap.size ((a : Int), (m : Int), true) = w9 at *
    have x0 := HX9.out.c 0
    have x1 := HX9.out.c 1
    have x2 := HX9.out.c 2
    exact bodyPost_ret (v := .tuple #[fdV ((a : Int), (m : Int), true), .int .i64 0]) (by simp [results, Try.results20, go_sem, x0, x1, x2]) rfl ⟨by rw [HR.out], HB9.out⟩
  rcases (show (ob = false ∧ cp = false) ∨ (ob = false ∧ cp = true) ∨ (ob = true ∧ cp = true) by cases ob <;> cases cp <;> simp_all) with ⟨hobv, hcpv⟩ | ⟨hobv, hcpv⟩ | ⟨hobv, hcpv⟩
  · clear hown
    obtain rfl := hobv
    obtain rfl := hcpv
    have HR := Lib.hid (HG.out.trans (if_neg (by decide)))
    simp only [Bool.false_eq_true, if_false] at HR
    have HLK := Lib.hid (fun (X : World) (hX : Below w.heap.size w X) => dlook_any (refI s) (-1) (some ⟨b, o, none⟩) xs.length c xs X (HIM.out.lt hX) HF.out hn (Nat.le_trans HBG.out (by decide)))
    generalize lookP (fun x => (tabI (refI s) x).1) (-1) 0 xs = L at *
    generalize numL (tabN (refI s)) (-1) xs (goneP (fun x => (tabI (refI s) x).1) (-1) 0 xs) = nl at *
    clear hob
    go_upto_region 9 with (go_at_call 22; (with_reducible refine (HOW.out _).mono ?_); rintro e w3 ⟨rfl, hb3⟩; have HX3 := Lib.hid (HX2.out.below hb3); have HS3 := Lib.hid (HS2.out.below hb3); have HB3 := Lib.hid (HB2.out.trans (hb3.mono HB2.out.size)); clear hb3)
    clear y0 y1 y2 y3 y4 y5 y6 y7 y8 HX2 HS2 HB2
    obtain ⟨y0, y1, y2, y3, y4, y5, y6, y7, y8⟩ := HS3.out.cells
    go_upto_region 10 with (go_at_call 14; (with_reducible refine (HLK.out _ HB3.out).mono ?_); rintro e w5 ⟨nb, rfl, -, hb5⟩; have HX5 := Lib.hid (HX3.out.below hb5); have HS5 := Lib.hid (HS3.out.below hb5); have HB5 := Lib.hid (HB3.out.trans (hb5.mono HB3.out.size)); clear hb5)
    have HBL := Lib.hid (show Below w5.heap.size w5 (w5.alloc (.cells (fdA L) 34)) from (Below.refl _ _).alloc (Nat.le_refl _) _)
    have HX6 := Lib.hid (HX5.out.below HBL.out)
    have HS6 := Lib.hid (HS5.out.below HBL.out)
    have HB6 := Lib.hid (HB5.out.trans (HBL.out.mono HB5.out.size))
    have HL6 := Lib.hid (Bx.new w5 (fdA L) 34)
    clear HBL HX5 HS5 HB5
    change Code.wp _ _ _ _ (w5.alloc (.cells (fdA L) 34))
    generalize w5.alloc (.cells (fdA L) 34) = w6 at *
    generalize w5.heap.size = g6 at *
    obtain ⟨l0, l1, l2⟩ := L
    have z0 := HL6.out.c 0
    have z1 := HL6.out.c 1
    have z2 := HL6.out.c 2
    obtain ⟨-, -, -, -, y4, -, -, -, -⟩ := HS6.out.cells
    cases l2
    · generalize s.weak = wk at *
      cases wk
      · have HRR := Lib.hid (HR.out.trans (if_pos ⟨rfl, rfl⟩))
        have x0 := HX6.out.c 0
        have x1 := HX6.out.c 1
        have x2 := HX6.out.c 2
        have f0 := HX6.out.f 0
        have f1 := HX6.out.f 1
        have f2 := HX6.out.f 2
        go_wp2
        have hq := fd_set HX6.out (0, 0, false)
        have HB9 := Lib.hid (HB6.out.trans (hq.2.mono (Nat.le_refl _)))
        have HX9 := Lib.hid hq.1
        clear hq x0 x1 x2 f0 f1 f2
        change bodyPost _ _ _ _ _ (fd3 w6 w.heap.size (0, 0, false))
        generalize fd3 w6 w.heap.size (0, 0, false) = w9 at *
        have x0 := HX9.out.c 0
        have x1 := HX9.out.c 1
        have x2 := HX9.out.c 2
        exact bodyPost_ret (v := .tuple #[fdV (0, 0, false), .int .i64 141]) (by simp [results, Try.results20, go_sem, x0, x1, x2]) rfl ⟨by rw [HRR.out], HB9.out⟩
      · have HRR := Lib.hid (HR.out.trans (if_neg (fun h => Bool.noConfusion h.2)))
        have x0 := HX6.out.c 0
        have x1 := HX6.out.c 1
        have x2 := HX6.out.c 2
        have f0 := HX6.out.f 0
        have f1 := HX6.out.f 1
        have f2 := HX6.out.f 2
        go_wp2
        have hq := fd_set HX6.out (l0, l1, false)
        have HB9 := Lib.hid (HB6.out.trans (hq.2.mono (Nat.le_refl _)))
        have HX9 := Lib.hid hq.1
        clear hq x0 x1 x2 f0 f1 f2
        change bodyPost _ _ _ _ _ (fd3 w6 w.heap.size (l0, l1, false))
        generalize fd3 w6 w.heap.size (l0, l1, false) = w9 at *
        have x0 := HX9.out.c 0
        have x1 := HX9.out.c 1
        have x2 := HX9.out.c 2
        exact bodyPost_ret (v := .tuple #[fdV (l0, l1, false), .int .i64 0]) (by simp [results, Try.results20, go_sem, x0, x1, x2]) rfl ⟨by rw [HRR.out], HB9.out⟩
    · have HRR := Lib.hid (HR.out.trans (if_neg (fun h => Bool.noConfusion h.1)))
      have x0 := HX6.out.c 0
      have x1 := HX6.out.c 1
      have x2 := HX6.out.c 2
      have f0 := HX6.out.f 0
      have f1 := HX6.out.f 1
      have f2 := HX6.out.f 2
      go_wp2
      have hq := fd_set HX6.out (l0, l1, true)
      have HB9 := Lib.hid (HB6.out.trans (hq.2.mono (Nat.le_refl _)))
      have HX9 := Lib.hid hq.1
      clear hq x0 x1 x2 f0 f1 f2
      change bodyPost _ _ _ _ _ (fd3 w6 w.heap.size (l0, l1, true))
      generalize fd3 w6 w.heap.size (l0, l1, true) = w9 at *
      have x0 := HX9.out.c 0
      have x1 := HX9.out.c 1
      have x2 := HX9.out.c 2
      exact bodyPost_ret (v := .tuple #[fdV (l0, l1, true), .int .i64 0]) (by simp [results, Try.results20, go_sem, x0, x1, x2]) rfl ⟨by rw [HRR.out], HB9.out⟩
  · clear hown
    obtain rfl := hobv
    obtain rfl := hcpv
    have HR := Lib.hid (HG.out.trans (if_neg (by decide)))
    simp only [if_true] at HR
    have HLK := Lib.hid (fun (X : World) (hX : Below w.heap.size w X) => dlook_any (refI s) (a : Int) (some ⟨b, o, none⟩) xs.length c xs X (HIM.out.lt hX) HF.out hn (Nat.le_trans HBG.out (by decide)))
    generalize lookP (fun x => (tabI (refI s) x).1) (a : Int) 0 xs = L at *
    generalize numL (tabN (refI s)) (a : Int) xs (goneP (fun x => (tabI (refI s) x).1) (a : Int) 0 xs) = nl at *
    clear hob
    go_upto_region 9 with (go_at_call 22; (with_reducible refine (HOW.out _).mono ?_); rintro e w3 ⟨rfl, hb3⟩; have HX3 := Lib.hid (HX2.out.below hb3); have HS3 := Lib.hid (HS2.out.below hb3); have HB3 := Lib.hid (HB2.out.trans (hb3.mono HB2.out.size)); clear hb3)
    clear y0 y1 y2 y3 y4 y5 y6 y7 y8 HX2 HS2 HB2
    obtain ⟨y0, y1, y2, y3, y4, y5, y6, y7, y8⟩ := HS3.out.cells
    go_upto_region 10 with (go_at_call 14; (with_reducible refine (HLK.out _ HB3.out).mono ?_); rintro e w5 ⟨nb, rfl, -, hb5⟩; have HX5 := Lib.hid (HX3.out.below hb5); have HS5 := Lib.hid (HS3.out.below hb5); have HB5 := Lib.hid (HB3.out.trans (hb5.mono HB3.out.size)); clear hb5)
    have HBL := Lib.hid (show Below w5.heap.size w5 (w5.alloc (.cells (fdA L) 34)) from (Below.refl _ _).alloc (Nat.le_refl _) _)
    have HX6 := Lib.hid (HX5.out.below HBL.out)
    have HS6 := Lib.hid (HS5.out.below HBL.out)
    have HB6 := Lib.hid (HB5.out.trans (HBL.out.mono HB5.out.size))
    have HL6 := Lib.hid (Bx.new w5 (fdA L) 34)
    clear HBL HX5 HS5 HB5
    change Code.wp _ _ _ _ (w5.alloc (.cells (fdA L) 34))
    generalize w5.alloc (.cells (fdA L) 34) = w6 at *
    generalize w5.heap.size = g6 at *
    obtain ⟨l0, l1, l2⟩ := L
    have z0 := HL6.out.c 0
    have z1 := HL6.out.c 1
    have z2 := HL6.out.c 2
    obtain ⟨-, -, -, -, y4, -, -, -, -⟩ := HS6.out.cells
    cases l2
    · generalize s.weak = wk at *
      cases wk
      · have HRR := Lib.hid (HR.out.trans (if_pos ⟨rfl, rfl⟩))
        have x0 := HX6.out.c 0
        have x1 := HX6.out.c 1
        have x2 := HX6.out.c 2
        have f0 := HX6.out.f 0
        have f1 := HX6.out.f 1
        have f2 := HX6.out.f 2
        go_wp2
        have hq := fd_set HX6.out (0, 0, false)
        have HB9 := Lib.hid (HB6.out.trans (hq.2.mono (Nat.le_refl _)))
        have HX9 := Lib.hid hq.1
        clear hq x0 x1 x2 f0 f1 f2
        change bodyPost _ _ _ _ _ (fd3 w6 w.heap.size (0, 0, false))
        generalize fd3 w6 w.heap.size (0, 0, false) = w9 at *
        have x0 := HX9.out.c 0
        have x1 := HX9.out.c 1
        have x2 := HX9.out.c 2
        exact bodyPost_ret (v := .tuple #[fdV (0, 0, false), .int .i64 141]) (by simp [results, Try.results20, go_sem, x0, x1, x2]) rfl ⟨by rw [HRR.out], HB9.out⟩
      · have HRR := Lib.hid (HR.out.trans (if_neg (fun h => Bool.noConfusion h.2)))
        have x0 := HX6.out.c 0
        have x1 := HX6.out.c 1
        have x2 := HX6.out.c 2
        have f0 := HX6.out.f 0
        have f1 := HX6.out.f 1
        have f2 := HX6.out.f 2
        go_wp2
        have hq := fd_set HX6.out (l0, l1, false)
        have HB9 := Lib.hid (HB6.out.trans (hq.2.mono (Nat.le_refl _)))
        have HX9 := Lib.hid hq.1
        clear hq x0 x1 x2 f0 f1 f2
        change bodyPost _ _ _ _ _ (fd3 w6 w.heap.size (l0, l1, false))
        generalize fd3 w6 w.heap.size (l0, l1, false) = w9 at *
        have x0 := HX9.out.c 0
        have x1 := HX9.out.c 1
        have x2 := HX9.out.c 2
        exact bodyPost_ret (v := .tuple #[fdV (l0, l1, false), .int .i64 0]) (by simp [results, Try.results20, go_sem, x0, x1, x2]) rfl ⟨by rw [HRR.out], HB9.out⟩
    · have HRR := Lib.hid (HR.out.trans (if_neg (fun h => Bool.noConfusion h.1)))
      have x0 := HX6.out.c 0
      have x1 := HX6.out.c 1
      have x2 := HX6.out.c 2
      have f0 := HX6.out.f 0
      have f1 := HX6.out.f 1
      have f2 := HX6.out.f 2
      go_wp2
      have hq := fd_set HX6.out (l0, l1, true)
      have HB9 := Lib.hid (HB6.out.trans (hq.2.mono (Nat.le_refl _)))
      have HX9 := Lib.hid hq.1
      clear hq x0 x1 x2 f0 f1 f2
      change bodyPost _ _ _ _ _ (fd3 w6 w.heap.size (l0, l1, true))
      generalize fd3 w6 w.heap.size (l0, l1, true) = w9 at *
      have x0 := HX9.out.c 0
      have x1 := HX9.out.c 1
      have x2 := HX9.out.c 2
      exact bodyPost_ret (v := .tuple #[fdV (l0, l1, true), .int .i64 0]) (by simp [results, Try.results20, go_sem, x0, x1, x2]) rfl ⟨by rw [HRR.out], HB9.out⟩
  · clear hown
    obtain rfl := hobv
    obtain rfl := hcpv
    have HR := Lib.hid (HG.out.trans (if_neg (by decide)))
    simp only [if_true] at HR
    have HLK := Lib.hid (fun (X : World) (hX : Below w.heap.size w X) => dlook_any (refI s) (a : Int) (some ⟨b, o, none⟩) xs.length c xs X (HIM.out.lt hX) HF.out hn (Nat.le_trans HBG.out (by decide)))
    generalize lookP (fun x => (tabI (refI s) x).1) (a : Int) 0 xs = L at *
    generalize numL (tabN (refI s)) (a : Int) xs (goneP (fun x => (tabI (refI s) x).1) (a : Int) 0 xs) = nl at *
    clear hob
    go_upto_region 9 with (go_at_call 22; (with_reducible refine (HOW.out _).mono ?_); rintro e w3 ⟨rfl, hb3⟩; have HX3 := Lib.hid (HX2.out.below hb3); have HS3 := Lib.hid (HS2.out.below hb3); have HB3 := Lib.hid (HB2.out.trans (hb3.mono HB2.out.size)); clear hb3)
    clear y0 y1 y2 y3 y4 y5 y6 y7 y8 HX2 HS2 HB2
    obtain ⟨y0, y1, y2, y3, y4, y5, y6, y7, y8⟩ := HS3.out.cells
    go_upto_region 10 with (go_at_call 14; (with_reducible refine (HLK.out _ HB3.out).mono ?_); rintro e w5 ⟨nb, rfl, -, hb5⟩; have HX5 := Lib.hid (HX3.out.below hb5); have HS5 := Lib.hid (HS3.out.below hb5); have HB5 := Lib.hid (HB3.out.trans (hb5.mono HB3.out.size)); clear hb5)
    have HBL := Lib.hid (show Below w5.heap.size w5 (w5.alloc (.cells (fdA L) 34)) from (Below.refl _ _).alloc (Nat.le_refl _) _)
    have HX6 := Lib.hid (HX5.out.below HBL.out)
    have HS6 := Lib.hid (HS5.out.below HBL.out)
    have HB6 := Lib.hid (HB5.out.trans (HBL.out.mono HB5.out.size))
    have HL6 := Lib.hid (Bx.new w5 (fdA L) 34)
    clear HBL HX5 HS5 HB5
    change Code.wp _ _ _ _ (w5.alloc (.cells (fdA L) 34))
    generalize w5.alloc (.cells (fdA L) 34) = w6 at *
    generalize w5.heap.size = g6 at *
    obtain ⟨l0, l1, l2⟩ := L
    have z0 := HL6.out.c 0
    have z1 := HL6.out.c 1
    have z2 := HL6.out.c 2
    obtain ⟨-, -, -, -, y4, -, -, -, -⟩ := HS6.out.cells
    cases l2
    · generalize s.weak = wk at *
      cases wk
      · have HRR := Lib.hid (HR.out.trans (if_pos ⟨rfl, rfl⟩))
        have x0 := HX6.out.c 0
        have x1 := HX6.out.c 1
        have x2 := HX6.out.c 2
        have f0 := HX6.out.f 0
        have f1 := HX6.out.f 1
        have f2 := HX6.out.f 2
        go_wp2
        have hq := fd_set HX6.out (0, 0, false)
        have HB9 := Lib.hid (HB6.out.trans (hq.2.mono (Nat.le_refl _)))
        have HX9 := Lib.hid hq.1
        clear hq x0 x1 x2 f0 f1 f2
        change bodyPost _ _ _ _ _ (fd3 w6 w.heap.size (0, 0, false))
        generalize fd3 w6 w.heap.size (0, 0, false) = w9 at *
        have x0 := HX9.out.c 0
        have x1 := HX9.out.c 1
        have x2 := HX9.out.c 2
        exact bodyPost_ret (v := .tuple #[fdV (0, 0, false), .int .i64 141]) (by simp [results, Try.results20, go_sem, x0, x1, x2]) rfl ⟨by rw [HRR.out], HB9.out⟩
      · have HRR := Lib.hid (HR.out.trans (if_neg (fun h => Bool.noConfusion h.2)))
        have x0 := HX6.out.c 0
        have x1 := HX6.out.c 1
        have x2 := HX6.out.c 2
        have f0 := HX6.out.f 0
        have f1 := HX6.out.f 1
        have f2 := HX6.out.f 2
        go_wp2
        have hq := fd_set HX6.out (l0, l1, false)
        have HB9 := Lib.hid (HB6.out.trans (hq.2.mono (Nat.le_refl _)))
        have HX9 := Lib.hid hq.1
        clear hq x0 x1 x2 f0 f1 f2
        change bodyPost _ _ _ _ _ (fd3 w6 w.heap.size (l0, l1, false))
        generalize fd3 w6 w.heap.size (l0, l1, false) = w9 at *
        have x0 := HX9.out.c 0
        have x1 := HX9.out.c 1
        have x2 := HX9.out.c 2
        exact bodyPost_ret (v := .tuple #[fdV (l0, l1, false), .int .i64 0]) (by simp [results, Try.results20, go_sem, x0, x1, x2]) rfl ⟨by rw [HRR.out], HB9.out⟩
    · have HRR := Lib.hid (HR.out.trans (if_neg (fun h => Bool.noConfusion h.1)))
      have x0 := HX6.out.c 0
      have x1 := HX6.out.c 1
      have x2 := HX6.out.c 2
      have f0 := HX6.out.f 0
      have f1 := HX6.out.f 1
      have f2 := HX6.out.f 2
      go_wp2
      have hq := fd_set HX6.out (l0, l1, true)
      have HB9 := Lib.hid (HB6.out.trans (hq.2.mono (Nat.le_refl _)))
      have HX9 := Lib.hid hq.1
      clear hq x0 x1 x2 f0 f1 f2
      change bodyPost _ _ _ _ _ (fd3 w6 w.heap.size (l0, l1, true))
      generalize fd3 w6 w.heap.size (l0, l1, true) = w9 at *
      have x0 := HX9.out.c 0
      have x1 := HX9.out.c 1
      have x2 := HX9.out.c 2
      exact bodyPost_ret (v := .tuple #[fdV (l0, l1, true), .int .i64 0]) (by simp [results, Try.results20, go_sem, x0, x1, x2]) rfl ⟨by rw [HRR.out], HB9.out⟩
end Go.Proofs.Ytpcgedngikpnoaa
