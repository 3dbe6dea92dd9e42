/-
  The document's examples (written by mki.py).
-/
import Derived.Test.YtpcgedngikpnoaaH
import Derived.Test.YtpcgedngikpnoaaAO
namespace Go.Proofs.Ytpcgedngikpnoaa
set_option maxRecDepth 100000
set_option linter.unusedSimpArgs false
set_option linter.unusedVariables false
open Go.RowKit

def fS : Sym := ⟨[102], [], false, 1, false, 0, true, 0, 0⟩
def oS : Sym := ⟨[102], [], false, 1, false, 1, true, 0, 0⟩
abbrev noP : Pl := mkP (none, 0) (none, 0) (none, 0)
abbrev fI : Im := mkI [fS]
abbrev oI : Im := mkI [oS]
/-- A row of one symbol. -/
theorem one_syl {w : World} {b : Nat} {s : Sym} (h : Bx w b (symA s) 25) : Syl w (fun k => k < w.heap.size) (some ⟨b, 0, none⟩) 1 1 [s] := by
  refine ⟨rfl, (by intro h; cases h), Nat.le_refl _, (fun ad e _ => by cases e; exact h.lt), ?_⟩
  intro ad e k hk j u hu
  cases e
  rw [plainAdd, Nat.zero_add, h.c]
  have hk2 : k < 1 := hk
  obtain rfl : k = 0 := by omega
  rw [Nat.zero_mul, Nat.zero_add]
  exact hu
def awT (g1 g2 : Nat) (vs : Vals) : Act := ⟨#[.bool false, .pointer (some ⟨g1, 0, none⟩), .pointer (some ⟨g2, 0, none⟩), (vs 9).getD undef, (vs 10).getD undef, (vs 11).getD undef, undef, undef, undef, undef, undef, undef, undef, undef, symV fS, symV fS, .pointer (some ⟨g2, 5, none⟩), (vs 0).getD undef, (vs 1).getD undef, (vs 2).getD undef, (vs 3).getD undef, (vs 4).getD undef, (vs 5).getD undef, (vs 6).getD undef, (vs 7).getD undef, (vs 8).getD undef, undef, undef, undef, undef, undef, undef, undef, undef, undef, undef, undef, undef, undef, undef, undef, undef, undef, undef, undef, undef, undef, undef, undef, undef, undef, undef, undef, undef, undef, undef, undef, undef, undef, undef, undef, undef, undef, undef, undef, undef, undef, undef, undef, undef, undef, undef, undef, undef, undef, undef, undef, undef, undef, undef, undef, undef, undef, undef, undef, undef, undef, undef, undef, undef, undef, undef, undef, undef, undef, undef, undef, undef, undef], []⟩
/-- An image that was made of a symbol, with its row at a block of symbols. -/
def OneI (s : Sym) (v : Value) (lo hi : Nat) (w : World) : Prop := ∃ b A' c' Af cf, v = imV (mkP (some ⟨b, 0, none⟩, 1) (A', c') (Af, cf)) (mkI [s]) ∧ Bx w b (symA s) 25 ∧ TabV w (fun k => lo ≤ k ∧ k < hi) A' (mkI [s]).rows.length c' Af cf (rowF (mkI [s]).rows) (mkI [s]).words
def ZeroI (v : Value) (lo hi : Nat) (w : World) : Prop := v = .pointer (some ⟨lo, 0, none⟩) ∧ Bx w lo (imA noP noIm) 62 ∧ lo < hi
def awF (i : Nat) (v : Value) (lo hi : Nat) (w : World) : Prop := match i with
  | 0 => v = symV fS
  | 1 => v = .slice (some ⟨lo, 0, none⟩) 1 1 ∧ Bx w lo (symA fS) 25
  | 2 => OneI fS v lo hi w
  | 3 => v = symV fS
  | 4 => v = .slice (some ⟨lo, 0, none⟩) 1 1 ∧ Bx w lo (symA fS) 25
  | 5 => OneI fS v lo hi w
  | 6 => v = symV oS
  | 7 => v = .slice (some ⟨lo, 0, none⟩) 1 1 ∧ Bx w lo (symA oS) 25
  | 8 => OneI oS v lo hi w
  | 9 => ZeroI v lo hi w
  | 10 => ZeroI v lo hi w
  | 11 => ZeroI v lo hi w
  | _ => False
theorem OneI.on {s : Sym} {v : Value} {lo hi : Nat} {w w' : World} (h : OneI s v lo hi w) (hb : Below w.heap.size w w') (hh : hi ≤ w.heap.size) : OneI s v lo hi w' := by
  obtain ⟨b, A', c', Af, cf, h1, h2, h3⟩ := h
  exact ⟨b, A', c', Af, cf, h1, h2.below hb, h3.keep fun k hk _ => hb.block k (by omega)⟩
theorem awF_on (i : Nat) (v : Value) (lo hi : Nat) (w w' : World) (h : awF i v lo hi w) (hb : Below w.heap.size w w') (hh : hi ≤ w.heap.size) : awF i v lo hi w' := by
  unfold awF at h ⊢
  split at h
  all_goals first
    | exact h
    | exact ⟨h.1, h.2.below hb⟩
    | exact h.on hb hh
    | exact ⟨h.1, h.2.1.below hb, h.2.2⟩
/-- What stands in the memory behind the three stores. -/
structure Three (w : World) (a b c : Nat) (p2 p5 p8 : Pl) : Prop where
  xa : Ix w a p2 fI
  xb : Ix w b p5 fI
  xc : Ix w c p8 oI
  ia : SyIn w (fun k => k < w.heap.size) p2 fI
  ib : SyIn w (fun k => k < w.heap.size) p5 fI
  ic : SyIn w (fun k => k < w.heap.size) p8 oI
theorem Three.below {w w' : World} {a b c : Nat} {p2 p5 p8 : Pl} (h : Three w a b c p2 p5 p8) (hb : Below w.heap.size w w') : Three w' a b c p2 p5 p8 :=
  ⟨h.xa.below hb, h.xb.below hb, h.xc.below hb, h.ia.lt hb, h.ib.lt hb, h.ic.lt hb⟩
/-- The row of how many were looked at. -/
def Ns (w : World) (nb : Nat) : Prop := ∃ B, w.ownsRow B 3 1 (.slice (some ⟨nb, 0, none⟩) 2 2) 2 (ints [1, 0])
theorem Ns.keepb {w w' : World} {nb : Nat} (h : Ns w nb) (hb : Below w.heap.size w w') : Ns w' nb := by
  obtain ⟨B, h⟩ := h
  exact ⟨B, own_kept h fun k hk => hb.block k (h.lt k hk).2⟩
abbrev qS : Sym := ⟨[102], [], false, 0, false, 0, false, 0, 0⟩
theorem two_ims {w : World} {b : Nat} {p q : Pl} {x y : Im} (h : Bx w b (imA p x ++ imA q y) 62) (hx : SyIn w (fun k => k < w.heap.size) p x) (hy : SyIn w (fun k => k < w.heap.size) q y) : Ims w (fun k => k < w.heap.size) (some ⟨b, 0, none⟩) 2 2 [x, y] := by
  refine ⟨rfl, fun k => if k = 0 then p else q, ⟨(by intro h; cases h), Nat.le_refl _, (fun ad e _ => by cases e; exact h.lt), ?_⟩, ?_⟩
  · intro ad e k hk j u hu
    cases e
    have hj : j < 15 := (Array.getElem?_eq_some_iff.1 hu).1
    rw [plainAdd, Nat.zero_add, h.c]
    rcases (by omega : k = 0 ∨ k = 1) with rfl | rfl
    · rw [Array.getElem?_append, if_pos (by show 0 * 15 + j < 15; omega), Nat.zero_mul, Nat.zero_add]
      exact hu
    · rw [Array.getElem?_append, if_neg (by show ¬ 1 * 15 + j < 15; omega)]
      rw [show 1 * 15 + j - (imA p x).size = j by show 1 * 15 + j - 15 = j; omega]
      exact hu
  · intro k hk
    rcases (by omega : k = 0 ∨ k = 1) with rfl | rfl
    · exact hx
    · exact hy
theorem aw_fit : FitsS [fI, fI] ∧ FitsS [fI, oI] := by
  have h1 : FitS fI := mk_fit (by decide) (by intro s hs; rw [List.mem_singleton] at hs; subst hs; exact ⟨by decide, by decide⟩)
  have h2 : FitS oI := mk_fit (by decide) (by intro s hs; rw [List.mem_singleton] at hs; subst hs; exact ⟨by decide, by decide⟩)
  refine ⟨⟨by decide, fun x hx => ?_⟩, ⟨by decide, fun x hx => ?_⟩⟩
  · simp only [List.mem_cons, List.not_mem_nil, or_false] at hx
    rcases hx with rfl | rfl <;> exact h1
  · simp only [List.mem_cons, List.not_mem_nil, or_false] at hx
    rcases hx with rfl | rfl
    · exact h1
    · exact h2
theorem aw_look1 : lookP (fun x => (tabI qS x).1) (-1) 0 [fI, fI] = (0, 0, true) := by decide +kernel
theorem aw_look2 : lookP (fun x => (tabI qS x).1) 0 0 [fI, fI] = (1, 0, true) := by decide +kernel
theorem aw_num : numL (tabN qS) (-1) [fI, fI] (goneP (fun x => (tabI qS x).1) (-1) 0 [fI, fI]) = [1, 0] := by decide +kernel
theorem aw_bind1 : bindP 1 0 false [fI, fI] = ((0, 0, true), 0) := by decide +kernel
theorem aw_bind2 : bindP 1 0 false [fI, oI] = ((1, 0, true), 0) := by decide +kernel
set_option maxRecDepth 100000 in
set_option maxHeartbeats 4000000 in
theorem awake_any (w : World) : Calls Try.prog 12 #[] w fun e w' => e = .returned (.bool true) ∧ Below w.heap.size w w' := by
  go_enter Try.func12, Try.ntmps12
  go_upto_region 4 with (fail)
  have hb1 : Below w.heap.size w ((w.alloc (.cells (symA fS) 25)).alloc (.cells (symA oS) 25)) := ((Below.refl _ _).alloc (Nat.le_refl _) _).alloc (by simp) _
  have HB1 := Lib.hid hb1
  have HF1 := Lib.hid (show Sx ((w.alloc (.cells (symA fS) 25)).alloc (.cells (symA oS) 25)) w.heap.size fS from ⟨(Bx.new w (symA fS) 25).alloc _⟩)
  have HO1 := Lib.hid (show Sx ((w.alloc (.cells (symA fS) 25)).alloc (.cells (symA oS) 25)) (w.heap.size + 1) oS from by
    have := Sx.new (w.alloc (.cells (symA fS) 25)) oS
    simpa using this)
  clear hb1
  change Code.wp _ _ _ _ ((w.alloc (.cells (symA fS) 25)).alloc (.cells (symA oS) 25))
  generalize (w.alloc (.cells (symA fS) 25)).alloc (.cells (symA oS) 25) = w1 at *
  have HST := Lib.hid (show True from trivial)
  refine wp_region_free 12 (awT w.heap.size (w.heap.size + 1)) awF #[true, true, true, true, true, true, true, true, true, true, true, true, false, false, false] 3 (by kernel_rfl) (by kernel_rfl) (by decide) rfl (by kernel_rfl) (by kernel_rfl) rfl ?_ awF_on ?_ ?_
  · intro i hi vs v
    rcases (by omega : i = 0 ∨ i = 1 ∨ i = 2 ∨ i = 3 ∨ i = 4 ∨ i = 5 ∨ i = 6 ∨ i = 7 ∨ i = 8 ∨ i = 9 ∨ i = 10 ∨ i = 11) with rfl | rfl | rfl | rfl | rfl | rfl | rfl | rfl | rfl | rfl | rfl | rfl <;> rfl
  · intro i hi vs w' hb hd K hK o ho
    obtain ⟨y0, y1, y2, y3, y4, y5, y6, y7, y8⟩ := (HF1.out.below hb).cells
    obtain ⟨z0, z1, z2, z3, z4, z5, z6, z7, z8⟩ := (HO1.out.below hb).cells
    rcases (by omega : i = 0 ∨ i = 1 ∨ i = 2 ∨ i = 3 ∨ i = 4 ∨ i = 5 ∨ i = 6 ∨ i = 7 ∨ i = 8 ∨ i = 9 ∨ i = 10 ∨ i = 11) with rfl | rfl | rfl | rfl | rfl | rfl | rfl | rfl | rfl | rfl | rfl | rfl
    · cases ho
      unfold awT
      go_simp
      exact hK.out (symV fS) _ rfl (Below.refl _ _)
    · cases ho
      obtain ⟨v, lo, hi, hv, rfl⟩ : ∃ v, ∃ lo hi : Nat, vs 0 = some v ∧ v = symV fS := hd 0 (of_decide_eq_true (by kernel_rfl))
      unfold awT
      simp only [hv, Option.getD_some]
      go_simp
      have hk := hK.out (.slice (some ⟨w'.heap.size, 0, none⟩) 1 1) _ ⟨rfl, Bx.new w' (symA fS) 25⟩ ((Below.refl _ _).alloc (Nat.le_refl _) _)
      unfold awT at hk
      simp only [hv, Option.getD_some] at hk
      exact hk
    · cases ho
      obtain ⟨v, lo, hi, hv, rfl, hs⟩ : ∃ v, ∃ lo hi : Nat, vs 1 = some v ∧ (v = .slice (some ⟨lo, 0, none⟩) 1 1 ∧ Bx w' lo (symA fS) 25) := hd 1 (of_decide_eq_true (by kernel_rfl))
      unfold awT
      simp only [hv, Option.getD_some]
      go_simp
      (with_reducible refine (mkd_own _ _ _ [fS] w' (one_syl hs) (by decide) (by intro s hs; rw [List.mem_singleton] at hs; subst hs; exact ⟨by decide, by decide⟩)).mono ?_)
      rintro e w2 ⟨A', c', Af, cf, rfl, ht2, hb2⟩
      go_simp
      have hk := hK.out (imV (mkP (some ⟨lo, 0, none⟩, 1) (A', c') (Af, cf)) (mkI [fS])) w2 ⟨lo, A', c', Af, cf, rfl, hs.below hb2, ht2.weak fun k hk => ⟨Nat.le_of_lt hk.1, hk.2⟩⟩ hb2
      unfold awT at hk
      simp only [hv, Option.getD_some] at hk
      exact hk
    · cases ho
      unfold awT
      go_simp
      exact hK.out (symV fS) _ rfl (Below.refl _ _)
    · cases ho
      obtain ⟨v, lo, hi, hv, rfl⟩ : ∃ v, ∃ lo hi : Nat, vs 3 = some v ∧ v = symV fS := hd 3 (of_decide_eq_true (by kernel_rfl))
      unfold awT
      simp only [hv, Option.getD_some]
      go_simp
      have hk := hK.out (.slice (some ⟨w'.heap.size, 0, none⟩) 1 1) _ ⟨rfl, Bx.new w' (symA fS) 25⟩ ((Below.refl _ _).alloc (Nat.le_refl _) _)
      unfold awT at hk
      simp only [hv, Option.getD_some] at hk
      exact hk
    · cases ho
      obtain ⟨v, lo, hi, hv, rfl, hs⟩ : ∃ v, ∃ lo hi : Nat, vs 4 = some v ∧ (v = .slice (some ⟨lo, 0, none⟩) 1 1 ∧ Bx w' lo (symA fS) 25) := hd 4 (of_decide_eq_true (by kernel_rfl))
      unfold awT
      simp only [hv, Option.getD_some]
      go_simp
      (with_reducible refine (mkd_own _ _ _ [fS] w' (one_syl hs) (by decide) (by intro s hs; rw [List.mem_singleton] at hs; subst hs; exact ⟨by decide, by decide⟩)).mono ?_)
      rintro e w2 ⟨A', c', Af, cf, rfl, ht2, hb2⟩
      go_simp
      have hk := hK.out (imV (mkP (some ⟨lo, 0, none⟩, 1) (A', c') (Af, cf)) (mkI [fS])) w2 ⟨lo, A', c', Af, cf, rfl, hs.below hb2, ht2.weak fun k hk => ⟨Nat.le_of_lt hk.1, hk.2⟩⟩ hb2
      unfold awT at hk
      simp only [hv, Option.getD_some] at hk
      exact hk
    · cases ho
      unfold awT
      go_simp
      exact hK.out (symV oS) _ rfl (Below.refl _ _)
    · cases ho
      obtain ⟨v, lo, hi, hv, rfl⟩ : ∃ v, ∃ lo hi : Nat, vs 6 = some v ∧ v = symV oS := hd 6 (of_decide_eq_true (by kernel_rfl))
      unfold awT
      simp only [hv, Option.getD_some]
      go_simp
      have hk := hK.out (.slice (some ⟨w'.heap.size, 0, none⟩) 1 1) _ ⟨rfl, Bx.new w' (symA oS) 25⟩ ((Below.refl _ _).alloc (Nat.le_refl _) _)
      unfold awT at hk
      simp only [hv, Option.getD_some] at hk
      exact hk
    · cases ho
      obtain ⟨v, lo, hi, hv, rfl, hs⟩ : ∃ v, ∃ lo hi : Nat, vs 7 = some v ∧ (v = .slice (some ⟨lo, 0, none⟩) 1 1 ∧ Bx w' lo (symA oS) 25) := hd 7 (of_decide_eq_true (by kernel_rfl))
      unfold awT
      simp only [hv, Option.getD_some]
      go_simp
      (with_reducible refine (mkd_own _ _ _ [oS] w' (one_syl hs) (by decide) (by intro s hs; rw [List.mem_singleton] at hs; subst hs; exact ⟨by decide, by decide⟩)).mono ?_)
      rintro e w2 ⟨A', c', Af, cf, rfl, ht2, hb2⟩
      go_simp
      have hk := hK.out (imV (mkP (some ⟨lo, 0, none⟩, 1) (A', c') (Af, cf)) (mkI [oS])) w2 ⟨lo, A', c', Af, cf, rfl, hs.below hb2, ht2.weak fun k hk => ⟨Nat.le_of_lt hk.1, hk.2⟩⟩ hb2
      unfold awT at hk
      simp only [hv, Option.getD_some] at hk
      exact hk
    · cases ho
      unfold awT
      go_simp
      exact hK.out (.pointer (some ⟨w'.heap.size, 0, none⟩)) _ ⟨rfl, Bx.new w' (imA noP noIm) 62, by simp⟩ ((Below.refl _ _).alloc (Nat.le_refl _) _)
    · cases ho
      unfold awT
      go_simp
      exact hK.out (.pointer (some ⟨w'.heap.size, 0, none⟩)) _ ⟨rfl, Bx.new w' (imA noP noIm) 62, by simp⟩ ((Below.refl _ _).alloc (Nat.le_refl _) _)
    · cases ho
      unfold awT
      go_simp
      exact hK.out (.pointer (some ⟨w'.heap.size, 0, none⟩)) _ ⟨rfl, Bx.new w' (imA noP noIm) 62, by simp⟩ ((Below.refl _ _).alloc (Nat.le_refl _) _)
  · intro vs lo hi w4 hb hv hlh hsep
    obtain ⟨v2, h2, b2, A2, c2, Af2, cf2, rfl, hx2, ht2⟩ := hv 2 (by decide)
    obtain ⟨v5, h5, b5, A5, c5, Af5, cf5, rfl, hx5, ht5⟩ := hv 5 (by decide)
    obtain ⟨v8, h8, b8, A8, c8, Af8, cf8, rfl, hx8, ht8⟩ := hv 8 (by decide)
    obtain ⟨v9, h9, rfl, hxa, hla⟩ := hv 9 (by decide)
    obtain ⟨v10, h10, rfl, hxb, hlb⟩ := hv 10 (by decide)
    obtain ⟨v11, h11, rfl, hxc, hlc⟩ := hv 11 (by decide)
    obtain ⟨v0, h0, -⟩ := hv 0 (by decide)
    obtain ⟨v1, h1, -⟩ := hv 1 (by decide)
    obtain ⟨v3, h3, -⟩ := hv 3 (by decide)
    obtain ⟨v4, h4, -⟩ := hv 4 (by decide)
    obtain ⟨v6, h6, -⟩ := hv 6 (by decide)
    obtain ⟨v7, h7, -⟩ := hv 7 (by decide)
    have s1 := hsep 9 10 (by decide) (by decide) (by decide)
    have s2 := hsep 9 11 (by decide) (by decide) (by decide)
    have s3 := hsep 10 11 (by decide) (by decide) (by decide)
    have s4 := hsep 2 9 (by decide) (by decide) (by decide)
    have s5 := hsep 2 10 (by decide) (by decide) (by decide)
    have s6 := hsep 2 11 (by decide) (by decide) (by decide)
    have s7 := hsep 5 9 (by decide) (by decide) (by decide)
    have s8 := hsep 5 10 (by decide) (by decide) (by decide)
    have s9 := hsep 5 11 (by decide) (by decide) (by decide)
    have sa := hsep 8 9 (by decide) (by decide) (by decide)
    have sb := hsep 8 10 (by decide) (by decide) (by decide)
    have sc := hsep 8 11 (by decide) (by decide) (by decide)
    have l9 := (hlh 9 (by decide)).1
    have l10 := (hlh 10 (by decide)).1
    have l11 := (hlh 11 (by decide)).1
    have l2 := (hlh 2 (by decide)).2.2
    have l5 := (hlh 5 (by decide)).2.2
    have l8 := (hlh 8 (by decide)).2.2
    generalize lo 9 = a at *
    generalize lo 10 = b at *
    generalize lo 11 = c at *
    have hab : a ≠ b := by omega
    have hac : a ≠ c := by omega
    have hbc : b ≠ c := by omega
    have hne : ∀ (k g : Nat) (s : Sym), Bx w4 k (symA s) 25 → Bx w4 g (imA noP noIm) 62 → k ≠ g := by
      intro k g s h1 h2 e
      subst e
      have := h1.symm.trans h2
      simp at this
    have hk3 : ∀ k, k ≠ a → k ≠ b → k ≠ c → (((w4.setRow a (imA (mkP (some ⟨b2, 0, none⟩, 1) (A2, c2) (Af2, cf2)) fI)).setRow b (imA (mkP (some ⟨b5, 0, none⟩, 1) (A5, c5) (Af5, cf5)) fI)).setRow c (imA (mkP (some ⟨b8, 0, none⟩, 1) (A8, c8) (Af8, cf8)) oI)).heap[k]? = w4.heap[k]? := fun k h1 h2 h3 =>
      (setRow_other _ _ _ _ h3).trans ((setRow_other _ _ _ _ h2).trans (setRow_other _ _ _ _ h1))
    have HT := Lib.hid (show Three (((w4.setRow a (imA (mkP (some ⟨b2, 0, none⟩, 1) (A2, c2) (Af2, cf2)) fI)).setRow b (imA (mkP (some ⟨b5, 0, none⟩, 1) (A5, c5) (Af5, cf5)) fI)).setRow c (imA (mkP (some ⟨b8, 0, none⟩, 1) (A8, c8) (Af8, cf8)) oI)) a b c (mkP (some ⟨b2, 0, none⟩, 1) (A2, c2) (Af2, cf2)) (mkP (some ⟨b5, 0, none⟩, 1) (A5, c5) (Af5, cf5)) (mkP (some ⟨b8, 0, none⟩, 1) (A8, c8) (Af8, cf8)) from by
      have e : (((w4.setRow a (imA (mkP (some ⟨b2, 0, none⟩, 1) (A2, c2) (Af2, cf2)) fI)).setRow b (imA (mkP (some ⟨b5, 0, none⟩, 1) (A5, c5) (Af5, cf5)) fI)).setRow c (imA (mkP (some ⟨b8, 0, none⟩, 1) (A8, c8) (Af8, cf8)) oI)).heap.size = w4.heap.size := by simp
      refine ⟨⟨?_⟩, ⟨?_⟩, ⟨?_⟩, ⟨one_syl ?_, ?_⟩, ⟨one_syl ?_, ?_⟩, ⟨one_syl ?_, ?_⟩⟩
      · exact (setRow_other _ _ _ _ hac).trans ((setRow_other _ _ _ _ hab).trans (setRow_heap _ _ _ _ _ _ hxa))
      · exact (setRow_other _ _ _ _ hbc).trans (setRow_heap _ _ _ _ _ _ ((setRow_other _ _ _ _ hab.symm).trans hxb))
      · exact setRow_heap _ _ _ _ _ _ ((setRow_other _ _ _ _ hbc.symm).trans ((setRow_other _ _ _ _ hac.symm).trans hxc))
      · exact (hk3 _ (hne _ _ _ hx2 hxa) (hne _ _ _ hx2 hxb) (hne _ _ _ hx2 hxc)).trans hx2
      · exact (ht2.keep fun k hk _ => hk3 k (by omega) (by omega) (by omega)).weak fun k hk => by omega
      · exact (hk3 _ (hne _ _ _ hx5 hxa) (hne _ _ _ hx5 hxb) (hne _ _ _ hx5 hxc)).trans hx5
      · exact (ht5.keep fun k hk _ => hk3 k (by omega) (by omega) (by omega)).weak fun k hk => by omega
      · exact (hk3 _ (hne _ _ _ hx8 hxa) (hne _ _ _ hx8 hxb) (hne _ _ _ hx8 hxc)).trans hx8
      · exact (ht8.keep fun k hk _ => hk3 k (by omega) (by omega) (by omega)).weak fun k hk => by omega)
    have HB5 := Lib.hid (below_row (below_row (below_row (HB1.out.trans (hb.mono HB1.out.size)) (r := a) (by have := HB1.out.size; omega) (imA (mkP (some ⟨b2, 0, none⟩, 1) (A2, c2) (Af2, cf2)) fI)) (r := b) (by have := HB1.out.size; omega) (imA (mkP (some ⟨b5, 0, none⟩, 1) (A5, c5) (Af5, cf5)) fI)) (r := c) (by have := HB1.out.size; omega) (imA (mkP (some ⟨b8, 0, none⟩, 1) (A8, c8) (Af8, cf8)) oI))
    unfold awT
    simp only [h0, h1, h2, h3, h4, h5, h6, h7, h8, h9, h10, h11, Option.getD_some]
    refine wpAny_only (i := 12) (by kernel_rfl) rfl (fun K hK => ?_)
    rw [if_pos (by rfl)]
    refine wp_store_row 62 _ _ rfl a (imA (mkP (some ⟨b2, 0, none⟩, 1) (A2, c2) (Af2, cf2)) fI) rfl rfl 62 (imA noP noIm) hxa Try.info_img rfl (by simp [Value.oneCell']) ?_
    refine hK.out _ _ ?_
    rw [put_none]
    rotate_left
    · rfl
    clear hK K
    refine wpAny_only (i := 13) (by kernel_rfl) rfl (fun K hK => ?_)
    rw [if_pos (by rfl)]
    refine wp_store_row 62 _ _ rfl b (imA (mkP (some ⟨b5, 0, none⟩, 1) (A5, c5) (Af5, cf5)) fI) rfl rfl 62 (imA noP noIm) ((setRow_other _ _ _ _ hab.symm).trans hxb) Try.info_img rfl (by simp [Value.oneCell']) ?_
    refine hK.out _ _ ?_
    rw [put_none]
    rotate_left
    · rfl
    clear hK K
    refine wpAny_only (i := 14) (by kernel_rfl) rfl (fun K hK => ?_)
    rw [if_pos (by rfl)]
    refine wp_store_row 62 _ _ rfl c (imA (mkP (some ⟨b8, 0, none⟩, 1) (A8, c8) (Af8, cf8)) oI) rfl rfl 62 (imA noP noIm) ((setRow_other _ _ _ _ hbc.symm).trans ((setRow_other _ _ _ _ hac.symm).trans hxc)) Try.info_img rfl (by simp [Value.oneCell']) ?_
    refine hK.out _ _ ?_
    rw [put_none]
    rotate_left
    · rfl
    clear hK K
    refine wpAny_end (by kernel_rfl) ?_
    change Exit.then _ _ _ _ (((w4.setRow a (imA (mkP (some ⟨b2, 0, none⟩, 1) (A2, c2) (Af2, cf2)) fI)).setRow b (imA (mkP (some ⟨b5, 0, none⟩, 1) (A5, c5) (Af5, cf5)) fI)).setRow c (imA (mkP (some ⟨b8, 0, none⟩, 1) (A8, c8) (Af8, cf8)) oI))
    clear hk3 hne s1 s2 s3 s4 s5 s6 s7 s8 s9 sa sb sc l9 l10 l11 l2 l5 l8 hab hac hbc hla hlb hlc hxa hxb hxc hx2 hx5 hx8 ht2 ht5 ht8 hsep hlh hv h0 h1 h2 h3 h4 h5 h6 h7 h8 h9 h10 h11 hb
    have HBV := HB5
    clear HB5
    generalize (((w4.setRow a (imA (mkP (some ⟨b2, 0, none⟩, 1) (A2, c2) (Af2, cf2)) fI)).setRow b (imA (mkP (some ⟨b5, 0, none⟩, 1) (A5, c5) (Af5, cf5)) fI)).setRow c (imA (mkP (some ⟨b8, 0, none⟩, 1) (A8, c8) (Af8, cf8)) oI)) = w5 at *
    have HD5 := HT
    clear HT
    go_upto_region 5 with (fail)
    refine wp_region_lit ?_
    refine wpList_plain rfl fun K hK => ?_
    go_simp
    refine hK _ _ ?_
    clear hK K
    refine wpl_load_im HD5.out.xa (by rfl) ?_
    refine wpl_load_im HD5.out.xb (by rfl) ?_
    have hbr : Below w5.heap.size w5 (w5.alloc (.cells (imA (mkP (some ⟨b2, 0, none⟩, 1) (A2, c2) (Af2, cf2)) fI ++ imA (mkP (some ⟨b5, 0, none⟩, 1) (A5, c5) (Af5, cf5)) fI) 62)) := (Below.refl _ _).alloc (Nat.le_refl _) _
    have HI6 := Lib.hid (two_ims (Bx.new w5 (imA (mkP (some ⟨b2, 0, none⟩, 1) (A2, c2) (Af2, cf2)) fI ++ imA (mkP (some ⟨b5, 0, none⟩, 1) (A5, c5) (Af5, cf5)) fI) 62) (HD5.out.ia.lt hbr) (HD5.out.ib.lt hbr))
    have HD6 := Lib.hid (HD5.out.below hbr)
    have HB6 := Lib.hid (HBV.out.trans (hbr.mono HBV.out.size))
    clear hbr HBV HD5
    have HBV := HB6
    clear HB6
    refine wpList_plain rfl fun K hK => ?_
    go_simp
    refine hK _ _ ?_
    clear hK K
    change wpList _ _ _ _ _ (w5.alloc (.cells (imA (mkP (some ⟨b2, 0, none⟩, 1) (A2, c2) (Af2, cf2)) fI ++ imA (mkP (some ⟨b5, 0, none⟩, 1) (A5, c5) (Af5, cf5)) fI) 62))
    generalize (w5.alloc (.cells (imA (mkP (some ⟨b2, 0, none⟩, 1) (A2, c2) (Af2, cf2)) fI ++ imA (mkP (some ⟨b5, 0, none⟩, 1) (A5, c5) (Af5, cf5)) fI) 62)) = w6 at *
    generalize w5.heap.size = r6 at *
    have HC := Lib.hid (by have h := look_any qS (-1) _ 2 2 _ w6 HI6.out aw_fit.1 (by decide) (by decide); rw [aw_look1, aw_num] at h; exact h)
    refine wpList_plain rfl fun K hK => ?_
    go_simp
    (with_reducible refine (HC.out).mono ?_)
    rintro e w7 ⟨nb, rfl, ho, hbc⟩
    go_simp
    refine hK _ _ ?_
    clear hK K HC HI6
    have HD7 := Lib.hid (HD6.out.below hbc)
    have HB7 := Lib.hid (HBV.out.trans (hbc.mono HBV.out.size))
    clear HBV HD6
    have HBV := HB7
    clear HB7
    have HK7N1 := Lib.hid (show Ns w7 nb from ⟨_, ho⟩)
    clear ho
    go_upto_region 6 with (fail)
    have hbx : Below w7.heap.size w7 (w7.alloc (.cells (fdA (0, 0, true)) 29)) := (Below.refl _ _).alloc (Nat.le_refl _) _
    have HK8Xx := Lib.hid (Bx.new w7 (fdA (0, 0, true)) 29)
    have HD8 := Lib.hid (HD7.out.below hbx)
    have HB8 := Lib.hid (HBV.out.trans (hbx.mono HBV.out.size))
    have HK8N1 := Lib.hid (HK7N1.out.keepb hbx)
    clear hbx hbc HBV HD7 HK7N1
    have HBV := HB8
    clear HB8
    change Code.wp _ _ _ _ (w7.alloc (.cells (fdA (0, 0, true)) 29))
    generalize (w7.alloc (.cells (fdA (0, 0, true)) 29)) = w8 at *
    generalize w7.heap.size = g8 at *
    go_upto_region 6 with (fail)
    refine wp_region_lit ?_
    refine wpList_plain rfl fun K hK => ?_
    go_simp
    refine hK _ _ ?_
    clear hK K
    refine wpl_load_im HD8.out.xa (by rfl) ?_
    refine wpl_load_im HD8.out.xb (by rfl) ?_
    have hbr : Below w8.heap.size w8 (w8.alloc (.cells (imA (mkP (some ⟨b2, 0, none⟩, 1) (A2, c2) (Af2, cf2)) fI ++ imA (mkP (some ⟨b5, 0, none⟩, 1) (A5, c5) (Af5, cf5)) fI) 62)) := (Below.refl _ _).alloc (Nat.le_refl _) _
    have HI9 := Lib.hid (two_ims (Bx.new w8 (imA (mkP (some ⟨b2, 0, none⟩, 1) (A2, c2) (Af2, cf2)) fI ++ imA (mkP (some ⟨b5, 0, none⟩, 1) (A5, c5) (Af5, cf5)) fI) 62) (HD8.out.ia.lt hbr) (HD8.out.ib.lt hbr))
    have HD9 := Lib.hid (HD8.out.below hbr)
    have HB9 := Lib.hid (HBV.out.trans (hbr.mono HBV.out.size))
    have HK9N1 := Lib.hid (HK8N1.out.keepb hbr)
    have HK9Xx := Lib.hid (HK8Xx.out.below hbr)
    clear hbr HBV HD8 HK8N1 HK8Xx
    have HBV := HB9
    clear HB9
    refine wpList_plain rfl fun K hK => ?_
    go_simp
    refine hK _ _ ?_
    clear hK K
    change wpList _ _ _ _ _ (w8.alloc (.cells (imA (mkP (some ⟨b2, 0, none⟩, 1) (A2, c2) (Af2, cf2)) fI ++ imA (mkP (some ⟨b5, 0, none⟩, 1) (A5, c5) (Af5, cf5)) fI) 62))
    generalize (w8.alloc (.cells (imA (mkP (some ⟨b2, 0, none⟩, 1) (A2, c2) (Af2, cf2)) fI ++ imA (mkP (some ⟨b5, 0, none⟩, 1) (A5, c5) (Af5, cf5)) fI) 62)) = w9 at *
    generalize w8.heap.size = r9 at *
    have HC := Lib.hid (by have h := look_any qS 0 _ 2 2 _ w9 HI9.out aw_fit.1 (by decide) (by decide); rw [aw_look2] at h; exact h)
    refine wpList_plain rfl fun K hK => ?_
    go_simp
    (with_reducible refine (HC.out).mono ?_)
    rintro e w10 ⟨nb2, rfl, -, hbc⟩
    go_simp
    refine hK _ _ ?_
    clear hK K HC HI9
    have HK10N1 := Lib.hid (HK9N1.out.keepb hbc)
    have HK10Xx := Lib.hid (HK9Xx.out.below hbc)
    have HD10 := Lib.hid (HD9.out.below hbc)
    have HB10 := Lib.hid (HBV.out.trans (hbc.mono HBV.out.size))
    clear HBV HD9 HK9N1 HK9Xx
    have HBV := HB10
    clear HB10
    go_upto_region 7 with (fail)
    have hbx : Below w10.heap.size w10 (w10.alloc (.cells (fdA (1, 0, true)) 29)) := (Below.refl _ _).alloc (Nat.le_refl _) _
    have HK11Xy := Lib.hid (Bx.new w10 (fdA (1, 0, true)) 29)
    have HD11 := Lib.hid (HD10.out.below hbx)
    have HB11 := Lib.hid (HBV.out.trans (hbx.mono HBV.out.size))
    have HK11N1 := Lib.hid (HK10N1.out.keepb hbx)
    have HK11Xx := Lib.hid (HK10Xx.out.below hbx)
    clear hbx hbc HBV HD10 HK10N1 HK10Xx
    have HBV := HB11
    clear HB11
    change Code.wp _ _ _ _ (w10.alloc (.cells (fdA (1, 0, true)) 29))
    generalize (w10.alloc (.cells (fdA (1, 0, true)) 29)) = w11 at *
    generalize w10.heap.size = g11 at *
    go_upto_region 7 with (fail)
    refine wp_region_lit ?_
    refine wpl_load_im HD11.out.xa (by rfl) ?_
    refine wpl_load_im HD11.out.xb (by rfl) ?_
    have hbr : Below w11.heap.size w11 (w11.alloc (.cells (imA (mkP (some ⟨b2, 0, none⟩, 1) (A2, c2) (Af2, cf2)) fI ++ imA (mkP (some ⟨b5, 0, none⟩, 1) (A5, c5) (Af5, cf5)) fI) 62)) := (Below.refl _ _).alloc (Nat.le_refl _) _
    have HI12 := Lib.hid (two_ims (Bx.new w11 (imA (mkP (some ⟨b2, 0, none⟩, 1) (A2, c2) (Af2, cf2)) fI ++ imA (mkP (some ⟨b5, 0, none⟩, 1) (A5, c5) (Af5, cf5)) fI) 62) (HD11.out.ia.lt hbr) (HD11.out.ib.lt hbr))
    have HD12 := Lib.hid (HD11.out.below hbr)
    have HB12 := Lib.hid (HBV.out.trans (hbr.mono HBV.out.size))
    have HK12N1 := Lib.hid (HK11N1.out.keepb hbr)
    have HK12Xx := Lib.hid (HK11Xx.out.below hbr)
    have HK12Xy := Lib.hid (HK11Xy.out.below hbr)
    clear hbr HBV HD11 HK11N1 HK11Xx HK11Xy
    have HBV := HB12
    clear HB12
    refine wpList_plain rfl fun K hK => ?_
    go_simp
    refine hK _ _ ?_
    clear hK K
    change wpList _ _ _ _ _ (w11.alloc (.cells (imA (mkP (some ⟨b2, 0, none⟩, 1) (A2, c2) (Af2, cf2)) fI ++ imA (mkP (some ⟨b5, 0, none⟩, 1) (A5, c5) (Af5, cf5)) fI) 62))
    generalize (w11.alloc (.cells (imA (mkP (some ⟨b2, 0, none⟩, 1) (A2, c2) (Af2, cf2)) fI ++ imA (mkP (some ⟨b5, 0, none⟩, 1) (A5, c5) (Af5, cf5)) fI) 62)) = w12 at *
    generalize w11.heap.size = r12 at *
    have HC := Lib.hid (by have h := bind_any 1 0 false _ 2 2 _ w12 HI12.out aw_fit.1 (by decide) (by unfold I64; omega) (by unfold I64; omega); rw [aw_bind1] at h; exact h)
    refine wpList_plain rfl fun K hK => ?_
    go_simp
    (with_reducible refine (HC.out).mono ?_)
    rintro e w13 ⟨rfl, hbc⟩
    go_simp
    refine hK _ _ ?_
    clear hK K HC HI12
    have HK13N1 := Lib.hid (HK12N1.out.keepb hbc)
    have HK13Xx := Lib.hid (HK12Xx.out.below hbc)
    have HK13Xy := Lib.hid (HK12Xy.out.below hbc)
    have HD13 := Lib.hid (HD12.out.below hbc)
    have HB13 := Lib.hid (HBV.out.trans (hbc.mono HBV.out.size))
    clear HBV HD12 HK12N1 HK12Xx HK12Xy
    have HBV := HB13
    clear HB13
    go_upto_region 8 with (fail)
    have hbx : Below w13.heap.size w13 (w13.alloc (.cells (fdA (0, 0, true)) 29)) := (Below.refl _ _).alloc (Nat.le_refl _) _
    have HK14Xp := Lib.hid (Bx.new w13 (fdA (0, 0, true)) 29)
    have HD14 := Lib.hid (HD13.out.below hbx)
    have HB14 := Lib.hid (HBV.out.trans (hbx.mono HBV.out.size))
    have HK14N1 := Lib.hid (HK13N1.out.keepb hbx)
    have HK14Xx := Lib.hid (HK13Xx.out.below hbx)
    have HK14Xy := Lib.hid (HK13Xy.out.below hbx)
    clear hbx hbc HBV HD13 HK13N1 HK13Xx HK13Xy
    have HBV := HB14
    clear HB14
    change Code.wp _ _ _ _ (w13.alloc (.cells (fdA (0, 0, true)) 29))
    generalize (w13.alloc (.cells (fdA (0, 0, true)) 29)) = w14 at *
    generalize w13.heap.size = g14 at *
    go_upto_region 8 with (fail)
    refine wp_region_lit ?_
    refine wpl_load_im HD14.out.xa (by rfl) ?_
    refine wpl_load_im HD14.out.xc (by rfl) ?_
    have hbr : Below w14.heap.size w14 (w14.alloc (.cells (imA (mkP (some ⟨b2, 0, none⟩, 1) (A2, c2) (Af2, cf2)) fI ++ imA (mkP (some ⟨b8, 0, none⟩, 1) (A8, c8) (Af8, cf8)) oI) 62)) := (Below.refl _ _).alloc (Nat.le_refl _) _
    have HI15 := Lib.hid (two_ims (Bx.new w14 (imA (mkP (some ⟨b2, 0, none⟩, 1) (A2, c2) (Af2, cf2)) fI ++ imA (mkP (some ⟨b8, 0, none⟩, 1) (A8, c8) (Af8, cf8)) oI) 62) (HD14.out.ia.lt hbr) (HD14.out.ic.lt hbr))
    have HD15 := Lib.hid (HD14.out.below hbr)
    have HB15 := Lib.hid (HBV.out.trans (hbr.mono HBV.out.size))
    have HK15N1 := Lib.hid (HK14N1.out.keepb hbr)
    have HK15Xx := Lib.hid (HK14Xx.out.below hbr)
    have HK15Xy := Lib.hid (HK14Xy.out.below hbr)
    have HK15Xp := Lib.hid (HK14Xp.out.below hbr)
    clear hbr HBV HD14 HK14N1 HK14Xx HK14Xy HK14Xp
    have HBV := HB15
    clear HB15
    refine wpList_plain rfl fun K hK => ?_
    go_simp
    refine hK _ _ ?_
    clear hK K
    change wpList _ _ _ _ _ (w14.alloc (.cells (imA (mkP (some ⟨b2, 0, none⟩, 1) (A2, c2) (Af2, cf2)) fI ++ imA (mkP (some ⟨b8, 0, none⟩, 1) (A8, c8) (Af8, cf8)) oI) 62))
    generalize (w14.alloc (.cells (imA (mkP (some ⟨b2, 0, none⟩, 1) (A2, c2) (Af2, cf2)) fI ++ imA (mkP (some ⟨b8, 0, none⟩, 1) (A8, c8) (Af8, cf8)) oI) 62)) = w15 at *
    generalize w14.heap.size = r15 at *
    have HC := Lib.hid (by have h := bind_any 1 0 false _ 2 2 _ w15 HI15.out aw_fit.2 (by decide) (by unfold I64; omega) (by unfold I64; omega); rw [aw_bind2] at h; exact h)
    refine wpList_plain rfl fun K hK => ?_
    go_simp
    (with_reducible refine (HC.out).mono ?_)
    rintro e w16 ⟨rfl, hbc⟩
    go_simp
    refine hK _ _ ?_
    clear hK K HC HI15
    have HK16N1 := Lib.hid (HK15N1.out.keepb hbc)
    have HK16Xx := Lib.hid (HK15Xx.out.below hbc)
    have HK16Xy := Lib.hid (HK15Xy.out.below hbc)
    have HK16Xp := Lib.hid (HK15Xp.out.below hbc)
    have HD16 := Lib.hid (HD15.out.below hbc)
    have HB16 := Lib.hid (HBV.out.trans (hbc.mono HBV.out.size))
    clear HBV HD15 HK15N1 HK15Xx HK15Xy HK15Xp
    have HBV := HB16
    clear HB16
    go_upto_region 9 with (fail)
    have hbx : Below w16.heap.size w16 (w16.alloc (.cells (fdA (1, 0, true)) 29)) := (Below.refl _ _).alloc (Nat.le_refl _) _
    have HK17Xq := Lib.hid (Bx.new w16 (fdA (1, 0, true)) 29)
    have HD17 := Lib.hid (HD16.out.below hbx)
    have HB17 := Lib.hid (HBV.out.trans (hbx.mono HBV.out.size))
    have HK17N1 := Lib.hid (HK16N1.out.keepb hbx)
    have HK17Xx := Lib.hid (HK16Xx.out.below hbx)
    have HK17Xy := Lib.hid (HK16Xy.out.below hbx)
    have HK17Xp := Lib.hid (HK16Xp.out.below hbx)
    clear hbx hbc HBV HD16 HK16N1 HK16Xx HK16Xy HK16Xp
    have HBV := HB17
    clear HB17
    change Code.wp _ _ _ _ (w16.alloc (.cells (fdA (1, 0, true)) 29))
    generalize (w16.alloc (.cells (fdA (1, 0, true)) 29)) = w17 at *
    generalize w16.heap.size = g17 at *
    have x0 := HK17Xx.out.c 0
    have x1 := HK17Xx.out.c 1
    have x2 := HK17Xx.out.c 2
    have y0 := HK17Xy.out.c 0
    have y1 := HK17Xy.out.c 1
    have y2 := HK17Xy.out.c 2
    have p0 := HK17Xp.out.c 0
    have p1 := HK17Xp.out.c 1
    have p2 := HK17Xp.out.c 2
    have q0 := HK17Xq.out.c 0
    have q1 := HK17Xq.out.c 1
    have q2 := HK17Xq.out.c 2
    obtain ⟨B, hn⟩ := HK17N1.out
    have n0 := own_at hn (j := 0) (u := .int .i64 1) rfl
    have n1 := own_at hn (j := 1) (u := .int .i64 0) rfl
    clear hn
    go_wp2
    first | go_ret2 | go_ret | skip
    exact ⟨rfl, HBV.out⟩
end Go.Proofs.Ytpcgedngikpnoaa
