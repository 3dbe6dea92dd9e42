/-
  slices.IndexFunc and ContainsFunc, areAll: whatever the function (written by mk.py).
  The head, and the small functions of images.
-/
import Derived.Test.YtacknedekhpklaaGreatZA
import Derived.Test.YtacknedekhpklaaGreatZCZa
namespace Go.Proofs.YtacknedekhpklaaGreat
set_option maxRecDepth 100000
set_option linter.unusedSimpArgs false
set_option linter.unusedVariables false
open Go.RowKit

def noSy : Sym := ⟨[], [], false, 0, false, 0, false, 0, 0⟩
theorem Syl.els {w : World} {P : Nat → Prop} {A : Option Addr} {n c : Nat} {ss : List Sym} (h : Syl w P A n c ss) : Els w P A n c 9 (fun k => symA (ss.getD k noSy)) :=
  ⟨h.nil, h.cap, h.blk, fun ad hA k hk j u hu => by
    have hk' : k < ss.length := by rw [h.len]; exact hk
    refine h.at_ ad hA k hk' j u ?_
    rw [← hu, List.getD_eq_getElem?_getD, List.getElem?_eq_getElem hk', Option.getD_some]⟩
theorem range_take {p : Nat → Bool} {k : Nat} (h : (List.range k).any p = false) : (List.range (k + 1)).any p = p k := by
  rw [List.range_succ, List.any_append, h]
  simp
theorem range_yes {p : Nat → Bool} {k n : Nat} (hk : k < n) (h : p k = true) : (List.range n).any p = true := List.any_eq_true.2 ⟨k, List.mem_range.2 hk, h⟩
theorem not_any (n : Nat) (p : Nat → Bool) : (List.range n).all p = !(List.range n).any fun k => !p k := by
  rw [List.not_any_eq_all_not]
  simp
theorem range_any {α : Type} (l : List α) (d : α) (q : α → Bool) : (List.range l.length).any (fun k => q (l.getD k d)) = l.any q := by
  rw [Bool.eq_iff_iff, List.any_eq_true, List.any_eq_true]
  constructor
  · rintro ⟨k, hk, h⟩
    have hk := List.mem_range.1 hk
    rw [List.getD_eq_getElem?_getD, List.getElem?_eq_getElem hk, Option.getD_some] at h
    exact ⟨_, List.getElem_mem hk, h⟩
  · rintro ⟨a, ha, h⟩
    obtain ⟨k, hk, rfl⟩ := List.getElem_of_mem ha
    refine ⟨k, List.mem_range.2 hk, ?_⟩
    rw [List.getD_eq_getElem?_getD, List.getElem?_eq_getElem hk, Option.getD_some]
    exact h
theorem range_all {α : Type} (l : List α) (d : α) (q : α → Bool) : (List.range l.length).all (fun k => q (l.getD k d)) = l.all q := by
  rw [not_any, range_any l d (fun a => !q a), List.not_any_eq_all_not]
  simp

set_option maxHeartbeats 1000000 in
theorem ixSym_any (A : Option Addr) (n c : Nat) (ss : List Sym) (fn : Nat) (fr : Array Value) (p : Nat → Bool) (w : World) (h : Els w (fun k => k < w.heap.size) A n c 9 (fun k => symA (ss.getD k noSy))) (hn : n ≤ 4611686018427387904) (hE : ∀ (args : Array Value) (X : World), (callFunc fn args).run Tryz.prog X = .ok (.enter fn args) X)
    (HF : ∀ k (X : World), k < n → Below w.heap.size w X → Calls Tryz.prog fn (#[.agg (symA (ss.getD k noSy))] ++ fr) X fun e w' => e = .returned (.bool (p k)) ∧ Below X.heap.size X w') :
    Calls Tryz.prog 202 #[.slice A n c, .func (.func fn) #[] fr] w fun e w' => ∃ i : Int, e = .returned (.int .i64 i) ∧ decide (0 ≤ i) = (List.range n).any p ∧ Below w.heap.size w w' := by
  have H := Lib.hid h
  have HP := Lib.hid HF
  have hcap := h.cap
  clear h HF
  go_enter Tryz.func202, Tryz.ntmps202
  go_wp2
  go_loopw [8] (fun t wr => ∃ k : Nat, k ≤ n ∧ t = .int .i64 k ∧ Below w.heap.size w wr ∧ (List.range k).any p = false) (fun t _ => n - (intOf t).toNat)
  case atStart => exact ⟨0, Nat.zero_le _, rfl, Below.refl _ _, rfl⟩
  case round =>
    obtain ⟨k, hk, rfl, hb, he⟩ := hrel
    have HE := Lib.hid he
    have HB := Lib.hid hb
    clear he hb
    by_cases hlt : k < n
    · obtain ⟨ad, rfl⟩ : ∃ ad, A = some ad := by
        cases A with
        | none => have := (H.out.nil rfl).1; omega
        | some ad => exact ⟨ad, rfl⟩
      obtain ⟨b, o, rfl⟩ := H.out.plain (by omega) rfl
      have hg := (H.out.below HB.out (fun _ h => h)).get k hlt
      have c0 := hg 0 _ rfl
      have c1 := hg 1 _ rfl
      have c2 := hg 2 _ rfl
      have c3 := hg 3 _ rfl
      have c4 := hg 4 _ rfl
      have c5 := hg 5 _ rfl
      have c6 := hg 6 _ rfl
      have c7 := hg 7 _ rfl
      have c8 := hg 8 _ rfl
      simp only [Nat.add_zero] at c0
      clear hg
      have HC := Lib.hid (HP.out k wr hlt HB.out)
      have HY := Lib.hid (fun h => range_yes (p := p) hlt h)
      have HT := Lib.hid (range_take HE.out)
      generalize ss.getD k noSy = s at *
      generalize p k = pk at *
      cases pk
      · go_wp2_with (with_reducible refine (HC.out).mono ?_; rintro e w2 ⟨rfl, hb2⟩; have HB2 := Lib.hid (HB.out.trans (hb2.mono HB.out.size)); clear hb2)
        go_roundw
        case rel => exact ⟨k + 1, by omega, by go_num, HB2.out, HT.out⟩
        case measure => simp [intOf]; omega
      · go_wp2_with (with_reducible refine (HC.out).mono ?_; rintro e w2 ⟨rfl, hb2⟩; have HB2 := Lib.hid (HB.out.trans (hb2.mono HB.out.size)); clear hb2)
        first | go_ret | skip
        exact ⟨k, rfl, by rw [HY.out trivial]; simp, HB2.out⟩
    · obtain rfl : k = n := by omega
      go_wp2
      first | go_ret | skip
      exact ⟨-1, rfl, by rw [HE.out]; rfl, HB.out⟩
theorem cfSym_any (A : Option Addr) (n c : Nat) (ss : List Sym) (fn : Nat) (fr : Array Value) (p : Nat → Bool) (w : World) (h : Els w (fun k => k < w.heap.size) A n c 9 (fun k => symA (ss.getD k noSy))) (hn : n ≤ 4611686018427387904) (hE : ∀ (args : Array Value) (X : World), (callFunc fn args).run Tryz.prog X = .ok (.enter fn args) X)
    (HF : ∀ k (X : World), k < n → Below w.heap.size w X → Calls Tryz.prog fn (#[.agg (symA (ss.getD k noSy))] ++ fr) X fun e w' => e = .returned (.bool (p k)) ∧ Below X.heap.size X w') :
    Calls Tryz.prog 150 #[.slice A n c, .func (.func fn) #[] fr] w fun e w' => e = .returned (.bool ((List.range n).any p)) ∧ Below w.heap.size w w' := by
  have HC := Lib.hid (ixSym_any A n c ss fn fr p w h hn hE HF)
  clear h HF
  go_enter Tryz.func150, Tryz.ntmps150
  go_upto_region 99 with (go_at_call 202; refine (HC.out).mono ?_; rintro e w2 ⟨i, rfl, hi, hb2⟩)
  first | go_ret | skip
  exact ⟨by rw [← hi]; rfl, hb2⟩
set_option maxHeartbeats 1000000 in
theorem ixSeg_any (A : Option Addr) (n c : Nat) (ss : List Sg) (B : Nat → Option Addr × Nat) (fn : Nat) (fr : Array Value) (p : Nat → Bool) (w : World) (h : Els w (fun k => k < w.heap.size) A n c 4 (fun k => sgA (ss.getD k noSg) (B k))) (hn : n ≤ 4611686018427387904) (hE : ∀ (args : Array Value) (X : World), (callFunc fn args).run Tryz.prog X = .ok (.enter fn args) X)
    (HF : ∀ k (X : World), k < n → Below w.heap.size w X → Calls Tryz.prog fn (#[.agg (sgA (ss.getD k noSg) (B k))] ++ fr) X fun e w' => e = .returned (.bool (p k)) ∧ Below X.heap.size X w') :
    Calls Tryz.prog 212 #[.slice A n c, .func (.func fn) #[] fr] w fun e w' => ∃ i : Int, e = .returned (.int .i64 i) ∧ decide (0 ≤ i) = (List.range n).any p ∧ Below w.heap.size w w' := by
  have H := Lib.hid h
  have HP := Lib.hid HF
  have hcap := h.cap
  clear h HF
  go_enter Tryz.func212, Tryz.ntmps212
  go_wp2
  go_loopw [8] (fun t wr => ∃ k : Nat, k ≤ n ∧ t = .int .i64 k ∧ Below w.heap.size w wr ∧ (List.range k).any p = false) (fun t _ => n - (intOf t).toNat)
  case atStart => exact ⟨0, Nat.zero_le _, rfl, Below.refl _ _, rfl⟩
  case round =>
    obtain ⟨k, hk, rfl, hb, he⟩ := hrel
    have HE := Lib.hid he
    have HB := Lib.hid hb
    clear he hb
    by_cases hlt : k < n
    · obtain ⟨ad, rfl⟩ : ∃ ad, A = some ad := by
        cases A with
        | none => have := (H.out.nil rfl).1; omega
        | some ad => exact ⟨ad, rfl⟩
      obtain ⟨b, o, rfl⟩ := H.out.plain (by omega) rfl
      have hg := (H.out.below HB.out (fun _ h => h)).get k hlt
      have c0 := hg 0 _ rfl
      have c1 := hg 1 _ rfl
      have c2 := hg 2 _ rfl
      have c3 := hg 3 _ rfl
      simp only [Nat.add_zero] at c0
      clear hg
      have HC := Lib.hid (HP.out k wr hlt HB.out)
      have HY := Lib.hid (fun h => range_yes (p := p) hlt h)
      have HT := Lib.hid (range_take HE.out)
      generalize ss.getD k noSg = s at *
      generalize B k = q at *
      generalize p k = pk at *
      cases pk
      · go_wp2_with (with_reducible refine (HC.out).mono ?_; rintro e w2 ⟨rfl, hb2⟩; have HB2 := Lib.hid (HB.out.trans (hb2.mono HB.out.size)); clear hb2)
        go_roundw
        case rel => exact ⟨k + 1, by omega, by go_num, HB2.out, HT.out⟩
        case measure => simp [intOf]; omega
      · go_wp2_with (with_reducible refine (HC.out).mono ?_; rintro e w2 ⟨rfl, hb2⟩; have HB2 := Lib.hid (HB.out.trans (hb2.mono HB.out.size)); clear hb2)
        first | go_ret | skip
        exact ⟨k, rfl, by rw [HY.out trivial]; simp, HB2.out⟩
    · obtain rfl : k = n := by omega
      go_wp2
      first | go_ret | skip
      exact ⟨-1, rfl, by rw [HE.out]; rfl, HB.out⟩
theorem cfSeg_any (A : Option Addr) (n c : Nat) (ss : List Sg) (B : Nat → Option Addr × Nat) (fn : Nat) (fr : Array Value) (p : Nat → Bool) (w : World) (h : Els w (fun k => k < w.heap.size) A n c 4 (fun k => sgA (ss.getD k noSg) (B k))) (hn : n ≤ 4611686018427387904) (hE : ∀ (args : Array Value) (X : World), (callFunc fn args).run Tryz.prog X = .ok (.enter fn args) X)
    (HF : ∀ k (X : World), k < n → Below w.heap.size w X → Calls Tryz.prog fn (#[.agg (sgA (ss.getD k noSg) (B k))] ++ fr) X fun e w' => e = .returned (.bool (p k)) ∧ Below X.heap.size X w') :
    Calls Tryz.prog 167 #[.slice A n c, .func (.func fn) #[] fr] w fun e w' => e = .returned (.bool ((List.range n).any p)) ∧ Below w.heap.size w w' := by
  have HC := Lib.hid (ixSeg_any A n c ss B fn fr p w h hn hE HF)
  clear h HF
  go_enter Tryz.func167, Tryz.ntmps167
  go_upto_region 99 with (go_at_call 212; refine (HC.out).mono ?_; rintro e w2 ⟨i, rfl, hi, hb2⟩)
  first | go_ret | skip
  exact ⟨by rw [← hi]; rfl, hb2⟩
set_option maxHeartbeats 1000000 in
theorem ixNeed_any (A : Option Addr) (n c : Nat) (ss : List Nd) (B : Nat → Option Addr × Nat) (fn : Nat) (fr : Array Value) (p : Nat → Bool) (w : World) (h : Els w (fun k => k < w.heap.size) A n c 2 (fun k => ndA (ss.getD k noNd) (B k))) (hn : n ≤ 4611686018427387904) (hE : ∀ (args : Array Value) (X : World), (callFunc fn args).run Tryz.prog X = .ok (.enter fn args) X)
    (HF : ∀ k (X : World), k < n → Below w.heap.size w X → Calls Tryz.prog fn (#[.agg (ndA (ss.getD k noNd) (B k))] ++ fr) X fun e w' => e = .returned (.bool (p k)) ∧ Below X.heap.size X w') :
    Calls Tryz.prog 218 #[.slice A n c, .func (.func fn) #[] fr] w fun e w' => ∃ i : Int, e = .returned (.int .i64 i) ∧ decide (0 ≤ i) = (List.range n).any p ∧ Below w.heap.size w w' := by
  have H := Lib.hid h
  have HP := Lib.hid HF
  have hcap := h.cap
  clear h HF
  go_enter Tryz.func218, Tryz.ntmps218
  go_wp2
  go_loopw [8] (fun t wr => ∃ k : Nat, k ≤ n ∧ t = .int .i64 k ∧ Below w.heap.size w wr ∧ (List.range k).any p = false) (fun t _ => n - (intOf t).toNat)
  case atStart => exact ⟨0, Nat.zero_le _, rfl, Below.refl _ _, rfl⟩
  case round =>
    obtain ⟨k, hk, rfl, hb, he⟩ := hrel
    have HE := Lib.hid he
    have HB := Lib.hid hb
    clear he hb
    by_cases hlt : k < n
    · obtain ⟨ad, rfl⟩ : ∃ ad, A = some ad := by
        cases A with
        | none => have := (H.out.nil rfl).1; omega
        | some ad => exact ⟨ad, rfl⟩
      obtain ⟨b, o, rfl⟩ := H.out.plain (by omega) rfl
      have hg := (H.out.below HB.out (fun _ h => h)).get k hlt
      have c0 := hg 0 _ rfl
      have c1 := hg 1 _ rfl
      simp only [Nat.add_zero] at c0
      clear hg
      have HC := Lib.hid (HP.out k wr hlt HB.out)
      have HY := Lib.hid (fun h => range_yes (p := p) hlt h)
      have HT := Lib.hid (range_take HE.out)
      generalize ss.getD k noNd = s at *
      generalize B k = q at *
      generalize p k = pk at *
      cases pk
      · go_wp2_with (with_reducible refine (HC.out).mono ?_; rintro e w2 ⟨rfl, hb2⟩; have HB2 := Lib.hid (HB.out.trans (hb2.mono HB.out.size)); clear hb2)
        go_roundw
        case rel => exact ⟨k + 1, by omega, by go_num, HB2.out, HT.out⟩
        case measure => simp [intOf]; omega
      · go_wp2_with (with_reducible refine (HC.out).mono ?_; rintro e w2 ⟨rfl, hb2⟩; have HB2 := Lib.hid (HB.out.trans (hb2.mono HB.out.size)); clear hb2)
        first | go_ret | skip
        exact ⟨k, rfl, by rw [HY.out trivial]; simp, HB2.out⟩
    · obtain rfl : k = n := by omega
      go_wp2
      first | go_ret | skip
      exact ⟨-1, rfl, by rw [HE.out]; rfl, HB.out⟩
theorem cfNeed_any (A : Option Addr) (n c : Nat) (ss : List Nd) (B : Nat → Option Addr × Nat) (fn : Nat) (fr : Array Value) (p : Nat → Bool) (w : World) (h : Els w (fun k => k < w.heap.size) A n c 2 (fun k => ndA (ss.getD k noNd) (B k))) (hn : n ≤ 4611686018427387904) (hE : ∀ (args : Array Value) (X : World), (callFunc fn args).run Tryz.prog X = .ok (.enter fn args) X)
    (HF : ∀ k (X : World), k < n → Below w.heap.size w X → Calls Tryz.prog fn (#[.agg (ndA (ss.getD k noNd) (B k))] ++ fr) X fun e w' => e = .returned (.bool (p k)) ∧ Below X.heap.size X w') :
    Calls Tryz.prog 195 #[.slice A n c, .func (.func fn) #[] fr] w fun e w' => e = .returned (.bool ((List.range n).any p)) ∧ Below w.heap.size w w' := by
  have HC := Lib.hid (ixNeed_any A n c ss B fn fr p w h hn hE HF)
  clear h HF
  go_enter Tryz.func195, Tryz.ntmps195
  go_upto_region 99 with (go_at_call 218; refine (HC.out).mono ?_; rintro e w2 ⟨i, rfl, hi, hb2⟩)
  first | go_ret | skip
  exact ⟨by rw [← hi]; rfl, hb2⟩
set_option maxHeartbeats 1000000 in
theorem ixRel_any (A : Option Addr) (n c : Nat) (ss : List Rl) (fn : Nat) (fr : Array Value) (p : Nat → Bool) (w : World) (h : Els w (fun k => k < w.heap.size) A n c 4 (fun k => rlA (ss.getD k noRl))) (hn : n ≤ 4611686018427387904) (hE : ∀ (args : Array Value) (X : World), (callFunc fn args).run Tryz.prog X = .ok (.enter fn args) X)
    (HF : ∀ k (X : World), k < n → Below w.heap.size w X → Calls Tryz.prog fn (#[.agg (rlA (ss.getD k noRl))] ++ fr) X fun e w' => e = .returned (.bool (p k)) ∧ Below X.heap.size X w') :
    Calls Tryz.prog 221 #[.slice A n c, .func (.func fn) #[] fr] w fun e w' => ∃ i : Int, e = .returned (.int .i64 i) ∧ decide (0 ≤ i) = (List.range n).any p ∧ Below w.heap.size w w' := by
  have H := Lib.hid h
  have HP := Lib.hid HF
  have hcap := h.cap
  clear h HF
  go_enter Tryz.func221, Tryz.ntmps221
  go_wp2
  go_loopw [8] (fun t wr => ∃ k : Nat, k ≤ n ∧ t = .int .i64 k ∧ Below w.heap.size w wr ∧ (List.range k).any p = false) (fun t _ => n - (intOf t).toNat)
  case atStart => exact ⟨0, Nat.zero_le _, rfl, Below.refl _ _, rfl⟩
  case round =>
    obtain ⟨k, hk, rfl, hb, he⟩ := hrel
    have HE := Lib.hid he
    have HB := Lib.hid hb
    clear he hb
    by_cases hlt : k < n
    · obtain ⟨ad, rfl⟩ : ∃ ad, A = some ad := by
        cases A with
        | none => have := (H.out.nil rfl).1; omega
        | some ad => exact ⟨ad, rfl⟩
      obtain ⟨b, o, rfl⟩ := H.out.plain (by omega) rfl
      have hg := (H.out.below HB.out (fun _ h => h)).get k hlt
      have c0 := hg 0 _ rfl
      have c1 := hg 1 _ rfl
      have c2 := hg 2 _ rfl
      have c3 := hg 3 _ rfl
      simp only [Nat.add_zero] at c0
      clear hg
      have HC := Lib.hid (HP.out k wr hlt HB.out)
      have HY := Lib.hid (fun h => range_yes (p := p) hlt h)
      have HT := Lib.hid (range_take HE.out)
      generalize ss.getD k noRl = s at *
      generalize p k = pk at *
      cases pk
      · go_wp2_with (with_reducible refine (HC.out).mono ?_; rintro e w2 ⟨rfl, hb2⟩; have HB2 := Lib.hid (HB.out.trans (hb2.mono HB.out.size)); clear hb2)
        go_roundw
        case rel => exact ⟨k + 1, by omega, by go_num, HB2.out, HT.out⟩
        case measure => simp [intOf]; omega
      · go_wp2_with (with_reducible refine (HC.out).mono ?_; rintro e w2 ⟨rfl, hb2⟩; have HB2 := Lib.hid (HB.out.trans (hb2.mono HB.out.size)); clear hb2)
        first | go_ret | skip
        exact ⟨k, rfl, by rw [HY.out trivial]; simp, HB2.out⟩
    · obtain rfl : k = n := by omega
      go_wp2
      first | go_ret | skip
      exact ⟨-1, rfl, by rw [HE.out]; rfl, HB.out⟩
theorem cfRel_any (A : Option Addr) (n c : Nat) (ss : List Rl) (fn : Nat) (fr : Array Value) (p : Nat → Bool) (w : World) (h : Els w (fun k => k < w.heap.size) A n c 4 (fun k => rlA (ss.getD k noRl))) (hn : n ≤ 4611686018427387904) (hE : ∀ (args : Array Value) (X : World), (callFunc fn args).run Tryz.prog X = .ok (.enter fn args) X)
    (HF : ∀ k (X : World), k < n → Below w.heap.size w X → Calls Tryz.prog fn (#[.agg (rlA (ss.getD k noRl))] ++ fr) X fun e w' => e = .returned (.bool (p k)) ∧ Below X.heap.size X w') :
    Calls Tryz.prog 209 #[.slice A n c, .func (.func fn) #[] fr] w fun e w' => e = .returned (.bool ((List.range n).any p)) ∧ Below w.heap.size w w' := by
  have HC := Lib.hid (ixRel_any A n c ss fn fr p w h hn hE HF)
  clear h HF
  go_enter Tryz.func209, Tryz.ntmps209
  go_upto_region 99 with (go_at_call 221; refine (HC.out).mono ?_; rintro e w2 ⟨i, rfl, hi, hb2⟩)
  first | go_ret | skip
  exact ⟨by rw [← hi]; rfl, hb2⟩
set_option maxHeartbeats 1000000 in
theorem ixInt_any (A : Option Addr) (n c : Nat) (ss : List Int) (fn : Nat) (fr : Array Value) (p : Nat → Bool) (w : World) (h : Src w (fun k => k < w.heap.size) A n c (ints ss)) (hn : n ≤ 4611686018427387904) (hE : ∀ (args : Array Value) (X : World), (callFunc fn args).run Tryz.prog X = .ok (.enter fn args) X)
    (HF : ∀ k (X : World), k < n → Below w.heap.size w X → Calls Tryz.prog fn (#[.int .i64 (ss.getD k 0)] ++ fr) X fun e w' => e = .returned (.bool (p k)) ∧ Below X.heap.size X w') :
    Calls Tryz.prog 211 #[.slice A n c, .func (.func fn) #[] fr] w fun e w' => ∃ i : Int, e = .returned (.int .i64 i) ∧ decide (0 ≤ i) = (List.range n).any p ∧ Below w.heap.size w w' := by
  have H := Lib.hid h
  have HP := Lib.hid HF
  have hcap := h.cap
  clear h HF
  go_enter Tryz.func211, Tryz.ntmps211
  go_wp2
  go_loopw [8] (fun t wr => ∃ k : Nat, k ≤ n ∧ t = .int .i64 k ∧ Below w.heap.size w wr ∧ (List.range k).any p = false) (fun t _ => n - (intOf t).toNat)
  case atStart => exact ⟨0, Nat.zero_le _, rfl, Below.refl _ _, rfl⟩
  case round =>
    obtain ⟨k, hk, rfl, hb, he⟩ := hrel
    have HE := Lib.hid he
    have HB := Lib.hid hb
    clear he hb
    by_cases hlt : k < n
    · obtain ⟨ad, rfl⟩ : ∃ ad, A = some ad := by
        cases A with
        | none => have := (H.out.nil rfl).1; omega
        | some ad => exact ⟨ad, rfl⟩
      have hlk : k < ss.length := by have := H.out.len; simp only [ints, List.length_map] at this; omega
      have hc : wr.cell? (ad.add k) = some (.int .i64 (ss.getD k 0)) := (H.out.below HB.out (fun _ h => h)).at_ ad rfl k _ (by simp [ints, hlk])
      clear hlk
      have HC := Lib.hid (HP.out k wr hlt HB.out)
      have HY := Lib.hid (fun h => range_yes (p := p) hlt h)
      have HT := Lib.hid (range_take HE.out)
      generalize ss.getD k 0 = s at *
      generalize p k = pk at *
      cases pk
      · go_wp2_with (with_reducible refine (HC.out).mono ?_; rintro e w2 ⟨rfl, hb2⟩; have HB2 := Lib.hid (HB.out.trans (hb2.mono HB.out.size)); clear hb2)
        go_roundw
        case rel => exact ⟨k + 1, by omega, by go_num, HB2.out, HT.out⟩
        case measure => simp [intOf]; omega
      · go_wp2_with (with_reducible refine (HC.out).mono ?_; rintro e w2 ⟨rfl, hb2⟩; have HB2 := Lib.hid (HB.out.trans (hb2.mono HB.out.size)); clear hb2)
        first | go_ret | skip
        exact ⟨k, rfl, by rw [HY.out trivial]; simp, HB2.out⟩
    · obtain rfl : k = n := by omega
      go_wp2
      first | go_ret | skip
      exact ⟨-1, rfl, by rw [HE.out]; rfl, HB.out⟩
theorem cfInt_any (A : Option Addr) (n c : Nat) (ss : List Int) (fn : Nat) (fr : Array Value) (p : Nat → Bool) (w : World) (h : Src w (fun k => k < w.heap.size) A n c (ints ss)) (hn : n ≤ 4611686018427387904) (hE : ∀ (args : Array Value) (X : World), (callFunc fn args).run Tryz.prog X = .ok (.enter fn args) X)
    (HF : ∀ k (X : World), k < n → Below w.heap.size w X → Calls Tryz.prog fn (#[.int .i64 (ss.getD k 0)] ++ fr) X fun e w' => e = .returned (.bool (p k)) ∧ Below X.heap.size X w') :
    Calls Tryz.prog 165 #[.slice A n c, .func (.func fn) #[] fr] w fun e w' => e = .returned (.bool ((List.range n).any p)) ∧ Below w.heap.size w w' := by
  have HC := Lib.hid (ixInt_any A n c ss fn fr p w h hn hE HF)
  clear h HF
  go_enter Tryz.func165, Tryz.ntmps165
  go_upto_region 99 with (go_at_call 211; refine (HC.out).mono ?_; rintro e w2 ⟨i, rfl, hi, hb2⟩)
  first | go_ret | skip
  exact ⟨by rw [← hi]; rfl, hb2⟩
set_option maxHeartbeats 1000000 in
theorem ixStr_any (A : Option Addr) (n c : Nat) (ss : List Str) (fn : Nat) (fr : Array Value) (p : Nat → Bool) (w : World) (h : Src w (fun k => k < w.heap.size) A n c (strs ss)) (hn : n ≤ 4611686018427387904) (hE : ∀ (args : Array Value) (X : World), (callFunc fn args).run Tryz.prog X = .ok (.enter fn args) X)
    (HF : ∀ k (X : World), k < n → Below w.heap.size w X → Calls Tryz.prog fn (#[str (ss.getD k [])] ++ fr) X fun e w' => e = .returned (.bool (p k)) ∧ Below X.heap.size X w') :
    Calls Tryz.prog 219 #[.slice A n c, .func (.func fn) #[] fr] w fun e w' => ∃ i : Int, e = .returned (.int .i64 i) ∧ decide (0 ≤ i) = (List.range n).any p ∧ Below w.heap.size w w' := by
  have H := Lib.hid h
  have HP := Lib.hid HF
  have hcap := h.cap
  clear h HF
  go_enter Tryz.func219, Tryz.ntmps219
  go_wp2
  go_loopw [8] (fun t wr => ∃ k : Nat, k ≤ n ∧ t = .int .i64 k ∧ Below w.heap.size w wr ∧ (List.range k).any p = false) (fun t _ => n - (intOf t).toNat)
  case atStart => exact ⟨0, Nat.zero_le _, rfl, Below.refl _ _, rfl⟩
  case round =>
    obtain ⟨k, hk, rfl, hb, he⟩ := hrel
    have HE := Lib.hid he
    have HB := Lib.hid hb
    clear he hb
    by_cases hlt : k < n
    · obtain ⟨ad, rfl⟩ : ∃ ad, A = some ad := by
        cases A with
        | none => have := (H.out.nil rfl).1; omega
        | some ad => exact ⟨ad, rfl⟩
      have hlk : k < ss.length := by have := H.out.len; simp only [strs, List.length_map] at this; omega
      have hc : wr.cell? (ad.add k) = some (str (ss.getD k [])) := (H.out.below HB.out (fun _ h => h)).at_ ad rfl k _ (by simp [strs, hlk])
      clear hlk
      have HC := Lib.hid (HP.out k wr hlt HB.out)
      have HY := Lib.hid (fun h => range_yes (p := p) hlt h)
      have HT := Lib.hid (range_take HE.out)
      generalize ss.getD k [] = s at *
      generalize p k = pk at *
      cases pk
      · go_wp2_with (with_reducible refine (HC.out).mono ?_; rintro e w2 ⟨rfl, hb2⟩; have HB2 := Lib.hid (HB.out.trans (hb2.mono HB.out.size)); clear hb2)
        go_roundw
        case rel => exact ⟨k + 1, by omega, by go_num, HB2.out, HT.out⟩
        case measure => simp [intOf]; omega
      · go_wp2_with (with_reducible refine (HC.out).mono ?_; rintro e w2 ⟨rfl, hb2⟩; have HB2 := Lib.hid (HB.out.trans (hb2.mono HB.out.size)); clear hb2)
        first | go_ret | skip
        exact ⟨k, rfl, by rw [HY.out trivial]; simp, HB2.out⟩
    · obtain rfl : k = n := by omega
      go_wp2
      first | go_ret | skip
      exact ⟨-1, rfl, by rw [HE.out]; rfl, HB.out⟩
theorem cfStr_any (A : Option Addr) (n c : Nat) (ss : List Str) (fn : Nat) (fr : Array Value) (p : Nat → Bool) (w : World) (h : Src w (fun k => k < w.heap.size) A n c (strs ss)) (hn : n ≤ 4611686018427387904) (hE : ∀ (args : Array Value) (X : World), (callFunc fn args).run Tryz.prog X = .ok (.enter fn args) X)
    (HF : ∀ k (X : World), k < n → Below w.heap.size w X → Calls Tryz.prog fn (#[str (ss.getD k [])] ++ fr) X fun e w' => e = .returned (.bool (p k)) ∧ Below X.heap.size X w') :
    Calls Tryz.prog 197 #[.slice A n c, .func (.func fn) #[] fr] w fun e w' => e = .returned (.bool ((List.range n).any p)) ∧ Below w.heap.size w w' := by
  have HC := Lib.hid (ixStr_any A n c ss fn fr p w h hn hE HF)
  clear h HF
  go_enter Tryz.func197, Tryz.ntmps197
  go_upto_region 99 with (go_at_call 219; refine (HC.out).mono ?_; rintro e w2 ⟨i, rfl, hi, hb2⟩)
  first | go_ret | skip
  exact ⟨by rw [← hi]; rfl, hb2⟩
set_option maxHeartbeats 1000000 in
theorem allInt1_any (v : Value) (fn : Nat) (fr : Array Value) (g : Nat) (b : Bool) (w : World) (hE : ∀ (args : Array Value) (X : World), (callFunc fn args).run Tryz.prog X = .ok (.enter fn args) X)
    (hb : w.cell? ⟨g, 0, none⟩ = some (.func (.func fn) #[] fr)) (HF : ∀ X : World, Below w.heap.size w X → Calls Tryz.prog fn (#[v] ++ fr) X fun e w' => e = .returned (.bool b) ∧ Below X.heap.size X w') :
    Calls Tryz.prog 166 #[v, .pointer (some ⟨g, 0, none⟩)] w fun e w' => e = .returned (.bool !b) ∧ Below w.heap.size w w' := by
  have HC := Lib.hid HF
  clear HF
  go_enter Tryz.func166, Tryz.ntmps166
  go_wp2_with (with_reducible refine (HC.out _ (Below.refl _ _)).mono ?_; rintro e w2 ⟨rfl, hb2⟩)
  first | go_ret | skip
  exact ⟨rfl, hb2⟩
theorem allInt_any (A : Option Addr) (n c : Nat) (ss : List Int) (fn : Nat) (fr : Array Value) (p : Nat → Bool) (w : World) (h : Src w (fun k => k < w.heap.size) A n c (ints ss)) (hn : n ≤ 4611686018427387904) (hE : ∀ (args : Array Value) (X : World), (callFunc fn args).run Tryz.prog X = .ok (.enter fn args) X)
    (HF : ∀ k (X : World), k < n → Below w.heap.size w X → Calls Tryz.prog fn (#[.int .i64 (ss.getD k 0)] ++ fr) X fun e w' => e = .returned (.bool (p k)) ∧ Below X.heap.size X w') :
    Calls Tryz.prog 80 #[.func (.func fn) #[] fr, .slice A n c] w fun e w' => e = .returned (.bool ((List.range n).all p)) ∧ Below w.heap.size w w' := by
  have hB := (Below.refl w.heap.size w).alloc (Nat.le_refl _) (.cells #[.func (.func fn) #[] fr] 135)
  have hX := Bx.new w #[.func (.func fn) #[] fr] 135
  have HC := Lib.hid (cfInt_any A n c ss 166 #[.pointer (some ⟨w.heap.size, 0, none⟩)] (fun k => !p k) (w.alloc (.cells #[.func (.func fn) #[] fr] 135)) (h.below hB (fun _ h => h) |>.lt) hn (fun _ _ => by go_simp)
    (fun k X hk hX' => allInt1_any _ fn fr w.heap.size (p k) X hE ((hX.below hX').c 0) fun Y hY => HF k Y hk (hB.trans ((hX'.mono hB.size).trans (hY.mono (Nat.le_trans hB.size hX'.size))))))
  have HB := Lib.hid hB
  have HA := Lib.hid (not_any n p)
  clear h HF hB hX
  go_enter Tryz.func80, Tryz.ntmps80
  go_upto_region 99 with (go_at_call 165; refine (HC.out).mono ?_; rintro e w2 ⟨rfl, hb2⟩)
  first | go_ret | skip
  exact ⟨by rw [HA.out]; rfl, HB.out.trans (hb2.mono HB.out.size)⟩
set_option maxHeartbeats 1000000 in
theorem allStr1_any (v : Value) (fn : Nat) (fr : Array Value) (g : Nat) (b : Bool) (w : World) (hE : ∀ (args : Array Value) (X : World), (callFunc fn args).run Tryz.prog X = .ok (.enter fn args) X)
    (hb : w.cell? ⟨g, 0, none⟩ = some (.func (.func fn) #[] fr)) (HF : ∀ X : World, Below w.heap.size w X → Calls Tryz.prog fn (#[v] ++ fr) X fun e w' => e = .returned (.bool b) ∧ Below X.heap.size X w') :
    Calls Tryz.prog 198 #[v, .pointer (some ⟨g, 0, none⟩)] w fun e w' => e = .returned (.bool !b) ∧ Below w.heap.size w w' := by
  have HC := Lib.hid HF
  clear HF
  go_enter Tryz.func198, Tryz.ntmps198
  go_wp2_with (with_reducible refine (HC.out _ (Below.refl _ _)).mono ?_; rintro e w2 ⟨rfl, hb2⟩)
  first | go_ret | skip
  exact ⟨rfl, hb2⟩
theorem allStr_any (A : Option Addr) (n c : Nat) (ss : List Str) (fn : Nat) (fr : Array Value) (p : Nat → Bool) (w : World) (h : Src w (fun k => k < w.heap.size) A n c (strs ss)) (hn : n ≤ 4611686018427387904) (hE : ∀ (args : Array Value) (X : World), (callFunc fn args).run Tryz.prog X = .ok (.enter fn args) X)
    (HF : ∀ k (X : World), k < n → Below w.heap.size w X → Calls Tryz.prog fn (#[str (ss.getD k [])] ++ fr) X fun e w' => e = .returned (.bool (p k)) ∧ Below X.heap.size X w') :
    Calls Tryz.prog 147 #[.func (.func fn) #[] fr, .slice A n c] w fun e w' => e = .returned (.bool ((List.range n).all p)) ∧ Below w.heap.size w w' := by
  have hB := (Below.refl w.heap.size w).alloc (Nat.le_refl _) (.cells #[.func (.func fn) #[] fr] 112)
  have hX := Bx.new w #[.func (.func fn) #[] fr] 112
  have HC := Lib.hid (cfStr_any A n c ss 198 #[.pointer (some ⟨w.heap.size, 0, none⟩)] (fun k => !p k) (w.alloc (.cells #[.func (.func fn) #[] fr] 112)) (h.below hB (fun _ h => h) |>.lt) hn (fun _ _ => by go_simp)
    (fun k X hk hX' => allStr1_any _ fn fr w.heap.size (p k) X hE ((hX.below hX').c 0) fun Y hY => HF k Y hk (hB.trans ((hX'.mono hB.size).trans (hY.mono (Nat.le_trans hB.size hX'.size))))))
  have HB := Lib.hid hB
  have HA := Lib.hid (not_any n p)
  clear h HF hB hX
  go_enter Tryz.func147, Tryz.ntmps147
  go_upto_region 99 with (go_at_call 197; refine (HC.out).mono ?_; rintro e w2 ⟨rfl, hb2⟩)
  first | go_ret | skip
  exact ⟨by rw [HA.out]; rfl, HB.out.trans (hb2.mono HB.out.size)⟩
set_option maxHeartbeats 1000000 in
theorem allNeed1_any (s : Nd) (q : Option Addr × Nat) (fn : Nat) (fr : Array Value) (g : Nat) (b : Bool) (w : World) (hE : ∀ (args : Array Value) (X : World), (callFunc fn args).run Tryz.prog X = .ok (.enter fn args) X)
    (hb : w.cell? ⟨g, 0, none⟩ = some (.func (.func fn) #[] fr)) (HF : ∀ X : World, Below w.heap.size w X → Calls Tryz.prog fn (#[.agg (ndA s q)] ++ fr) X fun e w' => e = .returned (.bool b) ∧ Below X.heap.size X w') :
    Calls Tryz.prog 196 #[.agg (ndA s q), .pointer (some ⟨g, 0, none⟩)] w fun e w' => e = .returned (.bool !b) ∧ Below w.heap.size w w' := by
  have HC := Lib.hid HF
  have hb1 := (Below.refl w.heap.size w).alloc (Nat.le_refl _) (.cells (ndA s q) 95)
  have hx := Bx.new w (ndA s q) 95
  have x0 := hx.c 0
  have x1 := hx.c 1
  have hb := cell_below hb1 hb
  have HB1 := Lib.hid hb1
  simp only [List.getElem?_toArray, List.getElem?_cons_succ, List.getElem?_cons_zero] at x0 x1
  clear hb1 hx
  clear HF
  go_enter Tryz.func196, Tryz.ntmps196
  go_wp2_with (with_reducible refine (HC.out _ HB1.out).mono ?_; rintro e w2 ⟨rfl, hb2⟩)
  first | go_ret | skip
  exact ⟨rfl, HB1.out.trans (hb2.mono HB1.out.size)⟩
theorem allNeed_any (A : Option Addr) (n c : Nat) (ss : List Nd) (B : Nat → Option Addr × Nat) (fn : Nat) (fr : Array Value) (p : Nat → Bool) (w : World) (h : Els w (fun k => k < w.heap.size) A n c 2 (fun k => ndA (ss.getD k noNd) (B k))) (hn : n ≤ 4611686018427387904) (hE : ∀ (args : Array Value) (X : World), (callFunc fn args).run Tryz.prog X = .ok (.enter fn args) X)
    (HF : ∀ k (X : World), k < n → Below w.heap.size w X → Calls Tryz.prog fn (#[.agg (ndA (ss.getD k noNd) (B k))] ++ fr) X fun e w' => e = .returned (.bool (p k)) ∧ Below X.heap.size X w') :
    Calls Tryz.prog 145 #[.func (.func fn) #[] fr, .slice A n c] w fun e w' => e = .returned (.bool ((List.range n).all p)) ∧ Below w.heap.size w w' := by
  have hB := (Below.refl w.heap.size w).alloc (Nat.le_refl _) (.cells #[.func (.func fn) #[] fr] 190)
  have hX := Bx.new w #[.func (.func fn) #[] fr] 190
  have HC := Lib.hid (cfNeed_any A n c ss B 196 #[.pointer (some ⟨w.heap.size, 0, none⟩)] (fun k => !p k) (w.alloc (.cells #[.func (.func fn) #[] fr] 190)) (h.lt hB) hn (fun _ _ => by go_simp)
    (fun k X hk hX' => allNeed1_any _ _ fn fr w.heap.size (p k) X hE ((hX.below hX').c 0) fun Y hY => HF k Y hk (hB.trans ((hX'.mono hB.size).trans (hY.mono (Nat.le_trans hB.size hX'.size))))))
  have HB := Lib.hid hB
  have HA := Lib.hid (not_any n p)
  clear h HF hB hX
  go_enter Tryz.func145, Tryz.ntmps145
  go_upto_region 99 with (go_at_call 195; refine (HC.out).mono ?_; rintro e w2 ⟨rfl, hb2⟩)
  first | go_ret | skip
  exact ⟨by rw [HA.out]; rfl, HB.out.trans (hb2.mono HB.out.size)⟩
end Go.Proofs.YtacknedekhpklaaGreat

namespace Go.Proofs.YtacknedekhpklaaGreat
set_option maxRecDepth 100000
set_option linter.unusedSimpArgs false
set_option linter.unusedVariables false
open Go.RowKit

def pathB (l : Str) : Bool := withB (l.length : Int) 1 200
theorem path_any (l : Str) (w : World) (h : Long l.length) : Calls Tryz.prog 148 #[str l] w fun e w' => e = .returned (.bool (pathB l)) ∧ w = w' := by
  have HW := Lib.hid (fun X => within_any (l.length : Int) 1 200 X)
  unfold Long at h
  go_enter Tryz.func148, Tryz.ntmps148
  go_wp2_with (go_at_call 58; refine (HW.out _).mono ?_; rintro e w2 ⟨rfl, rfl⟩)
  go_ret
  exact ⟨rfl, rfl⟩
def needB (s : Nd) : Bool := pathB s.name && decide (s.vers.length ≤ 16) && s.vers.all nameB
theorem same_below {P : Program} {f : FuncId} {a : Array Value} {w : World} {v : Value} (h : Calls P f a w fun e w' => e = .returned v ∧ w = w') : Calls P f a w fun e w' => e = .returned v ∧ Below w.heap.size w w' :=
  h.mono fun e w' ⟨h1, h2⟩ => ⟨h1, by subst h2; exact Below.refl _ _⟩
theorem need_any (s : Nd) (q : Option Addr × Nat) (w : World) (h : Src w (fun k => k < w.heap.size) q.1 s.vers.length q.2 (strs s.vers)) (hn : Long s.name.length) (hv : Long s.vers.length) :
    Calls Tryz.prog 146 #[.agg (ndA s q)] w fun e w' => e = .returned (.bool (needB s)) ∧ Below w.heap.size w w' := by
  have HB := Lib.hid ((Below.refl w.heap.size w).alloc (Nat.le_refl _) (.cells (ndA s q) 95))
  have hx := Bx.new w (ndA s q) 95
  have x0 := hx.c 0
  have x1 := hx.c 1
  simp only [List.getElem?_toArray, List.getElem?_cons_succ, List.getElem?_cons_zero] at x0 x1
  have HP := Lib.hid (fun X => path_any s.name X hn)
  have HA := Lib.hid (allStr_any q.1 s.vers.length q.2 s.vers 57 #[] (fun k => nameB (s.vers.getD k [])) (w.alloc (.cells (ndA s q) 95)) ((h.below HB.out (fun _ h => h)).lt) (by unfold Long at hv; omega) (fun _ _ => by go_simp) (fun k X _ _ => same_below (name_any _ X)))
  rw [range_all s.vers [] nameB] at HA
  have HF := Lib.hid (show needB s = (pathB s.name && decide (s.vers.length ≤ 16) && s.vers.all nameB) from rfl)
  generalize pathB s.name = b1 at *
  generalize s.vers.all nameB = b2 at *
  unfold Long at hv
  clear h hn hx
  go_enter Tryz.func146, Tryz.ntmps146
  go_wp2_with (first
    | (go_at_call 148; refine (HP.out _).mono ?_; rintro e w2 ⟨rfl, rfl⟩)
    | (go_at_call 147; refine (HA.out).mono ?_; rintro e w2 ⟨rfl, hb2⟩; have HB2 := Lib.hid (HB.out.trans (hb2.mono HB.out.size)); clear hb2))
  all_goals
    go_ret
    rw [HF.out]
    first
      | (refine ⟨?_, HB2.out⟩; simp [*] <;> (intros; omega))
      | (refine ⟨?_, HB.out⟩; simp [*] <;> (intros; omega))
def neededB (l : List Nd) : Bool := decide (l.length ≤ 16) && l.all needB
def runPathB (l : List Str) : Bool := decide (l.length ≤ 16) && l.all pathB
theorem getD_mem {α : Type} {l : List α} {k : Nat} {d : α} (h : k < l.length) : l.getD k d ∈ l := by
  rw [List.getD_eq_getElem?_getD, List.getElem?_eq_getElem h, Option.getD_some]
  exact List.getElem_mem h
theorem needed_any (A : Option Addr) (c : Nat) (l : List Nd) (w : World) (h : Nds w (fun k => k < w.heap.size) A l.length c l) (hl : Long l.length) (hs : ∀ s ∈ l, Long s.name.length ∧ Long s.vers.length ∧ ∀ v ∈ s.vers, Long v.length) :
    Calls Tryz.prog 59 #[.slice A l.length c] w fun e w' => e = .returned (.bool (neededB l)) ∧ Below w.heap.size w w' := by
  obtain ⟨-, B, h1, h2⟩ := h
  have HA := Lib.hid (allNeed_any A l.length c l B 146 #[] (fun k => needB (l.getD k noNd)) w h1 (by unfold Long at hl; omega) (fun _ _ => by go_simp) (fun k X hk hX =>
    need_any _ _ X ((h2 k hk).below hX (fun _ h => h) |>.weak fun _ hk => Nat.lt_of_lt_of_le hk hX.size) (hs _ (getD_mem hk)).1 (hs _ (getD_mem hk)).2.1))
  rw [range_all l noNd needB] at HA
  have HF := Lib.hid (show neededB l = (decide (l.length ≤ 16) && l.all needB) from rfl)
  generalize l.all needB = b2 at *
  unfold Long at hl
  clear h1 h2 hs
  go_enter Tryz.func59, Tryz.ntmps59
  go_wp2_with (go_at_call 145; refine (HA.out).mono ?_; rintro e w2 ⟨rfl, hb2⟩)
  all_goals
    go_ret
    rw [HF.out]
    first
      | (refine ⟨?_, hb2⟩; simp [*] <;> (intros; omega))
      | (refine ⟨?_, Below.refl _ _⟩; simp [*] <;> (intros; omega))
theorem runPath_any (A : Option Addr) (c : Nat) (l : List Str) (w : World) (h : Src w (fun k => k < w.heap.size) A l.length c (strs l)) (hl : Long l.length) (hs : ∀ s ∈ l, Long s.length) :
    Calls Tryz.prog 60 #[.slice A l.length c] w fun e w' => e = .returned (.bool (runPathB l)) ∧ Below w.heap.size w w' := by
  have HA := Lib.hid (allStr_any A l.length c l 148 #[] (fun k => pathB (l.getD k [])) w h (by unfold Long at hl; omega) (fun _ _ => by go_simp) (fun k X hk hX => same_below (path_any _ X (hs _ (getD_mem hk)))))
  rw [range_all l [] pathB] at HA
  have HF := Lib.hid (show runPathB l = (decide (l.length ≤ 16) && l.all pathB) from rfl)
  generalize l.all pathB = b2 at *
  unfold Long at hl
  clear h hs
  go_enter Tryz.func60, Tryz.ntmps60
  go_wp2_with (go_at_call 147; refine (HA.out).mono ?_; rintro e w2 ⟨rfl, hb2⟩)
  all_goals
    go_ret
    rw [HF.out]
    first
      | (refine ⟨?_, hb2⟩; simp [*] <;> (intros; omega))
      | (refine ⟨?_, Below.refl _ _⟩; simp [*] <;> (intros; omega))
def headB (x : Im) : Bool := (x.name.isEmpty || nameB x.name) && withB x.flags 0 15 && neededB x.needed && runPathB x.run
set_option maxHeartbeats 1000000 in
theorem head_any (p : Pl) (x : Im) (w : World) (h : ImIn w (fun k => k < w.heap.size) p x) (hf : Fit x) :
    Calls Tryz.prog 26 #[imV p x] w fun e w' => e = .returned (.bool (headB x)) ∧ Below w.heap.size w w' := by
  have HB := Lib.hid (ibox_below w p x)
  have HX := Lib.hid (Ix.new w p x)
  have HN := Lib.hid (fun X => name_any x.name X)
  have HW := Lib.hid (fun X => within_any x.flags 0 15 X)
  have HND := Lib.hid (fun (X : World) (hX : Below w.heap.size w X) => needed_any p.nd.1 p.nd.2 x.needed X (h.lt hX).needed hf.needed hf.need)
  have HR := Lib.hid (fun (X : World) (hX : Below w.heap.size w X) => runPath_any p.rp.1 p.rp.2 x.run X (h.lt hX).run hf.run hf.runs)
  have HF := Lib.hid (show headB x = ((x.name.isEmpty || nameB x.name) && withB x.flags 0 15 && neededB x.needed && runPathB x.run) from rfl)
  generalize nameB x.name = b1 at *
  generalize withB x.flags 0 15 = b2 at *
  generalize neededB x.needed = b3 at *
  generalize runPathB x.run = b4 at *
  clear h hf
  go_enter Tryz.func26, Tryz.ntmps26
  go_upto_region 1 with (fail)
  change Code.wp _ _ _ _ (w.alloc (.cells (imA p x) 38))
  generalize w.alloc (.cells (imA p x) 38) = w1 at *
  obtain ⟨c0, c1, c2, c3, c4, -⟩ := HX.out.cells
  go_wp2_with (first
    | (go_at_call 57; refine (HN.out _).mono ?_; rintro e w2 ⟨rfl, rfl⟩)
    | (go_at_call 58; refine (HW.out _).mono ?_; rintro e w2 ⟨rfl, rfl⟩)
    | (go_at_call 59; refine (HND.out _ HB.out).mono ?_; rintro e w3 ⟨rfl, hb3⟩; have HB3 := Lib.hid (HB.out.trans (hb3.mono HB.out.size)); obtain ⟨-, -, -, -, d4, -⟩ := (HX.out.below hb3).cells; clear hb3)
    | (go_at_call 60; refine (HR.out _ HB3.out).mono ?_; rintro e w4 ⟨rfl, hb4⟩; have HB4 := Lib.hid (HB3.out.trans (hb4.mono HB3.out.size)); clear hb4))
  all_goals
    go_ret
    rw [HF.out]
    first
      | (refine ⟨?_, HB4.out⟩; simp [*])
      | (refine ⟨?_, HB3.out⟩; simp [*])
      | (refine ⟨?_, HB.out⟩; simp [*])
end Go.Proofs.YtacknedekhpklaaGreat
