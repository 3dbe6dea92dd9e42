/- A part of the proof. -/
import Derived.Test.YtfljignkjmabpaaGreatZWA
set_option linter.unusedSimpArgs false
set_option linter.unusedVariables false
namespace Go.Proofs.YtfljignkjmabpaaGreat
set_option maxRecDepth 100000
open Go.RowKit
def noSy : Sym := ⟨[], [], false, 0, false, 0, false, 0, 0⟩
theorem Syl.els {w : World} {P : Nat → Prop} {A : Option Addr} {n c : Nat} {ss : List Sym} (h : Syl w P A n c ss) : Els w P A n c 9 (fun k => symA (ss.getD k noSy)) :=
 ⟨h.nil, h.cap, h.blk, fun ad hA k hk j u hu => by
  have hk' : k < ss.length := by rw [h.len]; exact hk
  refine h.at_ ad hA k hk' j u ?_
  rw [← hu, List.getD_eq_getElem?_getD, List.getElem?_eq_getElem hk', Option.getD_some]⟩
theorem range_take {p : Nat → Bool} {k : Nat} (h : (List.range k).any p = false) : (List.range (k + 1)).any p = p k := by
 rw [List.range_succ, List.any_append, h]
 simp
theorem range_yes {p : Nat → Bool} {k n : Nat} (hk : k < n) (h : p k = true) : (List.range n).any p = true := List.any_eq_true.2 ⟨k, List.mem_range.2 hk, h⟩
theorem not_any (n : Nat) (p : Nat → Bool) : (List.range n).all p = !(List.range n).any fun k => !p k := by
 rw [List.not_any_eq_all_not]
 simp
theorem range_any {α : Type} (l : List α) (d : α) (q : α → Bool) : (List.range l.length).any (fun k => q (l.getD k d)) = l.any q := by
 rw [Bool.eq_iff_iff, List.any_eq_true, List.any_eq_true]
 constructor
 ·
  rintro ⟨k, hk, h⟩
  have hk := List.mem_range.1 hk
  rw [List.getD_eq_getElem?_getD, List.getElem?_eq_getElem hk, Option.getD_some] at h
  exact ⟨_, List.getElem_mem hk, h⟩
 ·
  rintro ⟨a, ha, h⟩
  obtain ⟨k, hk, rfl⟩ := List.getElem_of_mem ha
  refine ⟨k, List.mem_range.2 hk, ?_⟩
  rw [List.getD_eq_getElem?_getD, List.getElem?_eq_getElem hk, Option.getD_some]
  exact h
theorem range_all {α : Type} (l : List α) (d : α) (q : α → Bool) : (List.range l.length).all (fun k => q (l.getD k d)) = l.all q := by
 rw [not_any, range_any l d (fun a => !q a), List.not_any_eq_all_not]
 simp
set_option maxHeartbeats 1000000 in
theorem ixSym_any (A : Option Addr) (n c : Nat) (ss : List Sym) (fn : Nat) (fr : Array Value) (p : Nat → Bool) (w : World) (h : Els w (fun k => k < w.heap.size) A n c 9 (fun k => symA (ss.getD k noSy))) (hn : n ≤ 4611686018427387904) (hE : ∀ (args : Array Value) (X : World), (callFunc fn args).run Tryz.prog X = .ok (.enter fn args) X)
  (HF : ∀ k (X : World), k < n → Below w.heap.size w X → Calls Tryz.prog fn (#[.agg (symA (ss.getD k noSy))] ++ fr) X fun e w' => e = .returned (.bool (p k)) ∧ Below X.heap.size X w') :
  Calls Tryz.prog 201 #[.slice A n c, .func (.func fn) #[] fr] w fun e w' => ∃ i : Int, e = .returned (.int .i64 i) ∧ decide (0 ≤ i) = (List.range n).any p ∧ Below w.heap.size w w' := by
 have H := hD h
 have HP := hD HF
 have hcap := h.cap
 clear h HF
 go_enter Tryz.func201, Tryz.ntmps201
 go_wp2
 go_loopw [8] (fun t wr => ∃ k : Nat, k ≤ n ∧ t = .int .i64 k ∧ Below w.heap.size w wr ∧ (List.range k).any p = false) (fun t _ => n - (intOf t).toNat)
 case atStart => exact ⟨0, Nat.zero_le _, rfl, Below.refl _ _, rfl⟩
 case round =>
  obtain ⟨k, hk, rfl, hb, he⟩ := hrel
  have HE := hD he
  have HB := hD hb
  clear he hb
  by_cases hlt : k < n
  ·
   obtain ⟨ad, rfl⟩ : ∃ ad, A = some ad := by
    cases A with
    | none => have := (H.out.nil rfl).1; omega
    | some ad => exact ⟨ad, rfl⟩
   obtain ⟨b, o, rfl⟩ := H.out.plain (by omega) rfl
   have hg := (H.out.below HB.out (fun _ h => h)).get k hlt
   have c0 := hg 0 _ rfl
   have c1 := hg 1 _ rfl
   have c2 := hg 2 _ rfl
   have c3 := hg 3 _ rfl
   have c4 := hg 4 _ rfl
   have c5 := hg 5 _ rfl
   have c6 := hg 6 _ rfl
   have c7 := hg 7 _ rfl
   have c8 := hg 8 _ rfl
   simp only [Nat.add_zero] at c0
   clear hg
   have HC := hD (HP.out k wr hlt HB.out)
   have HY := hD (fun h => range_yes (p := p) hlt h)
   have HT := hD (range_take HE.out)
   generalize ss.getD k noSy = s at *
   generalize p k = pk at *
   cases pk
   ·
    go_wp2_with (with_reducible refine (HC.out).mono ?_; rintro e w2 ⟨rfl, hb2⟩; have HB2 := hD (HB.out.trans (hb2.mono HB.out.size)); clear hb2)
    go_roundw
    case rel => exact ⟨k + 1, by omega, by go_num, HB2.out, HT.out⟩
    case measure => simp [intOf]; omega
   ·
    go_wp2_with (with_reducible refine (HC.out).mono ?_; rintro e w2 ⟨rfl, hb2⟩; have HB2 := hD (HB.out.trans (hb2.mono HB.out.size)); clear hb2)
    first | go_ret | skip
    exact ⟨k, rfl, by rw [HY.out trivial]; simp, HB2.out⟩
  ·
   obtain rfl : k = n := by omega
   go_wp2
   first | go_ret | skip
   exact ⟨-1, rfl, by rw [HE.out]; rfl, HB.out⟩
theorem cfSym_any (A : Option Addr) (n c : Nat) (ss : List Sym) (fn : Nat) (fr : Array Value) (p : Nat → Bool) (w : World) (h : Els w (fun k => k < w.heap.size) A n c 9 (fun k => symA (ss.getD k noSy))) (hn : n ≤ 4611686018427387904) (hE : ∀ (args : Array Value) (X : World), (callFunc fn args).run Tryz.prog X = .ok (.enter fn args) X)
  (HF : ∀ k (X : World), k < n → Below w.heap.size w X → Calls Tryz.prog fn (#[.agg (symA (ss.getD k noSy))] ++ fr) X fun e w' => e = .returned (.bool (p k)) ∧ Below X.heap.size X w') :
  Calls Tryz.prog 168 #[.slice A n c, .func (.func fn) #[] fr] w fun e w' => e = .returned (.bool ((List.range n).any p)) ∧ Below w.heap.size w w' := by
 have HC := hD (ixSym_any A n c ss fn fr p w h hn hE HF)
 clear h HF
 go_enter Tryz.func168, Tryz.ntmps168
 go_upto_region 99 with (go_at_call 201; refine (HC.out).mono ?_; rintro e w2 ⟨i, rfl, hi, hb2⟩)
 first | go_ret | skip
 exact ⟨by rw [← hi]; rfl, hb2⟩
set_option maxHeartbeats 1000000 in
theorem ixSeg_any (A : Option Addr) (n c : Nat) (ss : List Sg) (B : Nat → Option Addr × Nat) (fn : Nat) (fr : Array Value) (p : Nat → Bool) (w : World) (h : Els w (fun k => k < w.heap.size) A n c 4 (fun k => sgA (ss.getD k noSg) (B k))) (hn : n ≤ 4611686018427387904) (hE : ∀ (args : Array Value) (X : World), (callFunc fn args).run Tryz.prog X = .ok (.enter fn args) X)
  (HF : ∀ k (X : World), k < n → Below w.heap.size w X → Calls Tryz.prog fn (#[.agg (sgA (ss.getD k noSg) (B k))] ++ fr) X fun e w' => e = .returned (.bool (p k)) ∧ Below X.heap.size X w') :
  Calls Tryz.prog 211 #[.slice A n c, .func (.func fn) #[] fr] w fun e w' => ∃ i : Int, e = .returned (.int .i64 i) ∧ decide (0 ≤ i) = (List.range n).any p ∧ Below w.heap.size w w' := by
 have H := hD h
 have HP := hD HF
 have hcap := h.cap
 clear h HF
 go_enter Tryz.func211, Tryz.ntmps211
 go_wp2
 go_loopw [8] (fun t wr => ∃ k : Nat, k ≤ n ∧ t = .int .i64 k ∧ Below w.heap.size w wr ∧ (List.range k).any p = false) (fun t _ => n - (intOf t).toNat)
 case atStart => exact ⟨0, Nat.zero_le _, rfl, Below.refl _ _, rfl⟩
 case round =>
  obtain ⟨k, hk, rfl, hb, he⟩ := hrel
  have HE := hD he
  have HB := hD hb
  clear he hb
  by_cases hlt : k < n
  ·
   obtain ⟨ad, rfl⟩ : ∃ ad, A = some ad := by
    cases A with
    | none => have := (H.out.nil rfl).1; omega
    | some ad => exact ⟨ad, rfl⟩
   obtain ⟨b, o, rfl⟩ := H.out.plain (by omega) rfl
   have hg := (H.out.below HB.out (fun _ h => h)).get k hlt
   have c0 := hg 0 _ rfl
   have c1 := hg 1 _ rfl
   have c2 := hg 2 _ rfl
   have c3 := hg 3 _ rfl
   simp only [Nat.add_zero] at c0
   clear hg
   have HC := hD (HP.out k wr hlt HB.out)
   have HY := hD (fun h => range_yes (p := p) hlt h)
   have HT := hD (range_take HE.out)
   generalize ss.getD k noSg = s at *
   generalize B k = q at *
   generalize p k = pk at *
   cases pk
   ·
    go_wp2_with (with_reducible refine (HC.out).mono ?_; rintro e w2 ⟨rfl, hb2⟩; have HB2 := hD (HB.out.trans (hb2.mono HB.out.size)); clear hb2)
    go_roundw
    case rel => exact ⟨k + 1, by omega, by go_num, HB2.out, HT.out⟩
    case measure => simp [intOf]; omega
   ·
    go_wp2_with (with_reducible refine (HC.out).mono ?_; rintro e w2 ⟨rfl, hb2⟩; have HB2 := hD (HB.out.trans (hb2.mono HB.out.size)); clear hb2)
    first | go_ret | skip
    exact ⟨k, rfl, by rw [HY.out trivial]; simp, HB2.out⟩
  ·
   obtain rfl : k = n := by omega
   go_wp2
   first | go_ret | skip
   exact ⟨-1, rfl, by rw [HE.out]; rfl, HB.out⟩
theorem cfSeg_any (A : Option Addr) (n c : Nat) (ss : List Sg) (B : Nat → Option Addr × Nat) (fn : Nat) (fr : Array Value) (p : Nat → Bool) (w : World) (h : Els w (fun k => k < w.heap.size) A n c 4 (fun k => sgA (ss.getD k noSg) (B k))) (hn : n ≤ 4611686018427387904) (hE : ∀ (args : Array Value) (X : World), (callFunc fn args).run Tryz.prog X = .ok (.enter fn args) X)
  (HF : ∀ k (X : World), k < n → Below w.heap.size w X → Calls Tryz.prog fn (#[.agg (sgA (ss.getD k noSg) (B k))] ++ fr) X fun e w' => e = .returned (.bool (p k)) ∧ Below X.heap.size X w') :
  Calls Tryz.prog 185 #[.slice A n c, .func (.func fn) #[] fr] w fun e w' => e = .returned (.bool ((List.range n).any p)) ∧ Below w.heap.size w w' := by
 have HC := hD (ixSeg_any A n c ss B fn fr p w h hn hE HF)
 clear h HF
 go_enter Tryz.func185, Tryz.ntmps185
 go_upto_region 99 with (go_at_call 211; refine (HC.out).mono ?_; rintro e w2 ⟨i, rfl, hi, hb2⟩)
 first | go_ret | skip
 exact ⟨by rw [← hi]; rfl, hb2⟩
set_option maxHeartbeats 1000000 in
theorem ixNeed_any (A : Option Addr) (n c : Nat) (ss : List Nd) (B : Nat → Option Addr × Nat) (fn : Nat) (fr : Array Value) (p : Nat → Bool) (w : World) (h : Els w (fun k => k < w.heap.size) A n c 2 (fun k => ndA (ss.getD k noNd) (B k))) (hn : n ≤ 4611686018427387904) (hE : ∀ (args : Array Value) (X : World), (callFunc fn args).run Tryz.prog X = .ok (.enter fn args) X)
  (HF : ∀ k (X : World), k < n → Below w.heap.size w X → Calls Tryz.prog fn (#[.agg (ndA (ss.getD k noNd) (B k))] ++ fr) X fun e w' => e = .returned (.bool (p k)) ∧ Below X.heap.size X w') :
  Calls Tryz.prog 212 #[.slice A n c, .func (.func fn) #[] fr] w fun e w' => ∃ i : Int, e = .returned (.int .i64 i) ∧ decide (0 ≤ i) = (List.range n).any p ∧ Below w.heap.size w w' := by
 have H := hD h
 have HP := hD HF
 have hcap := h.cap
 clear h HF
 go_enter Tryz.func212, Tryz.ntmps212
 go_wp2
 go_loopw [8] (fun t wr => ∃ k : Nat, k ≤ n ∧ t = .int .i64 k ∧ Below w.heap.size w wr ∧ (List.range k).any p = false) (fun t _ => n - (intOf t).toNat)
 case atStart => exact ⟨0, Nat.zero_le _, rfl, Below.refl _ _, rfl⟩
 case round =>
  obtain ⟨k, hk, rfl, hb, he⟩ := hrel
  have HE := hD he
  have HB := hD hb
  clear he hb
  by_cases hlt : k < n
  ·
   obtain ⟨ad, rfl⟩ : ∃ ad, A = some ad := by
    cases A with
    | none => have := (H.out.nil rfl).1; omega
    | some ad => exact ⟨ad, rfl⟩
   obtain ⟨b, o, rfl⟩ := H.out.plain (by omega) rfl
   have hg := (H.out.below HB.out (fun _ h => h)).get k hlt
   have c0 := hg 0 _ rfl
   have c1 := hg 1 _ rfl
   simp only [Nat.add_zero] at c0
   clear hg
   have HC := hD (HP.out k wr hlt HB.out)
   have HY := hD (fun h => range_yes (p := p) hlt h)
   have HT := hD (range_take HE.out)
   generalize ss.getD k noNd = s at *
   generalize B k = q at *
   generalize p k = pk at *
   cases pk
   ·
    go_wp2_with (with_reducible refine (HC.out).mono ?_; rintro e w2 ⟨rfl, hb2⟩; have HB2 := hD (HB.out.trans (hb2.mono HB.out.size)); clear hb2)
    go_roundw
    case rel => exact ⟨k + 1, by omega, by go_num, HB2.out, HT.out⟩
    case measure => simp [intOf]; omega
   ·
    go_wp2_with (with_reducible refine (HC.out).mono ?_; rintro e w2 ⟨rfl, hb2⟩; have HB2 := hD (HB.out.trans (hb2.mono HB.out.size)); clear hb2)
    first | go_ret | skip
    exact ⟨k, rfl, by rw [HY.out trivial]; simp, HB2.out⟩
  ·
   obtain rfl : k = n := by omega
   go_wp2
   first | go_ret | skip
   exact ⟨-1, rfl, by rw [HE.out]; rfl, HB.out⟩
theorem cfNeed_any (A : Option Addr) (n c : Nat) (ss : List Nd) (B : Nat → Option Addr × Nat) (fn : Nat) (fr : Array Value) (p : Nat → Bool) (w : World) (h : Els w (fun k => k < w.heap.size) A n c 2 (fun k => ndA (ss.getD k noNd) (B k))) (hn : n ≤ 4611686018427387904) (hE : ∀ (args : Array Value) (X : World), (callFunc fn args).run Tryz.prog X = .ok (.enter fn args) X)
  (HF : ∀ k (X : World), k < n → Below w.heap.size w X → Calls Tryz.prog fn (#[.agg (ndA (ss.getD k noNd) (B k))] ++ fr) X fun e w' => e = .returned (.bool (p k)) ∧ Below X.heap.size X w') :
  Calls Tryz.prog 194 #[.slice A n c, .func (.func fn) #[] fr] w fun e w' => e = .returned (.bool ((List.range n).any p)) ∧ Below w.heap.size w w' := by
 have HC := hD (ixNeed_any A n c ss B fn fr p w h hn hE HF)
 clear h HF
 go_enter Tryz.func194, Tryz.ntmps194
 go_upto_region 99 with (go_at_call 212; refine (HC.out).mono ?_; rintro e w2 ⟨i, rfl, hi, hb2⟩)
 first | go_ret | skip
 exact ⟨by rw [← hi]; rfl, hb2⟩
set_option maxHeartbeats 1000000 in
theorem ixRel_any (A : Option Addr) (n c : Nat) (ss : List Rl) (fn : Nat) (fr : Array Value) (p : Nat → Bool) (w : World) (h : Els w (fun k => k < w.heap.size) A n c 4 (fun k => rlA (ss.getD k noRl))) (hn : n ≤ 4611686018427387904) (hE : ∀ (args : Array Value) (X : World), (callFunc fn args).run Tryz.prog X = .ok (.enter fn args) X)
  (HF : ∀ k (X : World), k < n → Below w.heap.size w X → Calls Tryz.prog fn (#[.agg (rlA (ss.getD k noRl))] ++ fr) X fun e w' => e = .returned (.bool (p k)) ∧ Below X.heap.size X w') :
  Calls Tryz.prog 215 #[.slice A n c, .func (.func fn) #[] fr] w fun e w' => ∃ i : Int, e = .returned (.int .i64 i) ∧ decide (0 ≤ i) = (List.range n).any p ∧ Below w.heap.size w w' := by
 have H := hD h
 have HP := hD HF
 have hcap := h.cap
 clear h HF
 go_enter Tryz.func215, Tryz.ntmps215
 go_wp2
 go_loopw [8] (fun t wr => ∃ k : Nat, k ≤ n ∧ t = .int .i64 k ∧ Below w.heap.size w wr ∧ (List.range k).any p = false) (fun t _ => n - (intOf t).toNat)
 case atStart => exact ⟨0, Nat.zero_le _, rfl, Below.refl _ _, rfl⟩
 case round =>
  obtain ⟨k, hk, rfl, hb, he⟩ := hrel
  have HE := hD he
  have HB := hD hb
  clear he hb
  by_cases hlt : k < n
  ·
   obtain ⟨ad, rfl⟩ : ∃ ad, A = some ad := by
    cases A with
    | none => have := (H.out.nil rfl).1; omega
    | some ad => exact ⟨ad, rfl⟩
   obtain ⟨b, o, rfl⟩ := H.out.plain (by omega) rfl
   have hg := (H.out.below HB.out (fun _ h => h)).get k hlt
   have c0 := hg 0 _ rfl
   have c1 := hg 1 _ rfl
   have c2 := hg 2 _ rfl
   have c3 := hg 3 _ rfl
   simp only [Nat.add_zero] at c0
   clear hg
   have HC := hD (HP.out k wr hlt HB.out)
   have HY := hD (fun h => range_yes (p := p) hlt h)
   have HT := hD (range_take HE.out)
   generalize ss.getD k noRl = s at *
   generalize p k = pk at *
   cases pk
   ·
    go_wp2_with (with_reducible refine (HC.out).mono ?_; rintro e w2 ⟨rfl, hb2⟩; have HB2 := hD (HB.out.trans (hb2.mono HB.out.size)); clear hb2)
    go_roundw
    case rel => exact ⟨k + 1, by omega, by go_num, HB2.out, HT.out⟩
    case measure => simp [intOf]; omega
   ·
    go_wp2_with (with_reducible refine (HC.out).mono ?_; rintro e w2 ⟨rfl, hb2⟩; have HB2 := hD (HB.out.trans (hb2.mono HB.out.size)); clear hb2)
    first | go_ret | skip
    exact ⟨k, rfl, by rw [HY.out trivial]; simp, HB2.out⟩
  ·
   obtain rfl : k = n := by omega
   go_wp2
   first | go_ret | skip
   exact ⟨-1, rfl, by rw [HE.out]; rfl, HB.out⟩
theorem cfRel_any (A : Option Addr) (n c : Nat) (ss : List Rl) (fn : Nat) (fr : Array Value) (p : Nat → Bool) (w : World) (h : Els w (fun k => k < w.heap.size) A n c 4 (fun k => rlA (ss.getD k noRl))) (hn : n ≤ 4611686018427387904) (hE : ∀ (args : Array Value) (X : World), (callFunc fn args).run Tryz.prog X = .ok (.enter fn args) X)
  (HF : ∀ k (X : World), k < n → Below w.heap.size w X → Calls Tryz.prog fn (#[.agg (rlA (ss.getD k noRl))] ++ fr) X fun e w' => e = .returned (.bool (p k)) ∧ Below X.heap.size X w') :
  Calls Tryz.prog 208 #[.slice A n c, .func (.func fn) #[] fr] w fun e w' => e = .returned (.bool ((List.range n).any p)) ∧ Below w.heap.size w w' := by
 have HC := hD (ixRel_any A n c ss fn fr p w h hn hE HF)
 clear h HF
 go_enter Tryz.func208, Tryz.ntmps208
 go_upto_region 99 with (go_at_call 215; refine (HC.out).mono ?_; rintro e w2 ⟨i, rfl, hi, hb2⟩)
 first | go_ret | skip
 exact ⟨by rw [← hi]; rfl, hb2⟩
set_option maxHeartbeats 1000000 in
theorem ixInt_any (A : Option Addr) (n c : Nat) (ss : List Int) (fn : Nat) (fr : Array Value) (p : Nat → Bool) (w : World) (h : Src w (fun k => k < w.heap.size) A n c (ints ss)) (hn : n ≤ 4611686018427387904) (hE : ∀ (args : Array Value) (X : World), (callFunc fn args).run Tryz.prog X = .ok (.enter fn args) X)
  (HF : ∀ k (X : World), k < n → Below w.heap.size w X → Calls Tryz.prog fn (#[.int .i64 (ss.getD k 0)] ++ fr) X fun e w' => e = .returned (.bool (p k)) ∧ Below X.heap.size X w') :
  Calls Tryz.prog 210 #[.slice A n c, .func (.func fn) #[] fr] w fun e w' => ∃ i : Int, e = .returned (.int .i64 i) ∧ decide (0 ≤ i) = (List.range n).any p ∧ Below w.heap.size w w' := by
 have H := hD h
 have HP := hD HF
 have hcap := h.cap
 clear h HF
 go_enter Tryz.func210, Tryz.ntmps210
 go_wp2
 go_loopw [8] (fun t wr => ∃ k : Nat, k ≤ n ∧ t = .int .i64 k ∧ Below w.heap.size w wr ∧ (List.range k).any p = false) (fun t _ => n - (intOf t).toNat)
 case atStart => exact ⟨0, Nat.zero_le _, rfl, Below.refl _ _, rfl⟩
 case round =>
  obtain ⟨k, hk, rfl, hb, he⟩ := hrel
  have HE := hD he
  have HB := hD hb
  clear he hb
  by_cases hlt : k < n
  ·
   obtain ⟨ad, rfl⟩ : ∃ ad, A = some ad := by
    cases A with
    | none => have := (H.out.nil rfl).1; omega
    | some ad => exact ⟨ad, rfl⟩
   have hlk : k < ss.length := by have := H.out.len; simp only [ints, List.length_map] at this; omega
   have hc : wr.cell? (ad.add k) = some (.int .i64 (ss.getD k 0)) := (H.out.below HB.out (fun _ h => h)).at_ ad rfl k _ (by simp [ints, hlk])
   clear hlk
   have HC := hD (HP.out k wr hlt HB.out)
   have HY := hD (fun h => range_yes (p := p) hlt h)
   have HT := hD (range_take HE.out)
   generalize ss.getD k 0 = s at *
   generalize p k = pk at *
   cases pk
   ·
    go_wp2_with (with_reducible refine (HC.out).mono ?_; rintro e w2 ⟨rfl, hb2⟩; have HB2 := hD (HB.out.trans (hb2.mono HB.out.size)); clear hb2)
    go_roundw
    case rel => exact ⟨k + 1, by omega, by go_num, HB2.out, HT.out⟩
    case measure => simp [intOf]; omega
   ·
    go_wp2_with (with_reducible refine (HC.out).mono ?_; rintro e w2 ⟨rfl, hb2⟩; have HB2 := hD (HB.out.trans (hb2.mono HB.out.size)); clear hb2)
    first | go_ret | skip
    exact ⟨k, rfl, by rw [HY.out trivial]; simp, HB2.out⟩
  ·
   obtain rfl : k = n := by omega
   go_wp2
   first | go_ret | skip
   exact ⟨-1, rfl, by rw [HE.out]; rfl, HB.out⟩
theorem cfInt_any (A : Option Addr) (n c : Nat) (ss : List Int) (fn : Nat) (fr : Array Value) (p : Nat → Bool) (w : World) (h : Src w (fun k => k < w.heap.size) A n c (ints ss)) (hn : n ≤ 4611686018427387904) (hE : ∀ (args : Array Value) (X : World), (callFunc fn args).run Tryz.prog X = .ok (.enter fn args) X)
  (HF : ∀ k (X : World), k < n → Below w.heap.size w X → Calls Tryz.prog fn (#[.int .i64 (ss.getD k 0)] ++ fr) X fun e w' => e = .returned (.bool (p k)) ∧ Below X.heap.size X w') :
  Calls Tryz.prog 183 #[.slice A n c, .func (.func fn) #[] fr] w fun e w' => e = .returned (.bool ((List.range n).any p)) ∧ Below w.heap.size w w' := by
 have HC := hD (ixInt_any A n c ss fn fr p w h hn hE HF)
 clear h HF
 go_enter Tryz.func183, Tryz.ntmps183
 go_upto_region 99 with (go_at_call 210; refine (HC.out).mono ?_; rintro e w2 ⟨i, rfl, hi, hb2⟩)
 first | go_ret | skip
 exact ⟨by rw [← hi]; rfl, hb2⟩
set_option maxHeartbeats 1000000 in
theorem ixStr_any (A : Option Addr) (n c : Nat) (ss : List Str) (fn : Nat) (fr : Array Value) (p : Nat → Bool) (w : World) (h : Src w (fun k => k < w.heap.size) A n c (strs ss)) (hn : n ≤ 4611686018427387904) (hE : ∀ (args : Array Value) (X : World), (callFunc fn args).run Tryz.prog X = .ok (.enter fn args) X)
  (HF : ∀ k (X : World), k < n → Below w.heap.size w X → Calls Tryz.prog fn (#[str (ss.getD k [])] ++ fr) X fun e w' => e = .returned (.bool (p k)) ∧ Below X.heap.size X w') :
  Calls Tryz.prog 213 #[.slice A n c, .func (.func fn) #[] fr] w fun e w' => ∃ i : Int, e = .returned (.int .i64 i) ∧ decide (0 ≤ i) = (List.range n).any p ∧ Below w.heap.size w w' := by
 have H := hD h
 have HP := hD HF
 have hcap := h.cap
 clear h HF
 go_enter Tryz.func213, Tryz.ntmps213
 go_wp2
 go_loopw [8] (fun t wr => ∃ k : Nat, k ≤ n ∧ t = .int .i64 k ∧ Below w.heap.size w wr ∧ (List.range k).any p = false) (fun t _ => n - (intOf t).toNat)
 case atStart => exact ⟨0, Nat.zero_le _, rfl, Below.refl _ _, rfl⟩
 case round =>
  obtain ⟨k, hk, rfl, hb, he⟩ := hrel
  have HE := hD he
  have HB := hD hb
  clear he hb
  by_cases hlt : k < n
  ·
   obtain ⟨ad, rfl⟩ : ∃ ad, A = some ad := by
    cases A with
    | none => have := (H.out.nil rfl).1; omega
    | some ad => exact ⟨ad, rfl⟩
   have hlk : k < ss.length := by have := H.out.len; simp only [strs, List.length_map] at this; omega
   have hc : wr.cell? (ad.add k) = some (str (ss.getD k [])) := (H.out.below HB.out (fun _ h => h)).at_ ad rfl k _ (by simp [strs, hlk])
   clear hlk
   have HC := hD (HP.out k wr hlt HB.out)
   have HY := hD (fun h => range_yes (p := p) hlt h)
   have HT := hD (range_take HE.out)
   generalize ss.getD k [] = s at *
   generalize p k = pk at *
   cases pk
   ·
    go_wp2_with (with_reducible refine (HC.out).mono ?_; rintro e w2 ⟨rfl, hb2⟩; have HB2 := hD (HB.out.trans (hb2.mono HB.out.size)); clear hb2)
    go_roundw
    case rel => exact ⟨k + 1, by omega, by go_num, HB2.out, HT.out⟩
    case measure => simp [intOf]; omega
   ·
    go_wp2_with (with_reducible refine (HC.out).mono ?_; rintro e w2 ⟨rfl, hb2⟩; have HB2 := hD (HB.out.trans (hb2.mono HB.out.size)); clear hb2)
    first | go_ret | skip
    exact ⟨k, rfl, by rw [HY.out trivial]; simp, HB2.out⟩
  ·
   obtain rfl : k = n := by omega
   go_wp2
   first | go_ret | skip
   exact ⟨-1, rfl, by rw [HE.out]; rfl, HB.out⟩
theorem cfStr_any (A : Option Addr) (n c : Nat) (ss : List Str) (fn : Nat) (fr : Array Value) (p : Nat → Bool) (w : World) (h : Src w (fun k => k < w.heap.size) A n c (strs ss)) (hn : n ≤ 4611686018427387904) (hE : ∀ (args : Array Value) (X : World), (callFunc fn args).run Tryz.prog X = .ok (.enter fn args) X)
  (HF : ∀ k (X : World), k < n → Below w.heap.size w X → Calls Tryz.prog fn (#[str (ss.getD k [])] ++ fr) X fun e w' => e = .returned (.bool (p k)) ∧ Below X.heap.size X w') :
  Calls Tryz.prog 196 #[.slice A n c, .func (.func fn) #[] fr] w fun e w' => e = .returned (.bool ((List.range n).any p)) ∧ Below w.heap.size w w' := by
 have HC := hD (ixStr_any A n c ss fn fr p w h hn hE HF)
 clear h HF
 go_enter Tryz.func196, Tryz.ntmps196
 go_upto_region 99 with (go_at_call 213; refine (HC.out).mono ?_; rintro e w2 ⟨i, rfl, hi, hb2⟩)
 first | go_ret | skip
 exact ⟨by rw [← hi]; rfl, hb2⟩
set_option maxHeartbeats 1000000 in
theorem allInt1_any (v : Value) (fn : Nat) (fr : Array Value) (g : Nat) (b : Bool) (w : World) (hE : ∀ (args : Array Value) (X : World), (callFunc fn args).run Tryz.prog X = .ok (.enter fn args) X)
  (hb : w.cell? ⟨g, 0, none⟩ = some (.func (.func fn) #[] fr)) (HF : ∀ X : World, Below w.heap.size w X → Calls Tryz.prog fn (#[v] ++ fr) X fun e w' => e = .returned (.bool b) ∧ Below X.heap.size X w') :
  Calls Tryz.prog 184 #[v, .pointer (some ⟨g, 0, none⟩)] w fun e w' => e = .returned (.bool !b) ∧ Below w.heap.size w w' := by
 have HC := hD HF
 clear HF
 go_enter Tryz.func184, Tryz.ntmps184
 go_wp2_with (with_reducible refine (HC.out _ (Below.refl _ _)).mono ?_; rintro e w2 ⟨rfl, hb2⟩)
 first | go_ret | skip
 exact ⟨rfl, hb2⟩
theorem allInt_any (A : Option Addr) (n c : Nat) (ss : List Int) (fn : Nat) (fr : Array Value) (p : Nat → Bool) (w : World) (h : Src w (fun k => k < w.heap.size) A n c (ints ss)) (hn : n ≤ 4611686018427387904) (hE : ∀ (args : Array Value) (X : World), (callFunc fn args).run Tryz.prog X = .ok (.enter fn args) X)
  (HF : ∀ k (X : World), k < n → Below w.heap.size w X → Calls Tryz.prog fn (#[.int .i64 (ss.getD k 0)] ++ fr) X fun e w' => e = .returned (.bool (p k)) ∧ Below X.heap.size X w') :
  Calls Tryz.prog 122 #[.func (.func fn) #[] fr, .slice A n c] w fun e w' => e = .returned (.bool ((List.range n).all p)) ∧ Below w.heap.size w w' := by
 have hB := (Below.refl w.heap.size w).alloc (Nat.le_refl _) (.cells #[.func (.func fn) #[] fr] 176)
 have hX := Bx.new w #[.func (.func fn) #[] fr] 176
 have HC := hD (cfInt_any A n c ss 184 #[.pointer (some ⟨w.heap.size, 0, none⟩)] (fun k => !p k) (w.alloc (.cells #[.func (.func fn) #[] fr] 176)) (h.below hB (fun _ h => h) |>.lt) hn (fun _ _ => by go_simp)
  (fun k X hk hX' => allInt1_any _ fn fr w.heap.size (p k) X hE ((hX.below hX').c 0) fun Y hY => HF k Y hk (hB.trans ((hX'.mono hB.size).trans (hY.mono (Nat.le_trans hB.size hX'.size))))))
 have HB := hD hB
 have HA := hD (not_any n p)
 clear h HF hB hX
 go_enter Tryz.func122, Tryz.ntmps122
 go_upto_region 99 with (go_at_call 183; refine (HC.out).mono ?_; rintro e w2 ⟨rfl, hb2⟩)
 first | go_ret | skip
 exact ⟨by rw [HA.out]; rfl, HB.out.trans (hb2.mono HB.out.size)⟩
set_option maxHeartbeats 1000000 in
theorem allStr1_any (v : Value) (fn : Nat) (fr : Array Value) (g : Nat) (b : Bool) (w : World) (hE : ∀ (args : Array Value) (X : World), (callFunc fn args).run Tryz.prog X = .ok (.enter fn args) X)
  (hb : w.cell? ⟨g, 0, none⟩ = some (.func (.func fn) #[] fr)) (HF : ∀ X : World, Below w.heap.size w X → Calls Tryz.prog fn (#[v] ++ fr) X fun e w' => e = .returned (.bool b) ∧ Below X.heap.size X w') :
  Calls Tryz.prog 197 #[v, .pointer (some ⟨g, 0, none⟩)] w fun e w' => e = .returned (.bool !b) ∧ Below w.heap.size w w' := by
 have HC := hD HF
 clear HF
 go_enter Tryz.func197, Tryz.ntmps197
 go_wp2_with (with_reducible refine (HC.out _ (Below.refl _ _)).mono ?_; rintro e w2 ⟨rfl, hb2⟩)
 first | go_ret | skip
 exact ⟨rfl, hb2⟩
theorem allStr_any (A : Option Addr) (n c : Nat) (ss : List Str) (fn : Nat) (fr : Array Value) (p : Nat → Bool) (w : World) (h : Src w (fun k => k < w.heap.size) A n c (strs ss)) (hn : n ≤ 4611686018427387904) (hE : ∀ (args : Array Value) (X : World), (callFunc fn args).run Tryz.prog X = .ok (.enter fn args) X)
  (HF : ∀ k (X : World), k < n → Below w.heap.size w X → Calls Tryz.prog fn (#[str (ss.getD k [])] ++ fr) X fun e w' => e = .returned (.bool (p k)) ∧ Below X.heap.size X w') :
  Calls Tryz.prog 165 #[.func (.func fn) #[] fr, .slice A n c] w fun e w' => e = .returned (.bool ((List.range n).all p)) ∧ Below w.heap.size w w' := by
 have hB := (Below.refl w.heap.size w).alloc (Nat.le_refl _) (.cells #[.func (.func fn) #[] fr] 152)
 have hX := Bx.new w #[.func (.func fn) #[] fr] 152
 have HC := hD (cfStr_any A n c ss 197 #[.pointer (some ⟨w.heap.size, 0, none⟩)] (fun k => !p k) (w.alloc (.cells #[.func (.func fn) #[] fr] 152)) (h.below hB (fun _ h => h) |>.lt) hn (fun _ _ => by go_simp)
  (fun k X hk hX' => allStr1_any _ fn fr w.heap.size (p k) X hE ((hX.below hX').c 0) fun Y hY => HF k Y hk (hB.trans ((hX'.mono hB.size).trans (hY.mono (Nat.le_trans hB.size hX'.size))))))
 have HB := hD hB
 have HA := hD (not_any n p)
 clear h HF hB hX
 go_enter Tryz.func165, Tryz.ntmps165
 go_upto_region 99 with (go_at_call 196; refine (HC.out).mono ?_; rintro e w2 ⟨rfl, hb2⟩)
 first | go_ret | skip
 exact ⟨by rw [HA.out]; rfl, HB.out.trans (hb2.mono HB.out.size)⟩
set_option maxHeartbeats 1000000 in
theorem allNeed1_any (s : Nd) (q : Option Addr × Nat) (fn : Nat) (fr : Array Value) (g : Nat) (b : Bool) (w : World) (hE : ∀ (args : Array Value) (X : World), (callFunc fn args).run Tryz.prog X = .ok (.enter fn args) X)
  (hb : w.cell? ⟨g, 0, none⟩ = some (.func (.func fn) #[] fr)) (HF : ∀ X : World, Below w.heap.size w X → Calls Tryz.prog fn (#[.agg (ndA s q)] ++ fr) X fun e w' => e = .returned (.bool b) ∧ Below X.heap.size X w') :
  Calls Tryz.prog 195 #[.agg (ndA s q), .pointer (some ⟨g, 0, none⟩)] w fun e w' => e = .returned (.bool !b) ∧ Below w.heap.size w w' := by
 have HC := hD HF
 have hb1 := (Below.refl w.heap.size w).alloc (Nat.le_refl _) (.cells (ndA s q) 98)
 have hx := Bx.new w (ndA s q) 98
 have x0 := hx.c 0
 have x1 := hx.c 1
 have hb := cell_below hb1 hb
 have HB1 := hD hb1
 simp only [List.getElem?_toArray, List.getElem?_cons_succ, List.getElem?_cons_zero] at x0 x1
 clear hb1 hx
 clear HF
 go_enter Tryz.func195, Tryz.ntmps195
 go_wp2_with (with_reducible refine (HC.out _ HB1.out).mono ?_; rintro e w2 ⟨rfl, hb2⟩)
 first | go_ret | skip
 exact ⟨rfl, HB1.out.trans (hb2.mono HB1.out.size)⟩
theorem allNeed_any (A : Option Addr) (n c : Nat) (ss : List Nd) (B : Nat → Option Addr × Nat) (fn : Nat) (fr : Array Value) (p : Nat → Bool) (w : World) (h : Els w (fun k => k < w.heap.size) A n c 2 (fun k => ndA (ss.getD k noNd) (B k))) (hn : n ≤ 4611686018427387904) (hE : ∀ (args : Array Value) (X : World), (callFunc fn args).run Tryz.prog X = .ok (.enter fn args) X)
  (HF : ∀ k (X : World), k < n → Below w.heap.size w X → Calls Tryz.prog fn (#[.agg (ndA (ss.getD k noNd) (B k))] ++ fr) X fun e w' => e = .returned (.bool (p k)) ∧ Below X.heap.size X w') :
  Calls Tryz.prog 163 #[.func (.func fn) #[] fr, .slice A n c] w fun e w' => e = .returned (.bool ((List.range n).all p)) ∧ Below w.heap.size w w' := by
 have hB := (Below.refl w.heap.size w).alloc (Nat.le_refl _) (.cells #[.func (.func fn) #[] fr] 201)
 have hX := Bx.new w #[.func (.func fn) #[] fr] 201
 have HC := hD (cfNeed_any A n c ss B 195 #[.pointer (some ⟨w.heap.size, 0, none⟩)] (fun k => !p k) (w.alloc (.cells #[.func (.func fn) #[] fr] 201)) (h.lt hB) hn (fun _ _ => by go_simp)
  (fun k X hk hX' => allNeed1_any _ _ fn fr w.heap.size (p k) X hE ((hX.below hX').c 0) fun Y hY => HF k Y hk (hB.trans ((hX'.mono hB.size).trans (hY.mono (Nat.le_trans hB.size hX'.size))))))
 have HB := hD hB
 have HA := hD (not_any n p)
 clear h HF hB hX
 go_enter Tryz.func163, Tryz.ntmps163
 go_upto_region 99 with (go_at_call 194; refine (HC.out).mono ?_; rintro e w2 ⟨rfl, hb2⟩)
 first | go_ret | skip
 exact ⟨by rw [HA.out]; rfl, HB.out.trans (hb2.mono HB.out.size)⟩
end Go.Proofs.YtfljignkjmabpaaGreat
