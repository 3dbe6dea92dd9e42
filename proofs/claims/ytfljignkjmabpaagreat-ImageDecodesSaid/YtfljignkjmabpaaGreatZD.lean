/- A part of the proof. -/
import Derived.Test.YtfljignkjmabpaaGreatZB
set_option linter.unusedSimpArgs false
set_option linter.unusedVariables false
namespace Go.Proofs.YtfljignkjmabpaaGreat
set_option maxRecDepth 100000
open Go.RowKit
theorem ret_eq {x b : Bool} {v : Value} (h : x = b) (hv : v = .bool b) : Ending.returned v = .returned (.bool x) := by rw [h, hv]
def lastI (hi : Nat → Int) : Nat → Int
 | 0 => 0
 | k + 1 => hi k
def apartB (n : Nat) (p : Nat → Bool) (lo hi : Nat → Int) : Bool := (List.range n).all fun k => p k && decide (lastI hi k ≤ lo k)
section
variable {n k : Nat} {p : Nat → Bool} {lo hi : Nat → Int}
theorem apart_of : apartB n p lo hi = true ↔ ∀ k, k < n → p k = true ∧ lastI hi k ≤ lo k := by
 unfold apartB
 rw [List.all_eq_true]
 constructor
 ·
  intro h k hk
  simpa using h k (List.mem_range.2 hk)
 ·
  intro h k hk
  simpa using h k (List.mem_range.1 hk)
theorem apart_no (hk : k < n) (h : lo k < lastI hi k) : apartB n p lo hi = false := by
 rw [Bool.eq_false_iff]
 intro hh
 have := (apart_of.1 hh k hk).2
 omega
theorem apart_np (hk : k < n) (h : p k = false) : apartB n p lo hi = false := by
 rw [Bool.eq_false_iff]
 intro hh
 have := (apart_of.1 hh k hk).1
 rw [h] at this
 cases this
theorem apart_yes (hk : k < n) (h : apartB n p lo hi = true) : p k = true := (apart_of.1 h k hk).1
theorem apart_succ (h : apartB k p lo hi = true ∧ p k = true ∧ lastI hi k ≤ lo k) : apartB (k + 1) p lo hi = true := by
 refine apart_of.2 fun j hj => ?_
 rcases Nat.lt_or_ge j k with h1 | h1
 ·
  exact apart_of.1 h.1 j h1
 ·
  obtain rfl : j = k := by omega
  exact h.2
end
set_option maxHeartbeats 2000000 in
theorem apartSeg_any (A : Option Addr) (n c : Nat) (ss : List Sg) (B : Nat → Option Addr × Nat) (fn fm : Nat) (fr fs : Array Value) (p : Nat → Bool) (lo hi : Nat → Int) (w : World) (h : Els w (fun k => k < w.heap.size) A n c 4 (fun k => sgA (ss.getD k noSg) (B k))) (hn : n ≤ 4611686018427387904)
  (hE : ∀ (args : Array Value) (X : World), (callFunc fn args).run Tryz.prog X = .ok (.enter fn args) X) (hE2 : ∀ (args : Array Value) (X : World), (callFunc fm args).run Tryz.prog X = .ok (.enter fm args) X)
  (HF : ∀ k (X : World), k < n → Below w.heap.size w X → Calls Tryz.prog fn (#[.agg (sgA (ss.getD k noSg) (B k))] ++ fr) X fun e w' => e = .returned (.bool (p k)) ∧ Below X.heap.size X w')
  (HR : ∀ k (X : World), k < n → p k = true → Below w.heap.size w X → Calls Tryz.prog fm (#[.agg (sgA (ss.getD k noSg) (B k))] ++ fs) X fun e w' => e = .returned (.tuple #[.int .i64 (lo k), .int .i64 (hi k)]) ∧ Below X.heap.size X w') :
  Calls Tryz.prog 105 #[.func (.func fn) #[] fr, .func (.func fm) #[] fs, .slice A n c] w fun e w' => e = .returned (.bool (apartB n p lo hi)) ∧ Below w.heap.size w w' := by
 have H := hD h
 have HP := hD HF
 have HQ := hD HR
 have hcap := h.cap
 have HY := hD (fun k hk => apart_yes (p := p) (lo := lo) (hi := hi) (n := n) (k := k) hk)
 have HNO := hD (fun k hk => apart_no (p := p) (lo := lo) (hi := hi) (n := n) (k := k) hk)
 have HNP := hD (fun k hk => apart_np (p := p) (lo := lo) (hi := hi) (n := n) (k := k) hk)
 clear h HF HR
 go_enter Tryz.func105, Tryz.ntmps105
 go_wp2
 go_loopw [7, 14] (fun la t wr => ∃ k : Nat, k ≤ n ∧ t = .int .i64 k ∧ la = .int .i64 (lastI hi k) ∧ Below w.heap.size w wr ∧ apartB k p lo hi = true) (fun _ t _ => n - (intOf t).toNat)
 case atStart => exact ⟨0, Nat.zero_le _, rfl, rfl, Below.refl _ _, rfl⟩
 case round =>
  obtain ⟨k, hk, rfl, rfl, hb, he⟩ := hrel
  have HE := hD he
  have HB := hD hb
  clear he hb
  by_cases hlt : k < n
  ·
   obtain ⟨ad, rfl⟩ : ∃ ad, A = some ad := by
    cases A with
    | none => have := (H.out.nil rfl).1; omega
    | some ad => exact ⟨ad, rfl⟩
   obtain ⟨b, o, rfl⟩ := H.out.plain (by omega) rfl
   have hg := (H.out.below HB.out (fun _ h => h)).get k hlt
   have c0 := hg 0 _ rfl
   have c1 := hg 1 _ rfl
   have c2 := hg 2 _ rfl
   have c3 := hg 3 _ rfl
   simp only [Nat.add_zero] at c0
   clear hg
   have HBX := hD (HB.out.alloc HB.out.size (.cells (sgA (ss.getD k noSg) (B k)) 61))
   have HSX := hD (Bx.new wr (sgA (ss.getD k noSg) (B k)) 61)
   have HC := hD (HP.out k (wr.alloc (.cells (sgA (ss.getD k noSg) (B k)) 61)) hlt HBX.out)
   have HR := hD (fun (h : p k = true) (X : World) (hX : Below w.heap.size w X) => HQ.out k X hlt h hX)
   have HS := hD (fun h => (apart_succ (p := p) (lo := lo) (hi := hi) (k := k) h))
   have HN1 := hD (HNP.out k hlt)
   have HN2 := hD (HNO.out k hlt)
   have HE2 := hD HE.out
   have HLS := hD (show lastI hi (k + 1) = hi k from rfl)
   generalize ss.getD k noSg = s at *
   generalize B k = q at *
   have x0 := HSX.out.c 0
   have x1 := HSX.out.c 1
   have x2 := HSX.out.c 2
   have x3 := HSX.out.c 3
   simp only [List.getElem?_toArray, List.getElem?_cons_succ, List.getElem?_cons_zero] at x0 x1 x2 x3
   generalize lastI hi k = la at *
   generalize lo k = lk at *
   generalize hi k = hk' at *
   generalize p k = pk at *
   cases pk
   ·
    go_wp2_with (with_reducible refine (HC.out).mono ?_; rintro e w2 ⟨rfl, hb2⟩; have HB2 := hD (HBX.out.trans (hb2.mono HBX.out.size)); clear hb2)
    first | go_ret | skip
    exact ⟨ret_eq (HN1.out (by first | trivial | rfl)) rfl, HB2.out⟩
   ·
    by_cases hlo : lk < la
    ·
     go_wp2_with (first
      | (with_reducible refine (HC.out).mono ?_; rintro e w2 ⟨rfl, hb2⟩; have HB2 := hD (HBX.out.trans (hb2.mono HBX.out.size)); have HSX2 := hD (HSX.out.below hb2); have y0 := HSX2.out.c 0; have y1 := HSX2.out.c 1; have y2 := HSX2.out.c 2; have y3 := HSX2.out.c 3; simp only [List.getElem?_toArray, List.getElem?_cons_succ, List.getElem?_cons_zero] at y0 y1 y2 y3; clear hb2)
      | (with_reducible refine (HR.out (by first | trivial | rfl) _ HB2.out).mono ?_; rintro e w3 ⟨rfl, hb3⟩; have HB3 := hD (HB2.out.trans (hb3.mono HB2.out.size)); clear hb3))
     first | go_ret | skip
     exact ⟨ret_eq (HN2.out hlo) rfl, HB3.out⟩
    ·
     have hlo' : la ≤ lk := by omega
     go_wp2_with (first
      | (with_reducible refine (HC.out).mono ?_; rintro e w2 ⟨rfl, hb2⟩; have HB2 := hD (HBX.out.trans (hb2.mono HBX.out.size)); have HSX2 := hD (HSX.out.below hb2); have y0 := HSX2.out.c 0; have y1 := HSX2.out.c 1; have y2 := HSX2.out.c 2; have y3 := HSX2.out.c 3; simp only [List.getElem?_toArray, List.getElem?_cons_succ, List.getElem?_cons_zero] at y0 y1 y2 y3; clear hb2)
      | (with_reducible refine (HR.out (by first | trivial | rfl) _ HB2.out).mono ?_; rintro e w3 ⟨rfl, hb3⟩; have HB3 := hD (HB2.out.trans (hb3.mono HB2.out.size)); clear hb3))
     go_roundw
     case rel => exact ⟨k + 1, by omega, by go_num, by rw [HLS.out], HB3.out, HS.out ⟨HE2.out, (by first | trivial | rfl), hlo'⟩⟩
     case measure => simp [intOf]; omega
  ·
   obtain rfl : k = n := by omega
   go_wp2
   first | go_ret | skip
   exact ⟨ret_eq HE.out rfl, HB.out⟩
set_option maxHeartbeats 2000000 in
theorem apartRel_any (A : Option Addr) (n c : Nat) (ss : List Rl) (fn fm : Nat) (fr fs : Array Value) (p : Nat → Bool) (lo hi : Nat → Int) (w : World) (h : Els w (fun k => k < w.heap.size) A n c 4 (fun k => rlA (ss.getD k noRl))) (hn : n ≤ 4611686018427387904)
  (hE : ∀ (args : Array Value) (X : World), (callFunc fn args).run Tryz.prog X = .ok (.enter fn args) X) (hE2 : ∀ (args : Array Value) (X : World), (callFunc fm args).run Tryz.prog X = .ok (.enter fm args) X)
  (HF : ∀ k (X : World), k < n → Below w.heap.size w X → Calls Tryz.prog fn (#[.agg (rlA (ss.getD k noRl))] ++ fr) X fun e w' => e = .returned (.bool (p k)) ∧ Below X.heap.size X w')
  (HR : ∀ k (X : World), k < n → p k = true → Below w.heap.size w X → Calls Tryz.prog fm (#[.agg (rlA (ss.getD k noRl))] ++ fs) X fun e w' => e = .returned (.tuple #[.int .i64 (lo k), .int .i64 (hi k)]) ∧ Below X.heap.size X w') :
  Calls Tryz.prog 117 #[.func (.func fn) #[] fr, .func (.func fm) #[] fs, .slice A n c] w fun e w' => e = .returned (.bool (apartB n p lo hi)) ∧ Below w.heap.size w w' := by
 have H := hD h
 have HP := hD HF
 have HQ := hD HR
 have hcap := h.cap
 have HY := hD (fun k hk => apart_yes (p := p) (lo := lo) (hi := hi) (n := n) (k := k) hk)
 have HNO := hD (fun k hk => apart_no (p := p) (lo := lo) (hi := hi) (n := n) (k := k) hk)
 have HNP := hD (fun k hk => apart_np (p := p) (lo := lo) (hi := hi) (n := n) (k := k) hk)
 clear h HF HR
 go_enter Tryz.func117, Tryz.ntmps117
 go_wp2
 go_loopw [7, 14] (fun la t wr => ∃ k : Nat, k ≤ n ∧ t = .int .i64 k ∧ la = .int .i64 (lastI hi k) ∧ Below w.heap.size w wr ∧ apartB k p lo hi = true) (fun _ t _ => n - (intOf t).toNat)
 case atStart => exact ⟨0, Nat.zero_le _, rfl, rfl, Below.refl _ _, rfl⟩
 case round =>
  obtain ⟨k, hk, rfl, rfl, hb, he⟩ := hrel
  have HE := hD he
  have HB := hD hb
  clear he hb
  by_cases hlt : k < n
  ·
   obtain ⟨ad, rfl⟩ : ∃ ad, A = some ad := by
    cases A with
    | none => have := (H.out.nil rfl).1; omega
    | some ad => exact ⟨ad, rfl⟩
   obtain ⟨b, o, rfl⟩ := H.out.plain (by omega) rfl
   have hg := (H.out.below HB.out (fun _ h => h)).get k hlt
   have c0 := hg 0 _ rfl
   have c1 := hg 1 _ rfl
   have c2 := hg 2 _ rfl
   have c3 := hg 3 _ rfl
   simp only [Nat.add_zero] at c0
   clear hg
   have HBX := hD (HB.out.alloc HB.out.size (.cells (rlA (ss.getD k noRl)) 57))
   have HSX := hD (Bx.new wr (rlA (ss.getD k noRl)) 57)
   have HC := hD (HP.out k (wr.alloc (.cells (rlA (ss.getD k noRl)) 57)) hlt HBX.out)
   have HR := hD (fun (h : p k = true) (X : World) (hX : Below w.heap.size w X) => HQ.out k X hlt h hX)
   have HS := hD (fun h => (apart_succ (p := p) (lo := lo) (hi := hi) (k := k) h))
   have HN1 := hD (HNP.out k hlt)
   have HN2 := hD (HNO.out k hlt)
   have HE2 := hD HE.out
   have HLS := hD (show lastI hi (k + 1) = hi k from rfl)
   generalize ss.getD k noRl = s at *
   have x0 := HSX.out.c 0
   have x1 := HSX.out.c 1
   have x2 := HSX.out.c 2
   have x3 := HSX.out.c 3
   simp only [List.getElem?_toArray, List.getElem?_cons_succ, List.getElem?_cons_zero] at x0 x1 x2 x3
   generalize lastI hi k = la at *
   generalize lo k = lk at *
   generalize hi k = hk' at *
   generalize p k = pk at *
   cases pk
   ·
    go_wp2_with (with_reducible refine (HC.out).mono ?_; rintro e w2 ⟨rfl, hb2⟩; have HB2 := hD (HBX.out.trans (hb2.mono HBX.out.size)); clear hb2)
    first | go_ret | skip
    exact ⟨ret_eq (HN1.out (by first | trivial | rfl)) rfl, HB2.out⟩
   ·
    by_cases hlo : lk < la
    ·
     go_wp2_with (first
      | (with_reducible refine (HC.out).mono ?_; rintro e w2 ⟨rfl, hb2⟩; have HB2 := hD (HBX.out.trans (hb2.mono HBX.out.size)); have HSX2 := hD (HSX.out.below hb2); have y0 := HSX2.out.c 0; have y1 := HSX2.out.c 1; have y2 := HSX2.out.c 2; have y3 := HSX2.out.c 3; simp only [List.getElem?_toArray, List.getElem?_cons_succ, List.getElem?_cons_zero] at y0 y1 y2 y3; clear hb2)
      | (with_reducible refine (HR.out (by first | trivial | rfl) _ HB2.out).mono ?_; rintro e w3 ⟨rfl, hb3⟩; have HB3 := hD (HB2.out.trans (hb3.mono HB2.out.size)); clear hb3))
     first | go_ret | skip
     exact ⟨ret_eq (HN2.out hlo) rfl, HB3.out⟩
    ·
     have hlo' : la ≤ lk := by omega
     go_wp2_with (first
      | (with_reducible refine (HC.out).mono ?_; rintro e w2 ⟨rfl, hb2⟩; have HB2 := hD (HBX.out.trans (hb2.mono HBX.out.size)); have HSX2 := hD (HSX.out.below hb2); have y0 := HSX2.out.c 0; have y1 := HSX2.out.c 1; have y2 := HSX2.out.c 2; have y3 := HSX2.out.c 3; simp only [List.getElem?_toArray, List.getElem?_cons_succ, List.getElem?_cons_zero] at y0 y1 y2 y3; clear hb2)
      | (with_reducible refine (HR.out (by first | trivial | rfl) _ HB2.out).mono ?_; rintro e w3 ⟨rfl, hb3⟩; have HB3 := hD (HB2.out.trans (hb3.mono HB2.out.size)); clear hb3))
     go_roundw
     case rel => exact ⟨k + 1, by omega, by go_num, by rw [HLS.out], HB3.out, HS.out ⟨HE2.out, (by first | trivial | rfl), hlo'⟩⟩
     case measure => simp [intOf]; omega
  ·
   obtain rfl : k = n := by omega
   go_wp2
   first | go_ret | skip
   exact ⟨ret_eq HE.out rfl, HB.out⟩
set_option maxHeartbeats 2000000 in
theorem apartSlot_any (A : Option Addr) (n c : Nat) (ss : List Sl) (fn fm : Nat) (fr fs : Array Value) (p : Nat → Bool) (lo hi : Nat → Int) (w : World) (h : Els w (fun k => k < w.heap.size) A n c 3 (fun k => slA (ss.getD k noSl))) (hn : n ≤ 4611686018427387904)
  (hE : ∀ (args : Array Value) (X : World), (callFunc fn args).run Tryz.prog X = .ok (.enter fn args) X) (hE2 : ∀ (args : Array Value) (X : World), (callFunc fm args).run Tryz.prog X = .ok (.enter fm args) X)
  (HF : ∀ k (X : World), k < n → Below w.heap.size w X → Calls Tryz.prog fn (#[.agg (slA (ss.getD k noSl))] ++ fr) X fun e w' => e = .returned (.bool (p k)) ∧ Below X.heap.size X w')
  (HR : ∀ k (X : World), k < n → p k = true → Below w.heap.size w X → Calls Tryz.prog fm (#[.agg (slA (ss.getD k noSl))] ++ fs) X fun e w' => e = .returned (.tuple #[.int .i64 (lo k), .int .i64 (hi k)]) ∧ Below X.heap.size X w') :
  Calls Tryz.prog 121 #[.func (.func fn) #[] fr, .func (.func fm) #[] fs, .slice A n c] w fun e w' => e = .returned (.bool (apartB n p lo hi)) ∧ Below w.heap.size w w' := by
 have H := hD h
 have HP := hD HF
 have HQ := hD HR
 have hcap := h.cap
 have HY := hD (fun k hk => apart_yes (p := p) (lo := lo) (hi := hi) (n := n) (k := k) hk)
 have HNO := hD (fun k hk => apart_no (p := p) (lo := lo) (hi := hi) (n := n) (k := k) hk)
 have HNP := hD (fun k hk => apart_np (p := p) (lo := lo) (hi := hi) (n := n) (k := k) hk)
 clear h HF HR
 go_enter Tryz.func121, Tryz.ntmps121
 go_wp2
 go_loopw [7, 14] (fun la t wr => ∃ k : Nat, k ≤ n ∧ t = .int .i64 k ∧ la = .int .i64 (lastI hi k) ∧ Below w.heap.size w wr ∧ apartB k p lo hi = true) (fun _ t _ => n - (intOf t).toNat)
 case atStart => exact ⟨0, Nat.zero_le _, rfl, rfl, Below.refl _ _, rfl⟩
 case round =>
  obtain ⟨k, hk, rfl, rfl, hb, he⟩ := hrel
  have HE := hD he
  have HB := hD hb
  clear he hb
  by_cases hlt : k < n
  ·
   obtain ⟨ad, rfl⟩ : ∃ ad, A = some ad := by
    cases A with
    | none => have := (H.out.nil rfl).1; omega
    | some ad => exact ⟨ad, rfl⟩
   obtain ⟨b, o, rfl⟩ := H.out.plain (by omega) rfl
   have hg := (H.out.below HB.out (fun _ h => h)).get k hlt
   have c0 := hg 0 _ rfl
   have c1 := hg 1 _ rfl
   have c2 := hg 2 _ rfl
   simp only [Nat.add_zero] at c0
   clear hg
   have HBX := hD (HB.out.alloc HB.out.size (.cells (slA (ss.getD k noSl)) 112))
   have HSX := hD (Bx.new wr (slA (ss.getD k noSl)) 112)
   have HC := hD (HP.out k (wr.alloc (.cells (slA (ss.getD k noSl)) 112)) hlt HBX.out)
   have HR := hD (fun (h : p k = true) (X : World) (hX : Below w.heap.size w X) => HQ.out k X hlt h hX)
   have HS := hD (fun h => (apart_succ (p := p) (lo := lo) (hi := hi) (k := k) h))
   have HN1 := hD (HNP.out k hlt)
   have HN2 := hD (HNO.out k hlt)
   have HE2 := hD HE.out
   have HLS := hD (show lastI hi (k + 1) = hi k from rfl)
   generalize ss.getD k noSl = s at *
   have x0 := HSX.out.c 0
   have x1 := HSX.out.c 1
   have x2 := HSX.out.c 2
   simp only [List.getElem?_toArray, List.getElem?_cons_succ, List.getElem?_cons_zero] at x0 x1 x2
   generalize lastI hi k = la at *
   generalize lo k = lk at *
   generalize hi k = hk' at *
   generalize p k = pk at *
   cases pk
   ·
    go_wp2_with (with_reducible refine (HC.out).mono ?_; rintro e w2 ⟨rfl, hb2⟩; have HB2 := hD (HBX.out.trans (hb2.mono HBX.out.size)); clear hb2)
    first | go_ret | skip
    exact ⟨ret_eq (HN1.out (by first | trivial | rfl)) rfl, HB2.out⟩
   ·
    by_cases hlo : lk < la
    ·
     go_wp2_with (first
      | (with_reducible refine (HC.out).mono ?_; rintro e w2 ⟨rfl, hb2⟩; have HB2 := hD (HBX.out.trans (hb2.mono HBX.out.size)); have HSX2 := hD (HSX.out.below hb2); have y0 := HSX2.out.c 0; have y1 := HSX2.out.c 1; have y2 := HSX2.out.c 2; simp only [List.getElem?_toArray, List.getElem?_cons_succ, List.getElem?_cons_zero] at y0 y1 y2; clear hb2)
      | (with_reducible refine (HR.out (by first | trivial | rfl) _ HB2.out).mono ?_; rintro e w3 ⟨rfl, hb3⟩; have HB3 := hD (HB2.out.trans (hb3.mono HB2.out.size)); clear hb3))
     first | go_ret | skip
     exact ⟨ret_eq (HN2.out hlo) rfl, HB3.out⟩
    ·
     have hlo' : la ≤ lk := by omega
     go_wp2_with (first
      | (with_reducible refine (HC.out).mono ?_; rintro e w2 ⟨rfl, hb2⟩; have HB2 := hD (HBX.out.trans (hb2.mono HBX.out.size)); have HSX2 := hD (HSX.out.below hb2); have y0 := HSX2.out.c 0; have y1 := HSX2.out.c 1; have y2 := HSX2.out.c 2; simp only [List.getElem?_toArray, List.getElem?_cons_succ, List.getElem?_cons_zero] at y0 y1 y2; clear hb2)
      | (with_reducible refine (HR.out (by first | trivial | rfl) _ HB2.out).mono ?_; rintro e w3 ⟨rfl, hb3⟩; have HB3 := hD (HB2.out.trans (hb3.mono HB2.out.size)); clear hb3))
     go_roundw
     case rel => exact ⟨k + 1, by omega, by go_num, by rw [HLS.out], HB3.out, HS.out ⟨HE2.out, (by first | trivial | rfl), hlo'⟩⟩
     case measure => simp [intOf]; omega
  ·
   obtain rfl : k = n := by omega
   go_wp2
   first | go_ret | skip
   exact ⟨ret_eq HE.out rfl, HB.out⟩
end Go.Proofs.YtfljignkjmabpaaGreat
