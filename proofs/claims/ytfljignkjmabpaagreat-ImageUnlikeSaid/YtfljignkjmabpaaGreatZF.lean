/-
  The head, and the small functions of images.
  areApart: whatever the functions (written by mk.py).
  Segments; what an image has at an address.
  Symbols of an image.
-/
import Derived.Test.YtfljignkjmabpaaGreatZB
import Derived.Test.YtfljignkjmabpaaGreatZCZb
import Derived.StillTailTactics
namespace Go.Proofs.YtfljignkjmabpaaGreat
set_option maxRecDepth 100000
set_option linter.unusedSimpArgs false
set_option linter.unusedVariables false
open Go.RowKit

def pathB (l : Str) : Bool := withB (l.length : Int) 1 200
theorem path_any (l : Str) (w : World) (h : Long l.length) : Calls Tryz.prog 166 #[str l] w fun e w' => e = .returned (.bool (pathB l)) ∧ w = w' := by
  have HW := Lib.hid (fun X => within_any (l.length : Int) 1 200 X)
  unfold Long at h
  go_enter Tryz.func166, Tryz.ntmps166
  go_wp2_with (go_at_call 100; refine (HW.out _).mono ?_; rintro e w2 ⟨rfl, rfl⟩)
  go_ret
  exact ⟨rfl, rfl⟩
def needB (s : Nd) : Bool := pathB s.name && decide (s.vers.length ≤ 16) && s.vers.all nameB
theorem same_below {P : Program} {f : FuncId} {a : Array Value} {w : World} {v : Value} (h : Calls P f a w fun e w' => e = .returned v ∧ w = w') : Calls P f a w fun e w' => e = .returned v ∧ Below w.heap.size w w' :=
  h.mono fun e w' ⟨h1, h2⟩ => ⟨h1, by subst h2; exact Below.refl _ _⟩
theorem need_any (s : Nd) (q : Option Addr × Nat) (w : World) (h : Src w (fun k => k < w.heap.size) q.1 s.vers.length q.2 (strs s.vers)) (hn : Long s.name.length) (hv : Long s.vers.length) :
    Calls Tryz.prog 164 #[.agg (ndA s q)] w fun e w' => e = .returned (.bool (needB s)) ∧ Below w.heap.size w w' := by
  have HB := Lib.hid ((Below.refl w.heap.size w).alloc (Nat.le_refl _) (.cells (ndA s q) 98))
  have hx := Bx.new w (ndA s q) 98
  have x0 := hx.c 0
  have x1 := hx.c 1
  simp only [List.getElem?_toArray, List.getElem?_cons_succ, List.getElem?_cons_zero] at x0 x1
  have HP := Lib.hid (fun X => path_any s.name X hn)
  have HA := Lib.hid (allStr_any q.1 s.vers.length q.2 s.vers 99 #[] (fun k => nameB (s.vers.getD k [])) (w.alloc (.cells (ndA s q) 98)) ((h.below HB.out (fun _ h => h)).lt) (by unfold Long at hv; omega) (fun _ _ => by go_simp) (fun k X _ _ => same_below (name_any _ X)))
  rw [range_all s.vers [] nameB] at HA
  have HF := Lib.hid (show needB s = (pathB s.name && decide (s.vers.length ≤ 16) && s.vers.all nameB) from rfl)
  generalize pathB s.name = b1 at *
  generalize s.vers.all nameB = b2 at *
  unfold Long at hv
  clear h hn hx
  go_enter Tryz.func164, Tryz.ntmps164
  go_wp2_with (first
    | (go_at_call 166; refine (HP.out _).mono ?_; rintro e w2 ⟨rfl, rfl⟩)
    | (go_at_call 165; refine (HA.out).mono ?_; rintro e w2 ⟨rfl, hb2⟩; have HB2 := Lib.hid (HB.out.trans (hb2.mono HB.out.size)); clear hb2))
  all_goals
    go_ret
    rw [HF.out]
    first
      | (refine ⟨?_, HB2.out⟩; simp [*] <;> (intros; omega))
      | (refine ⟨?_, HB.out⟩; simp [*] <;> (intros; omega))
def neededB (l : List Nd) : Bool := decide (l.length ≤ 16) && l.all needB
def runPathB (l : List Str) : Bool := decide (l.length ≤ 16) && l.all pathB
theorem getD_mem {α : Type} {l : List α} {k : Nat} {d : α} (h : k < l.length) : l.getD k d ∈ l := by
  rw [List.getD_eq_getElem?_getD, List.getElem?_eq_getElem h, Option.getD_some]
  exact List.getElem_mem h
theorem needed_any (A : Option Addr) (c : Nat) (l : List Nd) (w : World) (h : Nds w (fun k => k < w.heap.size) A l.length c l) (hl : Long l.length) (hs : ∀ s ∈ l, Long s.name.length ∧ Long s.vers.length ∧ ∀ v ∈ s.vers, Long v.length) :
    Calls Tryz.prog 101 #[.slice A l.length c] w fun e w' => e = .returned (.bool (neededB l)) ∧ Below w.heap.size w w' := by
  obtain ⟨-, B, h1, h2⟩ := h
  have HA := Lib.hid (allNeed_any A l.length c l B 164 #[] (fun k => needB (l.getD k noNd)) w h1 (by unfold Long at hl; omega) (fun _ _ => by go_simp) (fun k X hk hX =>
    need_any _ _ X ((h2 k hk).below hX (fun _ h => h) |>.weak fun _ hk => Nat.lt_of_lt_of_le hk hX.size) (hs _ (getD_mem hk)).1 (hs _ (getD_mem hk)).2.1))
  rw [range_all l noNd needB] at HA
  have HF := Lib.hid (show neededB l = (decide (l.length ≤ 16) && l.all needB) from rfl)
  generalize l.all needB = b2 at *
  unfold Long at hl
  clear h1 h2 hs
  go_enter Tryz.func101, Tryz.ntmps101
  go_wp2_with (go_at_call 163; refine (HA.out).mono ?_; rintro e w2 ⟨rfl, hb2⟩)
  all_goals
    go_ret
    rw [HF.out]
    first
      | (refine ⟨?_, hb2⟩; simp [*] <;> (intros; omega))
      | (refine ⟨?_, Below.refl _ _⟩; simp [*] <;> (intros; omega))
theorem runPath_any (A : Option Addr) (c : Nat) (l : List Str) (w : World) (h : Src w (fun k => k < w.heap.size) A l.length c (strs l)) (hl : Long l.length) (hs : ∀ s ∈ l, Long s.length) :
    Calls Tryz.prog 102 #[.slice A l.length c] w fun e w' => e = .returned (.bool (runPathB l)) ∧ Below w.heap.size w w' := by
  have HA := Lib.hid (allStr_any A l.length c l 166 #[] (fun k => pathB (l.getD k [])) w h (by unfold Long at hl; omega) (fun _ _ => by go_simp) (fun k X hk hX => same_below (path_any _ X (hs _ (getD_mem hk)))))
  rw [range_all l [] pathB] at HA
  have HF := Lib.hid (show runPathB l = (decide (l.length ≤ 16) && l.all pathB) from rfl)
  generalize l.all pathB = b2 at *
  unfold Long at hl
  clear h hs
  go_enter Tryz.func102, Tryz.ntmps102
  go_wp2_with (go_at_call 165; refine (HA.out).mono ?_; rintro e w2 ⟨rfl, hb2⟩)
  all_goals
    go_ret
    rw [HF.out]
    first
      | (refine ⟨?_, hb2⟩; simp [*] <;> (intros; omega))
      | (refine ⟨?_, Below.refl _ _⟩; simp [*] <;> (intros; omega))
def headB (x : Im) : Bool := (x.name.isEmpty || nameB x.name) && withB x.flags 0 15 && neededB x.needed && runPathB x.run
set_option maxHeartbeats 1000000 in
theorem head_any (p : Pl) (x : Im) (w : World) (h : ImIn w (fun k => k < w.heap.size) p x) (hf : Fit x) :
    Calls Tryz.prog 28 #[imV p x] w fun e w' => e = .returned (.bool (headB x)) ∧ Below w.heap.size w w' := by
  have HB := Lib.hid (ibox_below w p x)
  have HX := Lib.hid (Ix.new w p x)
  have HN := Lib.hid (fun X => name_any x.name X)
  have HW := Lib.hid (fun X => within_any x.flags 0 15 X)
  have HND := Lib.hid (fun (X : World) (hX : Below w.heap.size w X) => needed_any p.nd.1 p.nd.2 x.needed X (h.lt hX).needed hf.needed hf.need)
  have HR := Lib.hid (fun (X : World) (hX : Below w.heap.size w X) => runPath_any p.rp.1 p.rp.2 x.run X (h.lt hX).run hf.run hf.runs)
  have HF := Lib.hid (show headB x = ((x.name.isEmpty || nameB x.name) && withB x.flags 0 15 && neededB x.needed && runPathB x.run) from rfl)
  generalize nameB x.name = b1 at *
  generalize withB x.flags 0 15 = b2 at *
  generalize neededB x.needed = b3 at *
  generalize runPathB x.run = b4 at *
  clear h hf
  go_enter Tryz.func28, Tryz.ntmps28
  go_upto_region 1 with (fail)
  change Code.wp _ _ _ _ (w.alloc (.cells (imA p x) 40))
  generalize w.alloc (.cells (imA p x) 40) = w1 at *
  obtain ⟨c0, c1, c2, c3, c4, -⟩ := HX.out.cells
  go_wp2_with (first
    | (go_at_call 99; refine (HN.out _).mono ?_; rintro e w2 ⟨rfl, rfl⟩)
    | (go_at_call 100; refine (HW.out _).mono ?_; rintro e w2 ⟨rfl, rfl⟩)
    | (go_at_call 101; refine (HND.out _ HB.out).mono ?_; rintro e w3 ⟨rfl, hb3⟩; have HB3 := Lib.hid (HB.out.trans (hb3.mono HB.out.size)); obtain ⟨-, -, -, -, d4, -⟩ := (HX.out.below hb3).cells; clear hb3)
    | (go_at_call 102; refine (HR.out _ HB3.out).mono ?_; rintro e w4 ⟨rfl, hb4⟩; have HB4 := Lib.hid (HB3.out.trans (hb4.mono HB3.out.size)); clear hb4))
  all_goals
    go_ret
    rw [HF.out]
    first
      | (refine ⟨?_, HB4.out⟩; simp [*])
      | (refine ⟨?_, HB3.out⟩; simp [*])
      | (refine ⟨?_, HB.out⟩; simp [*])
end Go.Proofs.YtfljignkjmabpaaGreat

namespace Go.Proofs.YtfljignkjmabpaaGreat
set_option maxRecDepth 100000
set_option linter.unusedSimpArgs false
set_option linter.unusedVariables false
open Go.RowKit

theorem ret_eq {x b : Bool} {v : Value} (h : x = b) (hv : v = .bool b) : Ending.returned v = .returned (.bool x) := by rw [h, hv]
def lastI (hi : Nat → Int) : Nat → Int
  | 0 => 0
  | k + 1 => hi k
def apartB (n : Nat) (p : Nat → Bool) (lo hi : Nat → Int) : Bool := (List.range n).all fun k => p k && decide (lastI hi k ≤ lo k)
section
variable {n k : Nat} {p : Nat → Bool} {lo hi : Nat → Int}
theorem apart_of : apartB n p lo hi = true ↔ ∀ k, k < n → p k = true ∧ lastI hi k ≤ lo k := by
  unfold apartB
  rw [List.all_eq_true]
  constructor
  · intro h k hk
    simpa using h k (List.mem_range.2 hk)
  · intro h k hk
    simpa using h k (List.mem_range.1 hk)
theorem apart_no (hk : k < n) (h : lo k < lastI hi k) : apartB n p lo hi = false := by
  rw [Bool.eq_false_iff]
  intro hh
  have := (apart_of.1 hh k hk).2
  omega
theorem apart_np (hk : k < n) (h : p k = false) : apartB n p lo hi = false := by
  rw [Bool.eq_false_iff]
  intro hh
  have := (apart_of.1 hh k hk).1
  rw [h] at this
  cases this
theorem apart_yes (hk : k < n) (h : apartB n p lo hi = true) : p k = true := (apart_of.1 h k hk).1
theorem apart_succ (h : apartB k p lo hi = true ∧ p k = true ∧ lastI hi k ≤ lo k) : apartB (k + 1) p lo hi = true := by
  refine apart_of.2 fun j hj => ?_
  rcases Nat.lt_or_ge j k with h1 | h1
  · exact apart_of.1 h.1 j h1
  · obtain rfl : j = k := by omega
    exact h.2
end

set_option maxHeartbeats 2000000 in
theorem apartSeg_any (A : Option Addr) (n c : Nat) (ss : List Sg) (B : Nat → Option Addr × Nat) (fn fm : Nat) (fr fs : Array Value) (p : Nat → Bool) (lo hi : Nat → Int) (w : World) (h : Els w (fun k => k < w.heap.size) A n c 4 (fun k => sgA (ss.getD k noSg) (B k))) (hn : n ≤ 4611686018427387904)
    (hE : ∀ (args : Array Value) (X : World), (callFunc fn args).run Tryz.prog X = .ok (.enter fn args) X) (hE2 : ∀ (args : Array Value) (X : World), (callFunc fm args).run Tryz.prog X = .ok (.enter fm args) X)
    (HF : ∀ k (X : World), k < n → Below w.heap.size w X → Calls Tryz.prog fn (#[.agg (sgA (ss.getD k noSg) (B k))] ++ fr) X fun e w' => e = .returned (.bool (p k)) ∧ Below X.heap.size X w')
    (HR : ∀ k (X : World), k < n → p k = true → Below w.heap.size w X → Calls Tryz.prog fm (#[.agg (sgA (ss.getD k noSg) (B k))] ++ fs) X fun e w' => e = .returned (.tuple #[.int .i64 (lo k), .int .i64 (hi k)]) ∧ Below X.heap.size X w') :
    Calls Tryz.prog 105 #[.func (.func fn) #[] fr, .func (.func fm) #[] fs, .slice A n c] w fun e w' => e = .returned (.bool (apartB n p lo hi)) ∧ Below w.heap.size w w' := by
  have H := Lib.hid h
  have HP := Lib.hid HF
  have HQ := Lib.hid HR
  have hcap := h.cap
  have HY := Lib.hid (fun k hk => apart_yes (p := p) (lo := lo) (hi := hi) (n := n) (k := k) hk)
  have HNO := Lib.hid (fun k hk => apart_no (p := p) (lo := lo) (hi := hi) (n := n) (k := k) hk)
  have HNP := Lib.hid (fun k hk => apart_np (p := p) (lo := lo) (hi := hi) (n := n) (k := k) hk)
  clear h HF HR
  go_enter Tryz.func105, Tryz.ntmps105
  go_wp2
  go_loopw [7, 14] (fun la t wr => ∃ k : Nat, k ≤ n ∧ t = .int .i64 k ∧ la = .int .i64 (lastI hi k) ∧ Below w.heap.size w wr ∧ apartB k p lo hi = true) (fun _ t _ => n - (intOf t).toNat)
  case atStart => exact ⟨0, Nat.zero_le _, rfl, rfl, Below.refl _ _, rfl⟩
  case round =>
    obtain ⟨k, hk, rfl, rfl, hb, he⟩ := hrel
    have HE := Lib.hid he
    have HB := Lib.hid hb
    clear he hb
    by_cases hlt : k < n
    · obtain ⟨ad, rfl⟩ : ∃ ad, A = some ad := by
        cases A with
        | none => have := (H.out.nil rfl).1; omega
        | some ad => exact ⟨ad, rfl⟩
      obtain ⟨b, o, rfl⟩ := H.out.plain (by omega) rfl
      have hg := (H.out.below HB.out (fun _ h => h)).get k hlt
      have c0 := hg 0 _ rfl
      have c1 := hg 1 _ rfl
      have c2 := hg 2 _ rfl
      have c3 := hg 3 _ rfl
      simp only [Nat.add_zero] at c0
      clear hg
      have HBX := Lib.hid (HB.out.alloc HB.out.size (.cells (sgA (ss.getD k noSg) (B k)) 61))
      have HSX := Lib.hid (Bx.new wr (sgA (ss.getD k noSg) (B k)) 61)
      have HC := Lib.hid (HP.out k (wr.alloc (.cells (sgA (ss.getD k noSg) (B k)) 61)) hlt HBX.out)
      have HR := Lib.hid (fun (h : p k = true) (X : World) (hX : Below w.heap.size w X) => HQ.out k X hlt h hX)
      have HS := Lib.hid (fun h => (apart_succ (p := p) (lo := lo) (hi := hi) (k := k) h))
      have HN1 := Lib.hid (HNP.out k hlt)
      have HN2 := Lib.hid (HNO.out k hlt)
      have HE2 := Lib.hid HE.out
      have HLS := Lib.hid (show lastI hi (k + 1) = hi k from rfl)
      generalize ss.getD k noSg = s at *
      generalize B k = q at *
      have x0 := HSX.out.c 0
      have x1 := HSX.out.c 1
      have x2 := HSX.out.c 2
      have x3 := HSX.out.c 3
      simp only [List.getElem?_toArray, List.getElem?_cons_succ, List.getElem?_cons_zero] at x0 x1 x2 x3
      generalize lastI hi k = la at *
      generalize lo k = lk at *
      generalize hi k = hk' at *
      generalize p k = pk at *
      cases pk
      · go_wp2_with (with_reducible refine (HC.out).mono ?_; rintro e w2 ⟨rfl, hb2⟩; have HB2 := Lib.hid (HBX.out.trans (hb2.mono HBX.out.size)); clear hb2)
        first | go_ret | skip
        exact ⟨ret_eq (HN1.out (by first | trivial | rfl)) rfl, HB2.out⟩
      · by_cases hlo : lk < la
        · go_wp2_with (first
            | (with_reducible refine (HC.out).mono ?_; rintro e w2 ⟨rfl, hb2⟩; have HB2 := Lib.hid (HBX.out.trans (hb2.mono HBX.out.size)); have HSX2 := Lib.hid (HSX.out.below hb2); have y0 := HSX2.out.c 0; have y1 := HSX2.out.c 1; have y2 := HSX2.out.c 2; have y3 := HSX2.out.c 3; simp only [List.getElem?_toArray, List.getElem?_cons_succ, List.getElem?_cons_zero] at y0 y1 y2 y3; clear hb2)
            | (with_reducible refine (HR.out (by first | trivial | rfl) _ HB2.out).mono ?_; rintro e w3 ⟨rfl, hb3⟩; have HB3 := Lib.hid (HB2.out.trans (hb3.mono HB2.out.size)); clear hb3))
          first | go_ret | skip
          exact ⟨ret_eq (HN2.out hlo) rfl, HB3.out⟩
        · have hlo' : la ≤ lk := by omega
          go_wp2_with (first
            | (with_reducible refine (HC.out).mono ?_; rintro e w2 ⟨rfl, hb2⟩; have HB2 := Lib.hid (HBX.out.trans (hb2.mono HBX.out.size)); have HSX2 := Lib.hid (HSX.out.below hb2); have y0 := HSX2.out.c 0; have y1 := HSX2.out.c 1; have y2 := HSX2.out.c 2; have y3 := HSX2.out.c 3; simp only [List.getElem?_toArray, List.getElem?_cons_succ, List.getElem?_cons_zero] at y0 y1 y2 y3; clear hb2)
            | (with_reducible refine (HR.out (by first | trivial | rfl) _ HB2.out).mono ?_; rintro e w3 ⟨rfl, hb3⟩; have HB3 := Lib.hid (HB2.out.trans (hb3.mono HB2.out.size)); clear hb3))
          go_roundw
          case rel => exact ⟨k + 1, by omega, by go_num, by rw [HLS.out], HB3.out, HS.out ⟨HE2.out, (by first | trivial | rfl), hlo'⟩⟩
          case measure => simp [intOf]; omega
    · obtain rfl : k = n := by omega
      go_wp2
      first | go_ret | skip
      exact ⟨ret_eq HE.out rfl, HB.out⟩
set_option maxHeartbeats 2000000 in
theorem apartRel_any (A : Option Addr) (n c : Nat) (ss : List Rl) (fn fm : Nat) (fr fs : Array Value) (p : Nat → Bool) (lo hi : Nat → Int) (w : World) (h : Els w (fun k => k < w.heap.size) A n c 4 (fun k => rlA (ss.getD k noRl))) (hn : n ≤ 4611686018427387904)
    (hE : ∀ (args : Array Value) (X : World), (callFunc fn args).run Tryz.prog X = .ok (.enter fn args) X) (hE2 : ∀ (args : Array Value) (X : World), (callFunc fm args).run Tryz.prog X = .ok (.enter fm args) X)
    (HF : ∀ k (X : World), k < n → Below w.heap.size w X → Calls Tryz.prog fn (#[.agg (rlA (ss.getD k noRl))] ++ fr) X fun e w' => e = .returned (.bool (p k)) ∧ Below X.heap.size X w')
    (HR : ∀ k (X : World), k < n → p k = true → Below w.heap.size w X → Calls Tryz.prog fm (#[.agg (rlA (ss.getD k noRl))] ++ fs) X fun e w' => e = .returned (.tuple #[.int .i64 (lo k), .int .i64 (hi k)]) ∧ Below X.heap.size X w') :
    Calls Tryz.prog 117 #[.func (.func fn) #[] fr, .func (.func fm) #[] fs, .slice A n c] w fun e w' => e = .returned (.bool (apartB n p lo hi)) ∧ Below w.heap.size w w' := by
  have H := Lib.hid h
  have HP := Lib.hid HF
  have HQ := Lib.hid HR
  have hcap := h.cap
  have HY := Lib.hid (fun k hk => apart_yes (p := p) (lo := lo) (hi := hi) (n := n) (k := k) hk)
  have HNO := Lib.hid (fun k hk => apart_no (p := p) (lo := lo) (hi := hi) (n := n) (k := k) hk)
  have HNP := Lib.hid (fun k hk => apart_np (p := p) (lo := lo) (hi := hi) (n := n) (k := k) hk)
  clear h HF HR
  go_enter Tryz.func117, Tryz.ntmps117
  go_wp2
  go_loopw [7, 14] (fun la t wr => ∃ k : Nat, k ≤ n ∧ t = .int .i64 k ∧ la = .int .i64 (lastI hi k) ∧ Below w.heap.size w wr ∧ apartB k p lo hi = true) (fun _ t _ => n - (intOf t).toNat)
  case atStart => exact ⟨0, Nat.zero_le _, rfl, rfl, Below.refl _ _, rfl⟩
  case round =>
    obtain ⟨k, hk, rfl, rfl, hb, he⟩ := hrel
    have HE := Lib.hid he
    have HB := Lib.hid hb
    clear he hb
    by_cases hlt : k < n
    · obtain ⟨ad, rfl⟩ : ∃ ad, A = some ad := by
        cases A with
        | none => have := (H.out.nil rfl).1; omega
        | some ad => exact ⟨ad, rfl⟩
      obtain ⟨b, o, rfl⟩ := H.out.plain (by omega) rfl
      have hg := (H.out.below HB.out (fun _ h => h)).get k hlt
      have c0 := hg 0 _ rfl
      have c1 := hg 1 _ rfl
      have c2 := hg 2 _ rfl
      have c3 := hg 3 _ rfl
      simp only [Nat.add_zero] at c0
      clear hg
      have HBX := Lib.hid (HB.out.alloc HB.out.size (.cells (rlA (ss.getD k noRl)) 57))
      have HSX := Lib.hid (Bx.new wr (rlA (ss.getD k noRl)) 57)
      have HC := Lib.hid (HP.out k (wr.alloc (.cells (rlA (ss.getD k noRl)) 57)) hlt HBX.out)
      have HR := Lib.hid (fun (h : p k = true) (X : World) (hX : Below w.heap.size w X) => HQ.out k X hlt h hX)
      have HS := Lib.hid (fun h => (apart_succ (p := p) (lo := lo) (hi := hi) (k := k) h))
      have HN1 := Lib.hid (HNP.out k hlt)
      have HN2 := Lib.hid (HNO.out k hlt)
      have HE2 := Lib.hid HE.out
      have HLS := Lib.hid (show lastI hi (k + 1) = hi k from rfl)
      generalize ss.getD k noRl = s at *
      have x0 := HSX.out.c 0
      have x1 := HSX.out.c 1
      have x2 := HSX.out.c 2
      have x3 := HSX.out.c 3
      simp only [List.getElem?_toArray, List.getElem?_cons_succ, List.getElem?_cons_zero] at x0 x1 x2 x3
      generalize lastI hi k = la at *
      generalize lo k = lk at *
      generalize hi k = hk' at *
      generalize p k = pk at *
      cases pk
      · go_wp2_with (with_reducible refine (HC.out).mono ?_; rintro e w2 ⟨rfl, hb2⟩; have HB2 := Lib.hid (HBX.out.trans (hb2.mono HBX.out.size)); clear hb2)
        first | go_ret | skip
        exact ⟨ret_eq (HN1.out (by first | trivial | rfl)) rfl, HB2.out⟩
      · by_cases hlo : lk < la
        · go_wp2_with (first
            | (with_reducible refine (HC.out).mono ?_; rintro e w2 ⟨rfl, hb2⟩; have HB2 := Lib.hid (HBX.out.trans (hb2.mono HBX.out.size)); have HSX2 := Lib.hid (HSX.out.below hb2); have y0 := HSX2.out.c 0; have y1 := HSX2.out.c 1; have y2 := HSX2.out.c 2; have y3 := HSX2.out.c 3; simp only [List.getElem?_toArray, List.getElem?_cons_succ, List.getElem?_cons_zero] at y0 y1 y2 y3; clear hb2)
            | (with_reducible refine (HR.out (by first | trivial | rfl) _ HB2.out).mono ?_; rintro e w3 ⟨rfl, hb3⟩; have HB3 := Lib.hid (HB2.out.trans (hb3.mono HB2.out.size)); clear hb3))
          first | go_ret | skip
          exact ⟨ret_eq (HN2.out hlo) rfl, HB3.out⟩
        · have hlo' : la ≤ lk := by omega
          go_wp2_with (first
            | (with_reducible refine (HC.out).mono ?_; rintro e w2 ⟨rfl, hb2⟩; have HB2 := Lib.hid (HBX.out.trans (hb2.mono HBX.out.size)); have HSX2 := Lib.hid (HSX.out.below hb2); have y0 := HSX2.out.c 0; have y1 := HSX2.out.c 1; have y2 := HSX2.out.c 2; have y3 := HSX2.out.c 3; simp only [List.getElem?_toArray, List.getElem?_cons_succ, List.getElem?_cons_zero] at y0 y1 y2 y3; clear hb2)
            | (with_reducible refine (HR.out (by first | trivial | rfl) _ HB2.out).mono ?_; rintro e w3 ⟨rfl, hb3⟩; have HB3 := Lib.hid (HB2.out.trans (hb3.mono HB2.out.size)); clear hb3))
          go_roundw
          case rel => exact ⟨k + 1, by omega, by go_num, by rw [HLS.out], HB3.out, HS.out ⟨HE2.out, (by first | trivial | rfl), hlo'⟩⟩
          case measure => simp [intOf]; omega
    · obtain rfl : k = n := by omega
      go_wp2
      first | go_ret | skip
      exact ⟨ret_eq HE.out rfl, HB.out⟩
set_option maxHeartbeats 2000000 in
theorem apartSlot_any (A : Option Addr) (n c : Nat) (ss : List Sl) (fn fm : Nat) (fr fs : Array Value) (p : Nat → Bool) (lo hi : Nat → Int) (w : World) (h : Els w (fun k => k < w.heap.size) A n c 3 (fun k => slA (ss.getD k noSl))) (hn : n ≤ 4611686018427387904)
    (hE : ∀ (args : Array Value) (X : World), (callFunc fn args).run Tryz.prog X = .ok (.enter fn args) X) (hE2 : ∀ (args : Array Value) (X : World), (callFunc fm args).run Tryz.prog X = .ok (.enter fm args) X)
    (HF : ∀ k (X : World), k < n → Below w.heap.size w X → Calls Tryz.prog fn (#[.agg (slA (ss.getD k noSl))] ++ fr) X fun e w' => e = .returned (.bool (p k)) ∧ Below X.heap.size X w')
    (HR : ∀ k (X : World), k < n → p k = true → Below w.heap.size w X → Calls Tryz.prog fm (#[.agg (slA (ss.getD k noSl))] ++ fs) X fun e w' => e = .returned (.tuple #[.int .i64 (lo k), .int .i64 (hi k)]) ∧ Below X.heap.size X w') :
    Calls Tryz.prog 121 #[.func (.func fn) #[] fr, .func (.func fm) #[] fs, .slice A n c] w fun e w' => e = .returned (.bool (apartB n p lo hi)) ∧ Below w.heap.size w w' := by
  have H := Lib.hid h
  have HP := Lib.hid HF
  have HQ := Lib.hid HR
  have hcap := h.cap
  have HY := Lib.hid (fun k hk => apart_yes (p := p) (lo := lo) (hi := hi) (n := n) (k := k) hk)
  have HNO := Lib.hid (fun k hk => apart_no (p := p) (lo := lo) (hi := hi) (n := n) (k := k) hk)
  have HNP := Lib.hid (fun k hk => apart_np (p := p) (lo := lo) (hi := hi) (n := n) (k := k) hk)
  clear h HF HR
  go_enter Tryz.func121, Tryz.ntmps121
  go_wp2
  go_loopw [7, 14] (fun la t wr => ∃ k : Nat, k ≤ n ∧ t = .int .i64 k ∧ la = .int .i64 (lastI hi k) ∧ Below w.heap.size w wr ∧ apartB k p lo hi = true) (fun _ t _ => n - (intOf t).toNat)
  case atStart => exact ⟨0, Nat.zero_le _, rfl, rfl, Below.refl _ _, rfl⟩
  case round =>
    obtain ⟨k, hk, rfl, rfl, hb, he⟩ := hrel
    have HE := Lib.hid he
    have HB := Lib.hid hb
    clear he hb
    by_cases hlt : k < n
    · obtain ⟨ad, rfl⟩ : ∃ ad, A = some ad := by
        cases A with
        | none => have := (H.out.nil rfl).1; omega
        | some ad => exact ⟨ad, rfl⟩
      obtain ⟨b, o, rfl⟩ := H.out.plain (by omega) rfl
      have hg := (H.out.below HB.out (fun _ h => h)).get k hlt
      have c0 := hg 0 _ rfl
      have c1 := hg 1 _ rfl
      have c2 := hg 2 _ rfl
      simp only [Nat.add_zero] at c0
      clear hg
      have HBX := Lib.hid (HB.out.alloc HB.out.size (.cells (slA (ss.getD k noSl)) 112))
      have HSX := Lib.hid (Bx.new wr (slA (ss.getD k noSl)) 112)
      have HC := Lib.hid (HP.out k (wr.alloc (.cells (slA (ss.getD k noSl)) 112)) hlt HBX.out)
      have HR := Lib.hid (fun (h : p k = true) (X : World) (hX : Below w.heap.size w X) => HQ.out k X hlt h hX)
      have HS := Lib.hid (fun h => (apart_succ (p := p) (lo := lo) (hi := hi) (k := k) h))
      have HN1 := Lib.hid (HNP.out k hlt)
      have HN2 := Lib.hid (HNO.out k hlt)
      have HE2 := Lib.hid HE.out
      have HLS := Lib.hid (show lastI hi (k + 1) = hi k from rfl)
      generalize ss.getD k noSl = s at *
      have x0 := HSX.out.c 0
      have x1 := HSX.out.c 1
      have x2 := HSX.out.c 2
      simp only [List.getElem?_toArray, List.getElem?_cons_succ, List.getElem?_cons_zero] at x0 x1 x2
      generalize lastI hi k = la at *
      generalize lo k = lk at *
      generalize hi k = hk' at *
      generalize p k = pk at *
      cases pk
      · go_wp2_with (with_reducible refine (HC.out).mono ?_; rintro e w2 ⟨rfl, hb2⟩; have HB2 := Lib.hid (HBX.out.trans (hb2.mono HBX.out.size)); clear hb2)
        first | go_ret | skip
        exact ⟨ret_eq (HN1.out (by first | trivial | rfl)) rfl, HB2.out⟩
      · by_cases hlo : lk < la
        · go_wp2_with (first
            | (with_reducible refine (HC.out).mono ?_; rintro e w2 ⟨rfl, hb2⟩; have HB2 := Lib.hid (HBX.out.trans (hb2.mono HBX.out.size)); have HSX2 := Lib.hid (HSX.out.below hb2); have y0 := HSX2.out.c 0; have y1 := HSX2.out.c 1; have y2 := HSX2.out.c 2; simp only [List.getElem?_toArray, List.getElem?_cons_succ, List.getElem?_cons_zero] at y0 y1 y2; clear hb2)
            | (with_reducible refine (HR.out (by first | trivial | rfl) _ HB2.out).mono ?_; rintro e w3 ⟨rfl, hb3⟩; have HB3 := Lib.hid (HB2.out.trans (hb3.mono HB2.out.size)); clear hb3))
          first | go_ret | skip
          exact ⟨ret_eq (HN2.out hlo) rfl, HB3.out⟩
        · have hlo' : la ≤ lk := by omega
          go_wp2_with (first
            | (with_reducible refine (HC.out).mono ?_; rintro e w2 ⟨rfl, hb2⟩; have HB2 := Lib.hid (HBX.out.trans (hb2.mono HBX.out.size)); have HSX2 := Lib.hid (HSX.out.below hb2); have y0 := HSX2.out.c 0; have y1 := HSX2.out.c 1; have y2 := HSX2.out.c 2; simp only [List.getElem?_toArray, List.getElem?_cons_succ, List.getElem?_cons_zero] at y0 y1 y2; clear hb2)
            | (with_reducible refine (HR.out (by first | trivial | rfl) _ HB2.out).mono ?_; rintro e w3 ⟨rfl, hb3⟩; have HB3 := Lib.hid (HB2.out.trans (hb3.mono HB2.out.size)); clear hb3))
          go_roundw
          case rel => exact ⟨k + 1, by omega, by go_num, by rw [HLS.out], HB3.out, HS.out ⟨HE2.out, (by first | trivial | rfl), hlo'⟩⟩
          case measure => simp [intOf]; omega
    · obtain rfl : k = n := by omega
      go_wp2
      first | go_ret | skip
      exact ⟨ret_eq HE.out rfl, HB.out⟩
end Go.Proofs.YtfljignkjmabpaaGreat

namespace Go.Proofs.YtfljignkjmabpaaGreat
set_option maxRecDepth 100000
set_option linter.unusedSimpArgs false
set_option linter.unusedVariables false
open Go.RowKit

theorem wrap_in {n : Int} (h1 : -9223372036854775808 ≤ n) (h2 : n ≤ 9223372036854775807) : wrap64 n = n := IntWalk.wrap64_in _ ⟨h1, h2⟩
/-- A segment that may be, alone. -/
def segB (s : Sg) : Bool := withB s.at_ 0 65536 && (s.at_ % 64 == 0) && withB s.size 1 (65536 - s.at_) && decide ((s.bs.length : Int) ≤ s.size) && withB s.perm 0 7
def SegOk (s : Sg) : Prop := 0 ≤ s.at_ ∧ 1 ≤ s.size ∧ s.at_ + s.size ≤ 65536
theorem segB_ok {s : Sg} (h : segB s = true) : SegOk s := by
  unfold segB withB at h
  simp only [Bool.and_eq_true, decide_eq_true_eq] at h
  unfold SegOk
  omega
def permB (p q : Int) : Bool := bits .and .i64 p q == q
def standB (l : List Sg) (a n p : Int) : Bool := l.any fun s => permB s.perm p && withB a s.at_ (s.at_ + s.size - n)
theorem has1_any (s : Sg) (q : Option Addr × Nat) (gp ga gn : Nat) (a n p : Int) (w : World) (hs : SegOk s) (hn : 0 ≤ n) (hn' : n ≤ 9223372036854775807)
    (h1 : w.cell? ⟨gp, 0, none⟩ = some (.int .i64 p)) (h2 : w.cell? ⟨ga, 0, none⟩ = some (.int .i64 a)) (h3 : w.cell? ⟨gn, 0, none⟩ = some (.int .i64 n)) :
    Calls Tryz.prog 186 #[.agg (sgA s q), .pointer (some ⟨gp, 0, none⟩), .pointer (some ⟨ga, 0, none⟩), .pointer (some ⟨gn, 0, none⟩)] w
      fun e w' => e = .returned (.bool (permB s.perm p && withB a s.at_ (s.at_ + s.size - n))) ∧ Below w.heap.size w w' := by
  have HB := Lib.hid ((Below.refl w.heap.size w).alloc (Nat.le_refl _) (.cells (sgA s q) 61))
  have hx := Bx.new w (sgA s q) 61
  have x0 := hx.c 0
  have x1 := hx.c 1
  have x3 := hx.c 3
  simp only [List.getElem?_toArray, List.getElem?_cons_succ, List.getElem?_cons_zero] at x0 x1 x3
  have y1 := cell_below HB.out h1
  have y2 := cell_below HB.out h2
  have y3 := cell_below HB.out h3
  have e1 : wrap64 (s.at_ + s.size) = s.at_ + s.size := by unfold SegOk at hs; exact wrap_in (by omega) (by omega)
  have e2 : wrap64 (s.at_ + s.size - n) = s.at_ + s.size - n := by unfold SegOk at hs; exact wrap_in (by omega) (by omega)
  have HW := Lib.hid (fun X => within_any a s.at_ (s.at_ + s.size - n) X)
  have HPB := Lib.hid (show permB s.perm p = (bits .and .i64 s.perm p == p) from rfl)
  generalize withB a s.at_ (s.at_ + s.size - n) = b2 at *
  clear hx h1 h2 h3 hs hn hn'
  go_enter Tryz.func186, Tryz.ntmps186
  go_upto_region 1 with (fail)
  change Code.wp _ _ _ _ (w.alloc (.cells (sgA s q) 61))
  generalize w.alloc (.cells (sgA s q) 61) = w1 at *
  go_wp2_with (go_at_call 100; refine (HW.out _).mono ?_; rintro e w2 ⟨rfl, rfl⟩)
  all_goals
    go_ret
    refine ⟨?_, HB.out⟩
    rw [HPB.out]
    simp [*]
theorem has_img (p : Pl) (x : Im) (a n q : Int) (w : World) (h : ImIn w (fun k => k < w.heap.size) p x) (hf : Long x.segs.length) (hs : ∀ s ∈ x.segs, SegOk s) (hn : 0 ≤ n) (hn' : n ≤ 9223372036854775807) :
    Calls Tryz.prog 124 #[imV p x, .int .i64 a, .int .i64 n, .int .i64 q] w fun e w' => e = .returned (.bool (standB x.segs a n q)) ∧ Below w.heap.size w w' := by
  have hb1 := ibox_below w p x
  have hx1 := Ix.new w p x
  generalize hw1 : w.alloc (.cells (imA p x) 40) = w1 at *
  have hb2 := (Below.refl w1.heap.size w1).alloc (Nat.le_refl _) (.cells #[.int .i64 a] 3)
  have hx2 := Bx.new w1 #[.int .i64 a] 3
  generalize hw2 : w1.alloc (.cells #[.int .i64 a] 3) = w2 at *
  have hb3 := (Below.refl w2.heap.size w2).alloc (Nat.le_refl _) (.cells #[.int .i64 n] 3)
  have hx3 := Bx.new w2 #[.int .i64 n] 3
  generalize hw3 : w2.alloc (.cells #[.int .i64 n] 3) = w3 at *
  have hb4 := (Below.refl w3.heap.size w3).alloc (Nat.le_refl _) (.cells #[.int .i64 q] 59)
  have hx4 := Bx.new w3 #[.int .i64 q] 59
  generalize hw4 : w3.alloc (.cells #[.int .i64 q] 59) = w4 at *
  have z1 : w1.heap.size = w.heap.size + 1 := by rw [← hw1]; simp
  have z2 : w2.heap.size = w.heap.size + 2 := by rw [← hw2]; simp [z1]
  have z3 : w3.heap.size = w.heap.size + 3 := by rw [← hw3]; simp [z2]
  have HB := Lib.hid (hb1.trans (((hb2.trans ((hb3.trans (hb4.mono (by omega))).mono (by omega)))).mono (by omega)))
  have x1 : Ix w4 w.heap.size p x := ((hx1.below hb2).below hb3).below hb4
  have x2 := ((hx2.below hb3).below hb4)
  have x3 := hx3.below hb4
  obtain ⟨hl, B, hE, -⟩ := (h.lt HB.out).segs
  have HC := Lib.hid (cfSeg_any p.sg.1 x.segs.length p.sg.2 x.segs B 186 #[.pointer (some ⟨w3.heap.size, 0, none⟩), .pointer (some ⟨w1.heap.size, 0, none⟩), .pointer (some ⟨w2.heap.size, 0, none⟩)]
    (fun k => permB (x.segs.getD k noSg).perm q && withB a (x.segs.getD k noSg).at_ ((x.segs.getD k noSg).at_ + (x.segs.getD k noSg).size - n)) w4 hE (by unfold Long at hf; omega) (fun _ _ => by go_simp)
    (fun k X hk hX => has1_any _ _ _ _ _ a n q X (hs _ (getD_mem hk)) hn hn' ((hx4.below hX).c 0) ((x2.below hX).c 0) ((x3.below hX).c 0)))
  rw [range_any x.segs noSg (fun s => permB s.perm q && withB a s.at_ (s.at_ + s.size - n))] at HC
  have HF := Lib.hid (show standB x.segs a n q = x.segs.any (fun s => permB s.perm q && withB a s.at_ (s.at_ + s.size - n)) from rfl)
  obtain ⟨-, -, c2, -⟩ := x1.cells
  clear h hf hs hn hn' hb1 hb2 hb3 hb4 hx1 hx2 hx3 hx4 x1 x2 x3 hE hl
  rw [z1, z2, z3] at HC
  go_enter Tryz.func124, Tryz.ntmps124
  go_upto_region 1 with (fail)
  go_upto_region 99 with (go_at_call 185; refine (HC.out).mono ?_; rintro e w5 ⟨rfl, hb5⟩)
  first | go_ret | skip
  exact ⟨by rw [HF.out]; rfl, HB.out.trans (hb5.mono HB.out.size)⟩
def tlsB (x : Im) : Bool := withB x.tlsSize 0 4096 && decide ((x.tls.length : Int) ≤ x.tlsSize)
theorem tls_any (p : Pl) (x : Im) (w : World) (hf : Long x.tls.length) :
    Calls Tryz.prog 30 #[imV p x] w fun e w' => e = .returned (.bool (tlsB x)) ∧ Below w.heap.size w w' := by
  have HB := Lib.hid (ibox_below w p x)
  obtain ⟨-, -, -, -, -, -, -, -, -, -, -, -, -, c13, c14⟩ := (Ix.new w p x).cells
  have HW := Lib.hid (fun X => within_any x.tlsSize 0 4096 X)
  have HF := Lib.hid (show tlsB x = (withB x.tlsSize 0 4096 && decide ((x.tls.length : Int) ≤ x.tlsSize)) from rfl)
  generalize withB x.tlsSize 0 4096 = b1 at *
  unfold Long at hf
  go_enter Tryz.func30, Tryz.ntmps30
  go_upto_region 1 with (fail)
  change Code.wp _ _ _ _ (w.alloc (.cells (imA p x) 40))
  generalize w.alloc (.cells (imA p x) 40) = w1 at *
  go_wp2_with (go_at_call 100; refine (HW.out _).mono ?_; rintro e w2 ⟨rfl, rfl⟩)
  all_goals
    go_ret
    refine ⟨?_, HB.out⟩
    rw [HF.out]
    simp [*]
def upI (n : Int) : Int := (n + 63) / 64 * 64
theorem roundUp_any (n : Int) (w : World) (h0 : 0 ≤ n) (h1 : n ≤ 65536) : Calls Tryz.prog 104 #[.int .i64 n] w fun e w' => e = .returned (.int .i64 (upI n)) ∧ w = w' := by
  have e1 : wrap64 (n + 64) = n + 64 := wrap_in (by omega) (by omega)
  have e2 : wrap64 (n + 64 - 1) = n + 63 := by rw [wrap_in (by omega) (by omega)]; omega
  have e3 : Int.tdiv (n + 63) 64 = (n + 63) / 64 := Int.tdiv_eq_ediv_of_nonneg (by omega)
  have e4 : wrap64 ((n + 63) / 64) = (n + 63) / 64 := wrap_in (by omega) (by omega)
  have e5 : wrap64 ((n + 63) / 64 * 64) = upI n := by rw [wrap_in (by omega) (by omega)]; rfl
  go_enter Tryz.func104, Tryz.ntmps104
  go_wp2_with (fail)
  go_ret
  refine ⟨?_, rfl⟩
  unfold upI
  rw [show n + 63 = n + 64 - 1 by omega]
  rfl
theorem isSeg_any (s : Sg) (q : Option Addr × Nat) (w : World) (hf : I64 s.at_ ∧ I64 s.size ∧ I64 s.perm ∧ Long s.bs.length) :
    Calls Tryz.prog 106 #[.agg (sgA s q)] w fun e w' => e = .returned (.bool (segB s)) ∧ Below w.heap.size w w' := by
  have HB := Lib.hid ((Below.refl w.heap.size w).alloc (Nat.le_refl _) (.cells (sgA s q) 61))
  have hx := Bx.new w (sgA s q) 61
  have x0 := hx.c 0
  have x1 := hx.c 1
  have x2 := hx.c 2
  have x3 := hx.c 3
  simp only [List.getElem?_toArray, List.getElem?_cons_succ, List.getElem?_cons_zero] at x0 x1 x2 x3
  have HW1 := Lib.hid (fun X => within_any s.at_ 0 65536 X)
  have HW2 := Lib.hid (fun X => within_any s.size 1 (65536 - s.at_) X)
  have HW3 := Lib.hid (fun X => within_any s.perm 0 7 X)
  have HF := Lib.hid (show segB s = (withB s.at_ 0 65536 && (s.at_ % 64 == 0) && withB s.size 1 (65536 - s.at_) && decide ((s.bs.length : Int) ≤ s.size) && withB s.perm 0 7) from rfl)
  unfold I64 Long at hf
  obtain ⟨h1, h2, h3, h4⟩ := hf
  clear hx
  by_cases hw : withB s.at_ 0 65536 = true
  · have hb := hw
    unfold withB at hb
    simp only [Bool.and_eq_true, decide_eq_true_eq] at hb
    have e1 : wrap64 (65536 - s.at_) = 65536 - s.at_ := wrap_in (by omega) (by omega)
    rw [hw] at HW1 HF
    clear hw
    generalize withB s.size 1 (65536 - s.at_) = b2 at *
    generalize withB s.perm 0 7 = b3 at *
    go_enter Tryz.func106, Tryz.ntmps106
    go_upto_region 1 with (fail)
    change Code.wp _ _ _ _ (w.alloc (.cells (sgA s q) 61))
    generalize w.alloc (.cells (sgA s q) 61) = w1 at *
    go_wp2_with (first
      | (go_at_call 100; with_reducible refine (HW1.out _).mono ?_; rintro e w2 ⟨rfl, rfl⟩)
      | (go_at_call 100; with_reducible refine (HW2.out _).mono ?_; rintro e w2 ⟨rfl, rfl⟩)
      | (go_at_call 100; with_reducible refine (HW3.out _).mono ?_; rintro e w2 ⟨rfl, rfl⟩))
    all_goals
      go_ret
      refine ⟨?_, HB.out⟩
      rw [HF.out]
      simp [*] <;> (intros; omega)
  · have hw' : withB s.at_ 0 65536 = false := by simpa using hw
    rw [hw'] at HW1 HF
    clear hw
    go_enter Tryz.func106, Tryz.ntmps106
    go_upto_region 1 with (fail)
    change Code.wp _ _ _ _ (w.alloc (.cells (sgA s q) 61))
    generalize w.alloc (.cells (sgA s q) 61) = w1 at *
    go_wp2_with (first
      | (go_at_call 100; with_reducible refine (HW1.out _).mono ?_; rintro e w2 ⟨rfl, rfl⟩))
    all_goals
      go_ret
      refine ⟨?_, HB.out⟩
      rw [HF.out]
      simp
set_option maxHeartbeats 1000000 in
theorem seg_range_any (s : Sg) (q : Option Addr × Nat) (w : World) (hs : SegOk s) :
    Calls Tryz.prog 103 #[.agg (sgA s q)] w fun e w' => e = .returned (.tuple #[.int .i64 s.at_, .int .i64 (upI (s.at_ + s.size))]) ∧ Below w.heap.size w w' := by
  have HB := Lib.hid ((Below.refl w.heap.size w).alloc (Nat.le_refl _) (.cells (sgA s q) 61))
  have hx := Bx.new w (sgA s q) 61
  have x0 := hx.c 0
  have x1 := hx.c 1
  simp only [List.getElem?_toArray, List.getElem?_cons_succ, List.getElem?_cons_zero] at x0 x1
  have e1 : wrap64 (s.at_ + s.size) = s.at_ + s.size := by unfold SegOk at hs; exact wrap_in (by omega) (by omega)
  have e2 : IntKind.i64.wrap (s.at_ + s.size) = s.at_ + s.size := (wrap_i64 _).trans e1
  have HR := Lib.hid (fun X => roundUp_any (s.at_ + s.size) X (by unfold SegOk at hs; omega) (by unfold SegOk at hs; omega))
  generalize upI (s.at_ + s.size) = u at *
  clear hs hx
  go_enter Tryz.func103, Tryz.ntmps103
  go_upto_region 1 with (fail)
  change Code.wp _ _ _ _ (w.alloc (.cells (sgA s q) 61))
  generalize w.alloc (.cells (sgA s q) 61) = w1 at *
  refine wp_region_still_lit (by kernel_rfl) (by kernel_rfl) ?_
  repeat still_step
  still_call ((HR.out _).mono fun e w' h => ⟨h.1, h.2.symm⟩)
  repeat still_step
  refine wpStill_nil ?_
  go_wp2_with fail
  first | go_ret2 | go_ret | skip
  exact ⟨rfl, HB.out.trans ((drew_below w1).mono HB.out.size)⟩
def segsB (l : List Sg) : Bool := withB (l.length : Int) 1 8 && apartB l.length (fun k => segB (l.getD k noSg)) (fun k => (l.getD k noSg).at_) (fun k => upI ((l.getD k noSg).at_ + (l.getD k noSg).size))
theorem segs_ok {l : List Sg} (h : segsB l = true) : ∀ s ∈ l, SegOk s := by
  intro s hs
  unfold segsB at h
  simp only [Bool.and_eq_true] at h
  obtain ⟨k, hk, rfl⟩ := List.getElem_of_mem hs
  have := apart_yes hk h.2
  simp only [List.getD_eq_getElem?_getD, List.getElem?_eq_getElem hk, Option.getD_some] at this
  exact segB_ok this
theorem segs_any (A : Option Addr) (c : Nat) (l : List Sg) (w : World) (h : Sgs w (fun k => k < w.heap.size) A l.length c l) (hl : Long l.length) (hs : ∀ s ∈ l, I64 s.at_ ∧ I64 s.size ∧ I64 s.perm ∧ Long s.bs.length) :
    Calls Tryz.prog 29 #[.slice A l.length c] w fun e w' => e = .returned (.bool (segsB l)) ∧ Below w.heap.size w w' := by
  obtain ⟨-, B, h1, -⟩ := h
  have HA := Lib.hid (apartSeg_any A l.length c l B 106 103 #[] #[] (fun k => segB (l.getD k noSg)) (fun k => (l.getD k noSg).at_) (fun k => upI ((l.getD k noSg).at_ + (l.getD k noSg).size)) w h1 (by unfold Long at hl; omega) (fun _ _ => by go_simp) (fun _ _ => by go_simp)
    (fun k X hk hX => isSeg_any _ _ X (hs _ (getD_mem hk))) (fun k X hk hp hX => seg_range_any _ _ X (segB_ok hp)))
  have HW := Lib.hid (fun X => within_any (l.length : Int) 1 8 X)
  have HF := Lib.hid (show segsB l = (withB (l.length : Int) 1 8 && apartB l.length (fun k => segB (l.getD k noSg)) (fun k => (l.getD k noSg).at_) (fun k => upI ((l.getD k noSg).at_ + (l.getD k noSg).size))) from rfl)
  generalize apartB l.length (fun k => segB (l.getD k noSg)) (fun k => (l.getD k noSg).at_) (fun k => upI ((l.getD k noSg).at_ + (l.getD k noSg).size)) = b2 at *
  generalize withB (l.length : Int) 1 8 = b1 at *
  unfold Long at hl
  clear h1 hs
  go_enter Tryz.func29, Tryz.ntmps29
  go_wp2_with (first
    | (go_at_call 100; with_reducible refine (HW.out _).mono ?_; rintro e w2 ⟨rfl, rfl⟩)
    | (go_at_call 105; with_reducible refine (HA.out).mono ?_; rintro e w2 ⟨rfl, hb2⟩))
  all_goals
    go_ret
    rw [HF.out]
    first
      | (refine ⟨?_, hb2⟩; simp [*])
      | (refine ⟨?_, Below.refl _ _⟩; simp [*])
end Go.Proofs.YtfljignkjmabpaaGreat

namespace Go.Proofs.YtfljignkjmabpaaGreat
set_option maxRecDepth 100000
set_option linter.unusedSimpArgs false
set_option linter.unusedVariables false
open Go.RowKit

def clashB (s e : Sym) : Bool := e.dfd && s.dfd && decide (e.name = s.name) && (decide (e.ver = s.ver) || (!e.old && !s.old))
set_option maxHeartbeats 1000000 in
theorem clash1_any (s e : Sym) (g : Nat) (w : World) (h : Sx w g s) :
    Calls Tryz.prog 169 #[symV e, .pointer (some ⟨g, 0, none⟩)] w fun en w' => en = .returned (.bool (clashB s e)) ∧ Below w.heap.size w w' := by
  have HB := Lib.hid (box_below w e)
  obtain ⟨c0, c1, c2, -, -, -, c6, -, -⟩ := (Sx.new w e).cells
  obtain ⟨e0, e1, e2, -, -, -, e6, -, -⟩ := (h.below HB.out).cells
  have HF := Lib.hid (show clashB s e = (e.dfd && s.dfd && decide (e.name = s.name) && (decide (e.ver = s.ver) || (!e.old && !s.old))) from rfl)
  obtain ⟨en, ev, eo, ek, ew, evs, ed, evl, es⟩ := e
  obtain ⟨sn, sv, so, sk, sw, svs, sd, svl, ss⟩ := s
  simp only at c0 c1 c2 c6 e0 e1 e2 e6 HF
  clear h
  go_enter Tryz.func169, Tryz.ntmps169
  go_upto_region 1 with (fail)
  change Code.wp _ _ _ _ (w.alloc (.cells (symA _) 105))
  generalize w.alloc (.cells (symA ⟨en, ev, eo, ek, ew, evs, ed, evl, es⟩) 105) = w1 at *
  cases ed
  · go_wp2_with fail
    all_goals
      go_ret
      refine ⟨ret_bool ?_, HB.out⟩
      rw [HF.out]
      simp [*]
  cases sd
  · go_wp2_with fail
    all_goals
      go_ret
      refine ⟨ret_bool ?_, HB.out⟩
      rw [HF.out]
      simp [*]
  by_cases hn : en = sn
  · subst hn
    by_cases hv : ev = sv
    · subst hv
      go_wp2_with fail
      all_goals
        go_ret
        refine ⟨ret_bool ?_, HB.out⟩
        rw [HF.out]
        simp [*]
    · cases eo <;> cases so
      all_goals
        go_wp2_with fail
        all_goals
          go_ret
          refine ⟨ret_bool ?_, HB.out⟩
          rw [HF.out]
          simp [*]
  · go_wp2_with fail
    all_goals
      go_ret
      refine ⟨ret_bool ?_, HB.out⟩
      rw [HF.out]
      simp [*]
theorem clashes_any (s : Sym) (A : Option Addr) (c : Nat) (l : List Sym) (w : World) (h : Syl w (fun k => k < w.heap.size) A l.length c l) (hl : l.length ≤ 4611686018427387904) :
    Calls Tryz.prog 108 #[symV s, .slice A l.length c] w fun e w' => e = .returned (.bool (l.any (clashB s))) ∧ Below w.heap.size w w' := by
  have hB := box_below w s
  have hX := Sx.new w s
  have HC := Lib.hid (cfSym_any A l.length c l 169 #[.pointer (some ⟨w.heap.size, 0, none⟩)] (fun k => clashB s (l.getD k noSy)) (w.alloc (.cells (symA s) 105)) (h.els.lt hB) hl (fun _ _ => by go_simp)
    (fun k X hk hX' => clash1_any s _ _ X (hX.below hX')))
  rw [range_any l noSy (clashB s)] at HC
  have HB := Lib.hid hB
  generalize l.any (clashB s) = b at *
  clear h hB hX
  go_enter Tryz.func108, Tryz.ntmps108
  go_upto_region 99 with (go_at_call 168; refine (HC.out).mono ?_; rintro e w2 ⟨rfl, hb2⟩)
  first | go_ret | skip
  exact ⟨rfl, HB.out.trans (hb2.mono HB.out.size)⟩
def symB (x : Im) (s : Sym) : Bool := rightB s && (!s.dfd || (if s.kind = 3 then withB s.val 0 (x.tlsSize - s.size) else standB x.segs s.val s.size 0))
theorem right_size {s : Sym} (h : rightB s = true) : 0 ≤ s.val ∧ 0 ≤ s.size := by
  unfold rightB fieldsB at h
  simp only [Bool.and_eq_true, decide_eq_true_eq] at h
  omega
set_option maxHeartbeats 2000000 in
theorem isSym_any (p : Pl) (x : Im) (s : Sym) (w : World) (h : ImIn w (fun k => k < w.heap.size) p x) (hf : Long x.segs.length) (hs : ∀ s ∈ x.segs, SegOk s) (ht : 0 ≤ x.tlsSize ∧ x.tlsSize ≤ 4096) (hz : I64 s.size) :
    Calls Tryz.prog 107 #[imV p x, symV s] w fun e w' => e = .returned (.bool (symB x s)) ∧ Below w.heap.size w w' := by
  have hb1 := ibox_below w p x
  have hx1 := Ix.new w p x
  generalize hw1 : w.alloc (.cells (imA p x) 40) = w1 at *
  have hb2 := box_below w1 s
  have hx2 := Sx.new w1 s
  generalize hw2 : w1.alloc (.cells (symA s) 105) = w2 at *
  have z1 : w1.heap.size = w.heap.size + 1 := by rw [← hw1]; simp
  have HB := Lib.hid (hb1.trans (hb2.mono (by omega)))
  have HX := Lib.hid (hx1.below hb2)
  rw [z1] at hx2
  have HS := Lib.hid hx2
  have HR := Lib.hid (right_any s w2)
  have HF := Lib.hid (show symB x s = (rightB s && (!s.dfd || (if s.kind = 3 then withB s.val 0 (x.tlsSize - s.size) else standB x.segs s.val s.size 0))) from rfl)
  obtain ⟨d0, d1, d2, d3, d4, d5, d6, d7, d8⟩ := HS.out.cells
  by_cases hr : rightB s = true
  · have hsz := right_size hr
    unfold I64 at hz
    have HH := Lib.hid (fun (X : World) (hX : Below w.heap.size w X) => has_img p x s.val s.size 0 X (h.lt hX) hf hs hsz.2 hz.2)
    have HW := Lib.hid (fun X => within_any s.val 0 (x.tlsSize - s.size) X)
    have e1 : wrap64 (x.tlsSize - s.size) = x.tlsSize - s.size := wrap_in (by omega) (by omega)
    rw [hr] at HF
    rw [show okV (rightB s) = .int .i64 0 by rw [hr]; rfl] at HR
    generalize withB s.val 0 (x.tlsSize - s.size) = b1 at *
    generalize standB x.segs s.val s.size 0 = b2 at *
    clear hr h hf hs ht hz hsz hb1 hb2 hx1 hx2
    obtain ⟨sn, sv, so, sk, sw, svs, sd, svl, ss⟩ := s
    simp only at d0 d1 d2 d3 d4 d5 d6 d7 d8 HF
    go_enter Tryz.func107, Tryz.ntmps107
    cases sd
    · go_wp2_with (go_at_call 167; refine HR.out.mono ?_; rintro e w3 ⟨rfl, hb3⟩; have HB3 := Lib.hid (HB.out.trans (hb3.mono HB.out.size)); obtain ⟨c0, c1, c2, c3, c4, c5, c6, c7, c8, c9, c10, c11, c12, c13, c14⟩ := (HX.out.below hb3).cells; obtain ⟨e0, e1', e2, e3, e4, e5, e6, e7, e8⟩ := (HS.out.below hb3).cells; simp only at e3 e6 e7 e8; clear hb3)
      go_ret
      exact ⟨by rw [HF.out]; rfl, HB3.out⟩
    · by_cases hk : sk = 3
      · subst hk
        go_wp2_with (first
          | (go_at_call 167; refine HR.out.mono ?_; rintro e w3 ⟨rfl, hb3⟩; have HB3 := Lib.hid (HB.out.trans (hb3.mono HB.out.size)); obtain ⟨c0, c1, c2, c3, c4, c5, c6, c7, c8, c9, c10, c11, c12, c13, c14⟩ := (HX.out.below hb3).cells; obtain ⟨e0, e1', e2, e3, e4, e5, e6, e7, e8⟩ := (HS.out.below hb3).cells; simp only at e3 e6 e7 e8; clear hb3)
          | (go_at_call 100; with_reducible refine (HW.out _).mono ?_; rintro e w2 ⟨rfl, rfl⟩))
        go_ret
        exact ⟨by rw [HF.out]; rfl, HB3.out⟩
      · go_wp2_with (first
          | (go_at_call 167; refine HR.out.mono ?_; rintro e w3 ⟨rfl, hb3⟩; have HB3 := Lib.hid (HB.out.trans (hb3.mono HB.out.size)); obtain ⟨c0, c1, c2, c3, c4, c5, c6, c7, c8, c9, c10, c11, c12, c13, c14⟩ := (HX.out.below hb3).cells; obtain ⟨e0, e1', e2, e3, e4, e5, e6, e7, e8⟩ := (HS.out.below hb3).cells; simp only at e3 e6 e7 e8; clear hb3)
          | (go_at_call 124; with_reducible refine (HH.out _ HB3.out).mono ?_; rintro e w4 ⟨rfl, hb4⟩))
        go_ret
        exact ⟨by rw [HF.out]; simp [hk], HB3.out.trans (hb4.mono HB3.out.size)⟩
  · have hr' : rightB s = false := by simpa using hr
    rw [hr'] at HF
    rw [show okV (rightB s) = .int .i64 70 by rw [hr']; rfl] at HR
    clear hr h hf hs ht hz hb1 hb2 hx1 hx2
    go_enter Tryz.func107, Tryz.ntmps107
    go_wp2_with (go_at_call 167; refine HR.out.mono ?_; rintro e w3 ⟨rfl, hb3⟩)
    go_ret
    exact ⟨by rw [HF.out]; rfl, HB.out.trans (hb3.mono HB.out.size)⟩
end Go.Proofs.YtfljignkjmabpaaGreat
