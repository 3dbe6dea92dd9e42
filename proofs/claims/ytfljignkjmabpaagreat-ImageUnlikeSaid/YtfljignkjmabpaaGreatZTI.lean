/-
  All symbols of an image.
  Right: whether a table is right for symbols.
  Right: the filter's side, and all.
  Right, whole.
-/
import Derived.Test.YtfljignkjmabpaaGreatZF
import Derived.Test.YtfljignkjmabpaaGreatZA
namespace Go.Proofs.YtfljignkjmabpaaGreat
set_option maxRecDepth 100000
set_option linter.unusedSimpArgs false
set_option linter.unusedVariables false
open Go.RowKit

def symAt (x : Im) (k : Nat) : Bool := symB x (x.syms.getD k noSy) && !(x.syms.take k).any (clashB (x.syms.getD k noSy))
def symsB (x : Im) : Bool := decide (x.syms.length ≤ 512) && (List.range x.syms.length).all (symAt x)
theorem syms_step {x : Im} {k : Nat} (h : (List.range k).all (symAt x) = true) (h1 : symAt x k = true) : (List.range (k + 1)).all (symAt x) = true := by
  rw [List.range_succ, List.all_append, h]
  simp [h1]
theorem syms_no {x : Im} {k : Nat} (hk : k < x.syms.length) (h1 : symAt x k = false) : symsB x = false := by
  unfold symsB
  rw [show (List.range x.syms.length).all (symAt x) = false from List.all_eq_false.2 ⟨k, List.mem_range.2 hk, by simp [h1]⟩, Bool.and_false]
theorem ret_bl' {x b : Bool} (h : x = b) : Ending.returned (Value.bool b) = .returned (.bool x) := by rw [h]
theorem Syl.front {w : World} {P : Nat → Prop} {A : Option Addr} {c : Nat} {l : List Sym} (h : Syl w P A l.length c l) (k : Nat) (hk : k ≤ l.length) : Syl w P A (l.take k).length c (l.take k) := by
  have hl : (l.take k).length = k := by rw [List.length_take]; omega
  refine ⟨rfl, fun hA => ?_, by have := h.cap; omega, fun ad hA h0 => h.blk ad hA (by omega), fun ad hA j hj i u hu => ?_⟩
  · have := h.nil hA
    omega
  · refine h.at_ ad hA j (by omega) i u ?_
    rw [← hu]
    simp
set_option maxHeartbeats 4000000 in
theorem syms_any (p : Pl) (x : Im) (w : World) (h : ImIn w (fun k => k < w.heap.size) p x) (hf : Fit x) (hs : ∀ s ∈ x.segs, SegOk s) (ht : 0 ≤ x.tlsSize ∧ x.tlsSize ≤ 4096) :
    Calls Tryz.prog 31 #[imV p x] w fun e w' => e = .returned (.bool (symsB x)) ∧ Below w.heap.size w w' := by
  obtain ⟨sg, nd, rp, ⟨sya, syc⟩, bk, fw, rl, sl, ini, fin, tl⟩ := p
  have hls := hf.syms
  unfold Long at hls
  have hb1 := ibox_below w ⟨sg, nd, rp, ⟨sya, syc⟩, bk, fw, rl, sl, ini, fin, tl⟩ x
  have hx1 := Ix.new w ⟨sg, nd, rp, ⟨sya, syc⟩, bk, fw, rl, sl, ini, fin, tl⟩ x
  have H := Lib.hid h
  have HSY := Lib.hid (fun (X : World) (hX : Below w.heap.size w X) k (hk : k < x.syms.length) => isSym_any _ x (x.syms.getD k noSy) X (h.lt hX) hf.segs hs ht (hf.sym _ (getD_mem hk)).2.2.2.2.2)
  have HCL := Lib.hid (fun (X : World) (hX : Below w.heap.size w X) k (hk : k < x.syms.length) => clashes_any (x.syms.getD k noSy) sya syc (x.syms.take k) X ((h.lt hX).syms.front k (by omega)) (by rw [List.length_take]; omega))
  clear h hf hs ht
  go_enter Tryz.func31, Tryz.ntmps31
  go_upto_region 1 with (fail)
  change Code.wp _ _ _ _ (w.alloc (.cells (imA ⟨sg, nd, rp, ⟨sya, syc⟩, bk, fw, rl, sl, ini, fin, tl⟩ x) 40))
  generalize w.alloc (.cells (imA ⟨sg, nd, rp, ⟨sya, syc⟩, bk, fw, rl, sl, ini, fin, tl⟩ x) 40) = w1 at *
  have HB1 := Lib.hid hb1
  have HX1 := Lib.hid hx1
  obtain ⟨-, -, -, -, -, c5, -⟩ := hx1.cells
  simp only at c5
  clear hb1 hx1
  by_cases hl : x.syms.length ≤ 512
  · have hl' : ¬ (512 : Int) < (x.syms.length : Int) := by omega
    go_wp2
    go_loopw [12] (fun t wr => ∃ k : Nat, k ≤ x.syms.length ∧ t = .int .i64 k ∧ Below w1.heap.size w1 wr ∧ (List.range k).all (symAt x) = true) (fun t _ => x.syms.length - (intOf t).toNat)
    case atStart => exact ⟨0, Nat.zero_le _, rfl, Below.refl _ _, rfl⟩
    case round =>
      obtain ⟨k, hk, rfl, hb, he⟩ := hrel
      have HE := Lib.hid he
      have HB := Lib.hid (HB1.out.trans (hb.mono HB1.out.size))
      have HBR := Lib.hid hb
      have HX := Lib.hid (HX1.out.below hb)
      clear he hb
      by_cases hlt : k < x.syms.length
      · obtain ⟨ad, rfl⟩ : ∃ ad, sya = some ad := by
          cases sya with
          | none => have := (H.out.syms.nil rfl).1; omega
          | some ad => exact ⟨ad, rfl⟩
        have HS := Lib.hid (H.out.lt HB.out).syms
        have hcap := HS.out.cap
        obtain ⟨b, o, rfl⟩ := HS.out.plain (by omega)
        have hg := HS.out.els.get k hlt
        have d0 := hg 0 _ rfl
        have d1 := hg 1 _ rfl
        have d2 := hg 2 _ rfl
        have d3 := hg 3 _ rfl
        have d4 := hg 4 _ rfl
        have d5 := hg 5 _ rfl
        have d6 := hg 6 _ rfl
        have d7 := hg 7 _ rfl
        have d8 := hg 8 _ rfl
        simp only [Nat.add_zero] at d0
        clear hg
        have HA := Lib.hid (show symAt x k = (symB x (x.syms.getD k noSy) && !(x.syms.take k).any (clashB (x.syms.getD k noSy))) from rfl)
        have HIS := Lib.hid (fun X hX => HSY.out X hX k hlt)
        have HIC := Lib.hid (fun X hX => HCL.out X hX k hlt)
        have HYE := Lib.hid (fun h => syms_step (x := x) (k := k) HE.out h)
        have HNO := Lib.hid (fun h => syms_no (x := x) (k := k) hlt h)
        rw [show (x.syms.take k).length = k by rw [List.length_take]; omega] at HIC
        generalize symAt x k = sa at *
        generalize (x.syms.take k).any (clashB (x.syms.getD k noSy)) = cb at *
        generalize symB x (x.syms.getD k noSy) = sb at *
        generalize x.syms.getD k noSy = s at *
        clear HSY HCL HE
        have HBX := Lib.hid (HB.out.trans (((Below.refl wr.heap.size wr).alloc (Nat.le_refl _) (.cells (symA s) 105)).mono HB.out.size))
        have HBX1 := Lib.hid (HBR.out.trans (((Below.refl wr.heap.size wr).alloc (Nat.le_refl _) (.cells (symA s) 105)).mono HBR.out.size))
        have HSX := Lib.hid (Sx.new wr s)
        have HXX := Lib.hid (HX.out.below ((Below.refl wr.heap.size wr).alloc (Nat.le_refl _) (.cells (symA s) 105)))
        go_upto_region 6 with (fail)
        change Code.wp _ _ _ _ (wr.alloc (.cells (symA s) 105))
        generalize wr.alloc (.cells (symA s) 105) = w2 at *
        obtain ⟨c0, c1, c2, c3, c4, c5', c6, c7, c8, c9, c10, c11, c12, c13, c14⟩ := HXX.out.cells
        obtain ⟨x0, x1, x2, x3, x4, x5, x6, x7, x8⟩ := HSX.out.cells
        have HBD := Lib.hid (HBX.out.trans ((drew_below w2).mono HBX.out.size))
        have HK := Lib.hid (fun (X : World) (hX : Below w2.heap.size w2 X) => (show Below w.heap.size w X ∧ Below w1.heap.size w1 X from ⟨HBX.out.trans (hX.mono HBX.out.size), HBX1.out.trans (hX.mono HBX1.out.size)⟩))
        simp only at c2 c3 c4 c5' c6 c7 c9 c10 c11 c12 c13
        have hk0 : (0 : Int) ≤ (k : Int) := by omega
        have hk1 : (k : Int) ≤ (syc : Int) := by simp only at hcap; omega
        cases sb
        · have HN := Lib.hid (HNO.out (by rw [HA.out]; rfl))
          clear HYE HNO HIC d0 d1 d2 d3 d4 d5 d6 d7 d8 HS
          first
            | (go_region_with (go_at_call 107; (with_reducible refine (HIS.out _ HBD.out).mono ?_); rintro e w3 ⟨rfl, hb3⟩))
            | fail
          all_goals
            go_wp2_with fail
            first | go_ret | skip
            exact ⟨ret_bl' HN.out, (HK.out _ ((drew_below w2).trans hb3)).1⟩
        · cases cb
          · have HN := Lib.hid (HYE.out (by rw [HA.out]; rfl))
            clear HYE HNO d0 d1 d2 d3 d4 d5 d6 d7 d8
            go_region_with (first
              | (go_at_call 107; (with_reducible refine (HIS.out _ HBD.out).mono ?_); rintro e w3 ⟨rfl, hb3⟩; obtain ⟨-, -, -, -, -, z5, -⟩ := (HXX.out.below ((drew_below w2).trans hb3)).cells; simp only at z5; obtain ⟨y0, y1, y2, y3, y4, y5, y6, y7, y8⟩ := (HSX.out.below ((drew_below w2).trans hb3)).cells; have HBW := Lib.hid ((drew_below w2).trans hb3); clear hb3)
              | (go_at_call 108; (with_reducible refine (HIC.out _ (HK.out _ HBW.out).1).mono ?_); rintro e w4 ⟨rfl, hb4⟩; have HBV := Lib.hid (HK.out _ (HBW.out.trans (hb4.mono HBW.out.size))); clear hb4))
            all_goals
              go_wp2_with fail
              go_roundw
              case rel => exact ⟨k + 1, by omega, by go_num, HBV.out.2, HN.out⟩
              case measure => simp [intOf]; omega
          · have HN := Lib.hid (HNO.out (by rw [HA.out]; rfl))
            clear HYE HNO d0 d1 d2 d3 d4 d5 d6 d7 d8
            go_region_with (first
              | (go_at_call 107; (with_reducible refine (HIS.out _ HBD.out).mono ?_); rintro e w3 ⟨rfl, hb3⟩; obtain ⟨-, -, -, -, -, z5, -⟩ := (HXX.out.below ((drew_below w2).trans hb3)).cells; simp only at z5; obtain ⟨y0, y1, y2, y3, y4, y5, y6, y7, y8⟩ := (HSX.out.below ((drew_below w2).trans hb3)).cells; have HBW := Lib.hid ((drew_below w2).trans hb3); clear hb3)
              | (go_at_call 108; (with_reducible refine (HIC.out _ (HK.out _ HBW.out).1).mono ?_); rintro e w4 ⟨rfl, hb4⟩; have HBV := Lib.hid (HK.out _ (HBW.out.trans (hb4.mono HBW.out.size))); clear hb4))
            all_goals
              go_wp2_with fail
              first | go_ret | skip
              exact ⟨ret_bl' HN.out, HBV.out.1⟩
      · obtain rfl : k = x.syms.length := by omega
        have HN := Lib.hid (show symsB x = true by unfold symsB; rw [HE.out]; simp [hl])
        go_wp2
        go_ret
        exact ⟨ret_bl' HN.out, HB.out⟩
  · have hl' : (512 : Int) < (x.syms.length : Int) := by omega
    have HN := Lib.hid (show symsB x = false by unfold symsB; simp [hl])
    go_wp2
    go_ret
    exact ⟨ret_bl' HN.out, HB1.out⟩
end Go.Proofs.YtfljignkjmabpaaGreat

namespace Go.Proofs.YtfljignkjmabpaaGreat
set_option maxRecDepth 100000
set_option linter.unusedSimpArgs false
set_option linter.unusedVariables false
open Go.RowKit

theorem il_get (l : List Int) (i : Nat) (hi : i < l.length) : (il l)[i]? = some (.int .i64 l[i]) := by simp [il, hi]
theorem eq_of_get {l m : List Int} (hlen : l.length = m.length) (h : ∀ z (h1 : z < l.length) (h2 : z < m.length), l[z] = m[z]) : l = m := List.ext_getElem hlen h
set_option maxRecDepth 100000 in
theorem equal_any {P Q : Nat → Prop} (A A' : Option Addr) (c c' : Nat) (l m : List Int) (w : World) (hx : Src w P A l.length c (il l)) (hy : Src w Q A' m.length c' (il m)) (hn : l.length ≤ 4611686018427387904) (hm : m.length ≤ 4611686018427387904) :
    Calls Tryz.prog 173 #[.slice A l.length c, .slice A' m.length c'] w fun e w' => e = .returned (.bool (decide (l = m))) ∧ Below w.heap.size w w' := by
  have HX := Lib.hid hx.lt
  have HY := Lib.hid hy.lt
  clear hx hy
  by_cases hlen : l.length = m.length
  · have HL := Lib.hid hlen
    have hle : ((l.length : Int) != (m.length : Int)) = false := by simp [hlen]
    have hxc := HX.out.cap
    have hyc := HY.out.cap
    clear hlen
    generalize hln : l.length = n at *
    generalize hmn : m.length = k at *
    obtain rfl : n = k := HL.out
    have HLN := Lib.hid hln
    have HMN := Lib.hid hmn
    clear hln hmn
    go_enter Tryz.func173, Tryz.ntmps173
    go_wp2
    go_loopw [13] (fun i wr => ∃ k j : Nat, k ≤ n ∧ i = .int .i64 k ∧ wr = w.drewN j ∧ ∀ z (h1 : z < l.length) (h2 : z < m.length), z < k → l[z] = m[z]) (fun i _ => n - (intOf i).toNat)
    case atStart => exact ⟨0, 0, Nat.zero_le _, rfl, rfl, by intro z _ _ hz; omega⟩
    case round =>
      obtain ⟨k, j, hk, rfl, rfl, he⟩ := hrel
      have HE := Lib.hid he
      clear he
      by_cases hlt : k < n
      · obtain ⟨ad, rfl⟩ : ∃ ad, A = some ad := by
          cases A with
          | none => have := (HX.out.nil rfl).1; omega
          | some ad => exact ⟨ad, rfl⟩
        obtain ⟨ad', rfl⟩ : ∃ ad', A' = some ad' := by
          cases A' with
          | none => have := (HY.out.nil rfl).1; omega
          | some ad => exact ⟨ad, rfl⟩
        have hk1 : k < l.length := by rw [HLN.out]; exact hlt
        have hk2 : k < m.length := by rw [HMN.out]; exact hlt
        have hx : w.cell? (ad.add k) = some (.int .i64 l[k]) := HX.out.at_ ad rfl k _ (il_get l k hk1)
        have hy : w.cell? (ad'.add k) = some (.int .i64 m[k]) := HY.out.at_ ad' rfl k _ (il_get m k hk2)
        have HK := Lib.hid (show l[k] = m[k] ↔ l[k] = m[k] from Iff.rfl)
        have HNE := Lib.hid (show l[k] ≠ m[k] → l ≠ m from fun h e => h (by subst e; rfl))
        have HNX := Lib.hid (show l[k] = m[k] → ∀ z (h1 : z < l.length) (h2 : z < m.length), z < k + 1 → l[z] = m[z] from fun h z h1 h2 hz => by
          by_cases hzk : z = k
          · subst hzk; exact h
          · exact HE.out z h1 h2 (by omega))
        clear HK
        generalize l[k] = x at *
        generalize m[k] = y at *
        clear hk1 hk2
        by_cases hxy : x = y
        · have HN := Lib.hid (HNX.out hxy)
          subst hxy
          go_wp2
          go_quiet (fail)
          go_wp2
          go_roundw
          case rel => exact ⟨k + 1, _, by omega, by go_num, rfl, HN.out⟩
          case measure => simp [intOf]; omega
        · have hne : (x != y) = true := by simpa using hxy
          have HN := Lib.hid (HNE.out hxy)
          clear hxy
          go_wp2
          go_quiet (fail)
          go_wp2
          first | go_ret | skip
          refine ⟨?_, below_drewN (drewN_below _ _) _⟩
          (rw [decide_eq_false HN.out]; try rfl)
      · obtain rfl : k = n := by omega
        have HN := Lib.hid (show l = m from eq_of_get (by rw [HLN.out, HMN.out]) fun z h1 h2 => HE.out z h1 h2 (by rw [HLN.out] at h1; omega))
        go_wp2
        first | go_ret | skip
        refine ⟨?_, drewN_below _ _⟩
        (rw [decide_eq_true HN.out]; try rfl)
  · have HN := Lib.hid (show l ≠ m from fun e => hlen (by rw [e]))
    have hle : ((l.length : Int) != (m.length : Int)) = true := by simp; omega
    go_enter Tryz.func173, Tryz.ntmps173
    go_wp2
    first | go_ret | skip
    refine ⟨?_, Below.refl _ _⟩
    (rw [decide_eq_false HN.out]; try rfl)
/-- Rows that are alike. -/
def rowsB (n m : Nat) (f g : Nat → List Int) : Bool := decide (n = m) && decide (∀ k, k < n → f k = g k)
theorem rows_no {n m : Nat} {f g : Nat → List Int} {k : Nat} (hk : k < n) (h : f k ≠ g k) : rowsB n m f g = false := by
  unfold rowsB
  rw [Bool.and_eq_false_iff]
  exact .inr (decide_eq_false fun e => h (e k hk))
theorem rows_yes {n : Nat} {f g : Nat → List Int} (h : ∀ k, k < n → f k = g k) : rowsB n n f g = true := by
  unfold rowsB
  rw [Bool.and_eq_true]
  exact ⟨decide_eq_true rfl, decide_eq_true h⟩
set_option maxRecDepth 100000 in
set_option maxHeartbeats 1000000 in
theorem equalFunc_any (A : Option Addr) (n c : Nat) (f : Nat → List Int) (B : Option Addr) (m d : Nat) (g : Nat → List Int) (w : World) (hx : Rws w (fun k => k < w.heap.size) A n c f) (hy : Rws w (fun k => k < w.heap.size) B m d g)
    (hn : n ≤ 4611686018427387904) (hf : ∀ k, k < n → (f k).length ≤ 4611686018427387904) (hm : m ≤ 4611686018427387904) (hg : ∀ k, k < m → (g k).length ≤ 4611686018427387904) :
    Calls Tryz.prog 171 #[.slice A n c, .slice B m d, .func (.func 173) #[] #[]] w fun e w' => e = .returned (.bool (rowsB n m f g)) ∧ Below w.heap.size w w' := by
  have HX := Lib.hid hx
  have HY := Lib.hid hy
  have hxc := hx.cap
  have hyc := hy.cap
  clear hx hy
  by_cases hnm : n = m
  · subst hnm
    have hle : ((n : Int) != (n : Int)) = false := by simp
    go_enter Tryz.func171, Tryz.ntmps171
    go_wp2
    go_loopw [17] (fun t wr => ∃ k : Nat, k ≤ n ∧ t = .int .i64 k ∧ Below w.heap.size w wr ∧ ∀ z, z < k → f z = g z) (fun t _ => n - (intOf t).toNat)
    case atStart => exact ⟨0, Nat.zero_le _, rfl, Below.refl _ _, by intro z hz; omega⟩
    case round =>
      obtain ⟨k, hk, rfl, hb, he⟩ := hrel
      have HE := Lib.hid he
      have HB := Lib.hid hb
      clear he hb
      by_cases hlt : k < n
      · obtain ⟨ad, rfl⟩ : ∃ ad, A = some ad := by
          cases A with
          | none => have := (HX.out.nil rfl).1; omega
          | some ad => exact ⟨ad, rfl⟩
        obtain ⟨ad', rfl⟩ : ∃ ad', B = some ad' := by
          cases B with
          | none => have := (HY.out.nil rfl).1; omega
          | some ad => exact ⟨ad, rfl⟩
        obtain ⟨Ai, ci, h1, h2⟩ := (HX.out.lt HB.out).at_ ad rfl k hlt
        obtain ⟨Bi, di, h3, h4⟩ := (HY.out.lt HB.out).at_ ad' rfl k hlt
        have HC := Lib.hid (equal_any Ai Bi ci di (f k) (g k) wr h2 h4 (hf k hlt) (hg k hlt))
        have HNE := Lib.hid (fun (h : decide (f k = g k) = false) => rows_no (m := n) (g := g) hlt (of_decide_eq_false h))
        have HNX := Lib.hid (show decide (f k = g k) = true → ∀ z, z < k + 1 → f z = g z from fun h z hz => by
          by_cases hzk : z = k
          · subst hzk; exact of_decide_eq_true h
          · exact HE.out z (by omega))
        clear h2 h4
        generalize hde : decide (f k = g k) = de at *
        generalize (f k).length = nf at *
        generalize (g k).length = ng at *
        cases de
        · have HN := Lib.hid (HNE.out rfl)
          go_wp2_with (go_at_call 173; refine (HC.out).mono ?_; rintro e w2 ⟨rfl, hb2⟩; have HB2 := Lib.hid (HB.out.trans (hb2.mono HB.out.size)); clear hb2)
          first | go_ret | skip
          refine ⟨?_, HB2.out⟩
          (rw [HN.out]; try rfl)
        · have HN := Lib.hid (HNX.out rfl)
          go_wp2_with (go_at_call 173; refine (HC.out).mono ?_; rintro e w2 ⟨rfl, hb2⟩; have HB2 := Lib.hid (HB.out.trans (hb2.mono HB.out.size)); clear hb2)
          go_roundw
          case rel => exact ⟨k + 1, by omega, by go_num, HB2.out, HN.out⟩
          case measure => simp [intOf]; omega
      · obtain rfl : k = n := by omega
        have HN := Lib.hid (rows_yes HE.out)
        go_wp2
        first | go_ret | skip
        refine ⟨?_, HB.out⟩
        (rw [HN.out]; try rfl)
  · have HN := Lib.hid (show rowsB n m f g = false by simp [rowsB, hnm])
    have hle : ((n : Int) != (m : Int)) = true := by simp; omega
    go_enter Tryz.func171, Tryz.ntmps171
    go_wp2
    first | go_ret | skip
    refine ⟨?_, Below.refl _ _⟩
    (rw [HN.out]; try rfl)
end Go.Proofs.YtfljignkjmabpaaGreat

namespace Go.Proofs.YtfljignkjmabpaaGreat
set_option maxRecDepth 100000
set_option linter.unusedSimpArgs false
set_option linter.unusedVariables false
open Go.RowKit

abbrev fltA (A : Option Addr) (n c : Nat) (s : Int) : Array Value := #[.slice A n c, .int .i64 s]
abbrev fltV (A : Option Addr) (n c : Nat) (s : Int) : Value := .agg (fltA A n c s)
/-- The closure: does the filter lack a hash? -/
theorem lacksAny1_any (A : Option Addr) (c : Nat) (L : List UInt64) (s : Int) (g : Nat) (h : UInt32) (w : World) (hx : Src w (fun k => k < w.heap.size) A L.length c (Siv.wds L)) (hL : L.length ≤ 9223372036854775807) (hb : Bx w g (fltA A L.length c s) 33) :
    Calls Tryz.prog 175 #[hv h, .pointer (some ⟨g, 0, none⟩)] w fun e w' => e = .returned (.bool (Siv.lacksB L s h)) ∧ Below w.heap.size w w' := by
  have H := Lib.hid (Siv.lacks_any _ A c L s h w hx hL)
  have q0 := hb.c 0
  have q1 := hb.c 1
  generalize Siv.lacksB L s h = b at *
  generalize h.toNat = hn at *
  simp only [List.getElem?_toArray, List.getElem?_cons_succ, List.getElem?_cons_zero] at q0 q1
  clear hb hx
  go_enter Tryz.func175, Tryz.ntmps175
  go_wp2_with (go_at_call 176; refine (H.out).mono ?_; rintro e w2 ⟨rfl, hb2⟩)
  first | go_ret | skip
  exact ⟨rfl, hb2⟩
/-- Where the filter lacks one of the hashes: at the first one. -/
theorem any_take' {α : Type} {p : α → Bool} {l : List α} {k : Nat} (hk : k < l.length) (h : (l.take k).any p = false) : (l.take (k + 1)).any p = p l[k] := by
  rw [List.take_succ_eq_append_getElem hk, List.any_append, h]
  simp
theorem any_yes' {α : Type} {p : α → Bool} {l : List α} {k : Nat} (hk : k < l.length) (h : p l[k] = true) : l.any p = true := List.any_eq_true.2 ⟨_, List.getElem_mem hk, h⟩
set_option maxRecDepth 100000 in
theorem indexFunc_any (A : Option Addr) (c : Nat) (L : List UInt64) (s : Int) (g : Nat) (B : Option Addr) (d : Nat) (hs : List UInt32) (w : World) (hx : Src w (fun k => k < w.heap.size) A L.length c (Siv.wds L)) (hL : L.length ≤ 9223372036854775807) (hb : Bx w g (fltA A L.length c s) 33)
    (hh : Src w (fun k => k < w.heap.size) B hs.length d (Siv.hsh hs)) (hn : hs.length ≤ 4611686018427387904) :
    Calls Tryz.prog 204 #[.slice B hs.length d, .func (.func 175) #[] #[.pointer (some ⟨g, 0, none⟩)]] w fun e w' => ∃ i : Int, e = .returned (.int .i64 i) ∧ decide (0 ≤ i) = hs.any (Siv.lacksB L s) ∧ Below w.heap.size w w' := by
  have HX := Lib.hid hx
  have HBX := Lib.hid hb
  have HH := Lib.hid hh
  have hcap := hh.cap
  clear hx hb hh
  go_enter Tryz.func204, Tryz.ntmps204
  go_wp2
  go_loopw [8] (fun t wr => ∃ k : Nat, k ≤ hs.length ∧ t = .int .i64 k ∧ Below w.heap.size w wr ∧ (hs.take k).any (Siv.lacksB L s) = false) (fun t _ => hs.length - (intOf t).toNat)
  case atStart => exact ⟨0, Nat.zero_le _, rfl, Below.refl _ _, rfl⟩
  case round =>
    obtain ⟨k, hk, rfl, hb, he⟩ := hrel
    have HE := Lib.hid he
    have HB := Lib.hid hb
    clear he hb
    by_cases hlt : k < hs.length
    · obtain ⟨ad, rfl⟩ : ∃ ad, B = some ad := by
        cases B with
        | none => have := (HH.out.nil rfl).1; omega
        | some ad => exact ⟨ad, rfl⟩
      have hc : wr.cell? (ad.add k) = some (hv hs[k]) := (HH.out.below HB.out (fun _ h => h)).at_ ad rfl k _ (Siv.hsh_get hs k hlt)
      have HC := Lib.hid (lacksAny1_any A c L s g hs[k] wr ((HX.out.below HB.out (fun _ h => h)).lt) hL (HBX.out.below' HB.out HBX.out.lt))
      have HY := Lib.hid (fun h => any_yes' (p := Siv.lacksB L s) hlt h)
      have HT := Lib.hid (any_take' hlt HE.out)
      generalize hs[k] = h at *
      generalize Siv.lacksB L s h = b at *
      generalize h.toNat = hn' at *
      generalize hhl : hs.length = nn at *
      cases b
      · go_wp2_with (go_at_call 175; refine (HC.out).mono ?_; rintro e w2 ⟨rfl, hb2⟩; have HB2 := Lib.hid (HB.out.trans (hb2.mono HB.out.size)); clear hb2)
        go_roundw
        case rel => exact ⟨k + 1, by omega, by go_num, HB2.out, HT.out⟩
        case measure => simp [intOf]; omega
      · go_wp2_with (go_at_call 175; refine (HC.out).mono ?_; rintro e w2 ⟨rfl, hb2⟩; have HB2 := Lib.hid (HB.out.trans (hb2.mono HB.out.size)); clear hb2)
        first | go_ret | skip
        exact ⟨k, rfl, by rw [HY.out trivial]; simp, HB2.out⟩
    · obtain rfl : k = hs.length := by omega
      have HN := Lib.hid (show hs.any (Siv.lacksB L s) = false by have := HE.out; rwa [List.take_length] at this)
      go_wp2
      first | go_ret | skip
      exact ⟨-1, rfl, by rw [HN.out]; rfl, HB.out⟩
theorem containsFunc_any (A : Option Addr) (c : Nat) (L : List UInt64) (s : Int) (g : Nat) (B : Option Addr) (d : Nat) (hs : List UInt32) (w : World) (hx : Src w (fun k => k < w.heap.size) A L.length c (Siv.wds L)) (hL : L.length ≤ 9223372036854775807) (hb : Bx w g (fltA A L.length c s) 33)
    (hh : Src w (fun k => k < w.heap.size) B hs.length d (Siv.hsh hs)) (hn : hs.length ≤ 4611686018427387904) :
    Calls Tryz.prog 174 #[.slice B hs.length d, .func (.func 175) #[] #[.pointer (some ⟨g, 0, none⟩)]] w fun e w' => e = .returned (.bool (hs.any (Siv.lacksB L s))) ∧ Below w.heap.size w w' := by
  have HC := Lib.hid (indexFunc_any A c L s g B d hs w hx hL hb hh hn)
  clear hx hb hh
  go_enter Tryz.func174, Tryz.ntmps174
  go_upto_region 99 with (go_at_call 204; refine (HC.out).mono ?_; rintro e w2 ⟨i, rfl, hi, hb2⟩)
  first | go_ret | skip
  exact ⟨by rw [← hi]; rfl, hb2⟩
theorem lacksAny_any (A : Option Addr) (c : Nat) (L : List UInt64) (s : Int) (B : Option Addr) (d : Nat) (hs : List UInt32) (w : World) (hx : Src w (fun k => k < w.heap.size) A L.length c (Siv.wds L)) (hL : L.length ≤ 9223372036854775807)
    (hh : Src w (fun k => k < w.heap.size) B hs.length d (Siv.hsh hs)) (hn : hs.length ≤ 4611686018427387904) :
    Calls Tryz.prog 111 #[fltV A L.length c s, .slice B hs.length d] w fun e w' => e = .returned (.bool (hs.any (Siv.lacksB L s))) ∧ Below w.heap.size w w' := by
  have hB := (Below.refl w.heap.size w).alloc (Nat.le_refl _) (.cells (fltA A L.length c s) 33)
  have HC := Lib.hid (containsFunc_any A c L s w.heap.size B d hs (w.alloc (.cells (fltA A L.length c s) 33)) ((hx.below hB (fun _ h => h)).lt) hL (Bx.new _ _ _) ((hh.below hB (fun _ h => h)).lt) hn)
  have HB := Lib.hid hB
  clear hx hh hB
  go_enter Tryz.func111, Tryz.ntmps111
  go_upto_region 99 with (go_at_call 174; refine (HC.out).mono ?_; rintro e w2 ⟨rfl, hb2⟩)
  first | go_ret | skip
  exact ⟨rfl, HB.out.trans (hb2.mono HB.out.size)⟩
end Go.Proofs.YtfljignkjmabpaaGreat

namespace Go.Proofs.YtfljignkjmabpaaGreat
set_option maxRecDepth 100000
set_option linter.unusedSimpArgs false
set_option linter.unusedVariables false
open Go.RowKit

def formT (n wl : Nat) (sh : Int) (k : Nat) : Bool := decide (k ≤ 512) && (decide (1 ≤ n) && decide (n ≤ 512)) && Siv.formB wl sh
theorem formT_bool {n wl k : Nat} {sh : Int} {b : Bool} (h : formT n wl sh k = b) : Ending.returned (Value.bool b) = .returned (.bool (formT n wl sh k)) := by rw [h]
set_option maxRecDepth 100000 in
theorem tform_any (A : Option Addr) (n c : Nat) (Af : Option Addr) (wl cf : Nat) (sh : Int) (k : Nat) (w : World) (hn : n ≤ 9223372036854775807) (hw : wl ≤ 9223372036854775807) (hk : k ≤ 9223372036854775807) :
    Calls Tryz.prog 109 #[.agg (tabA A n c Af wl cf sh), .int .i64 (k : Int)] w fun e w' => e = .returned (.bool (formT n wl sh k)) ∧ Below w.heap.size w w' := by
  have HB1 := Lib.hid (show Below w.heap.size w (w.alloc (.cells (tabA A n c Af wl cf sh) 35)) from (Below.refl _ _).alloc (Nat.le_refl _) _)
  have hx1 : Tx (w.alloc (.cells (tabA A n c Af wl cf sh) 35)) w.heap.size (tabA A n c Af wl cf sh) := heap_alloc_new _ _
  go_enter Tryz.func109, Tryz.ntmps109
  go_upto_region 1 with (fail)
  change Code.wp _ _ _ _ (w.alloc (.cells (tabA A n c Af wl cf sh) 35))
  generalize w.alloc (.cells (tabA A n c Af wl cf sh) 35) = w1 at *
  have t0 := cell_of_row w1 w.heap.size 0 _ _ _ hx1
  have t1 := cell_of_row w1 w.heap.size 1 _ _ _ hx1
  have t2 := cell_of_row w1 w.heap.size 2 _ _ _ hx1
  simp only [List.getElem?_toArray, List.getElem?_cons_succ, List.getElem?_cons_zero] at t0 t1 t2
  clear hx1
  have HRT := Lib.hid (Siv.right_any Af wl cf sh w1 hw)
  have HF := Lib.hid (show formT n wl sh k = (decide (k ≤ 512) && (decide (1 ≤ n) && decide (n ≤ 512)) && Siv.formB wl sh) from rfl)
  generalize Siv.formB wl sh = fb at *
  by_cases h1 : k ≤ 512
  · have d1 : (k : Int) ≤ 512 := by omega
    by_cases h2 : 1 ≤ n
    · have d2 : (1 : Int) ≤ (n : Int) := by omega
      by_cases h3 : n ≤ 512
      · have d3 : (n : Int) ≤ 512 := by omega
        have HN := Lib.hid (show formT n wl sh k = fb by rw [HF.out]; simp [h1, h2, h3])
        clear h1 h2 h3 HF
        cases fb
        · go_upto_region 99 with (go_at_call 170; refine (HRT.out).mono ?_; rintro e w2 ⟨rfl, hb2⟩)
          first | go_ret | skip
          exact ⟨formT_bool HN.out, HB1.out.trans (hb2.mono HB1.out.size)⟩
        · go_upto_region 99 with (go_at_call 170; refine (HRT.out).mono ?_; rintro e w2 ⟨rfl, hb2⟩)
          first | go_ret | skip
          exact ⟨formT_bool HN.out, HB1.out.trans (hb2.mono HB1.out.size)⟩
      · have d3 : ¬ (n : Int) ≤ 512 := by omega
        have HN := Lib.hid (show formT n wl sh k = false by rw [HF.out]; simp [h3])
        clear h1 h2 h3 HF
        go_upto_region 99 with (fail)
        first | go_ret | skip
        exact ⟨formT_bool HN.out, HB1.out⟩
    · have d2 : ¬ (1 : Int) ≤ (n : Int) := by omega
      have HN := Lib.hid (show formT n wl sh k = false by rw [HF.out]; simp [h2])
      clear h1 h2 HF
      go_upto_region 99 with (fail)
      first | go_ret | skip
      exact ⟨formT_bool HN.out, HB1.out⟩
  · have d1 : ¬ (k : Int) ≤ 512 := by omega
    have HN := Lib.hid (show formT n wl sh k = false by rw [HF.out]; simp [h1])
    clear h1 HF
    go_upto_region 99 with (fail)
    first | go_ret | skip
    exact ⟨formT_bool HN.out, HB1.out⟩
set_option maxRecDepth 100000 in
set_option maxHeartbeats 1000000 in
theorem hasBuckets_any (A : Option Addr) (n c : Nat) (Af : Option Addr) (wl cf : Nat) (f : Nat → List Int) (sh : Int) (B : Option Addr) (d : Nat) (ss : List Sym) (w : World)
    (ht : Rws w (fun k => k < w.heap.size) A n c f) (h : Syl w (fun k => k < w.heap.size) B ss.length d ss) (hn : ss.length ≤ 512) (hs : Named ss) (h0 : 0 < n) (h1 : n ≤ 512) (hf : ∀ k, k < n → (f k).length ≤ 4611686018427387904) :
    Calls Tryz.prog 110 #[.agg (tabA A n c Af wl cf sh), .slice B ss.length d] w fun e w' => e = .returned (.bool (rowsB n n f (fillS ss n ss.length))) ∧ Below w.heap.size w w' := by
  have HB1 := Lib.hid (show Below w.heap.size w (w.alloc (.cells (tabA A n c Af wl cf sh) 35)) from (Below.refl _ _).alloc (Nat.le_refl _) _)
  have hx1 : Tx (w.alloc (.cells (tabA A n c Af wl cf sh) 35)) w.heap.size (tabA A n c Af wl cf sh) := heap_alloc_new _ _
  have HT := Lib.hid (ht.lt HB1.out)
  have HS := Lib.hid (h.lt HB1.out)
  clear ht h
  go_enter Tryz.func110, Tryz.ntmps110
  go_upto_region 1 with (fail)
  change Code.wp _ _ _ _ (w.alloc (.cells (tabA A n c Af wl cf sh) 35))
  generalize w.alloc (.cells (tabA A n c Af wl cf sh) 35) = w1 at *
  have t0 := cell_of_row w1 w.heap.size 0 _ _ _ hx1
  simp only [List.getElem?_toArray, List.getElem?_cons_zero] at t0
  clear hx1
  have HFI := Lib.hid (fun (X : World) (hX : Below w1.heap.size w1 X) => (fill_any n B ss.length d ss X (HS.out.lt hX) hn hs h0 h1).mono fun e w' (hh : ∃ g s, _) => show ∃ g, e = .returned (.slice (some ⟨g, 0, none⟩) n n) ∧ (Rws w' (fun k => k < w'.heap.size) (some ⟨g, 0, none⟩) n n (fillS ss n ss.length) ∧ Rws w' (fun k => k < w'.heap.size) A n c f) ∧ Below w1.heap.size w1 w' from by
    obtain ⟨g, s, h1, h2, h3⟩ := hh
    exact ⟨g, h1, ⟨h2.rws.weak fun _ hk => hk.2, HT.out.lt (hX.trans (h3.mono hX.size))⟩, hX.trans (h3.mono hX.size)⟩)
  have HLE := Lib.hid (fun k => show (fillS ss n ss.length k).length ≤ 4611686018427387904 from by have := fill_len ss n ss.length k; omega)
  generalize hff : fillS ss n ss.length = ff at *
  have HFF := Lib.hid hff
  clear hff
  go_region_held3 (fun X => X.cell? ⟨w.heap.size, 0, none⟩ = some (.slice A n c)) (first | assumption | go_keep) (first
    | (go_at_call 172; (with_reducible refine (HFI.out _ (drew_below w1)).mono ?_); rintro e w2 ⟨g, rfl, hr, hb2⟩; have HR := Lib.hid hr; have HB2 := Lib.hid hb2; have t1 := cell_below hb2 t0; clear hr hb2)
    | (go_at_call 171; (with_reducible refine (equalFunc_any A n c f (some ⟨g, 0, none⟩) n n ff w2 HR.out.2 HR.out.1 (by omega) hf (by omega) (fun k _ => HLE.out k)).mono ?_); rintro e w3 ⟨rfl, hb3⟩; have t2 := cell_below hb3 t1; have HB3 := Lib.hid (HB1.out.trans ((HB2.out.trans (hb3.mono HB2.out.size)).mono HB1.out.size)); clear hb3))
  go_wp2_with fail
  first | go_ret | skip
  exact ⟨by rw [HFF.out]; rfl, HB3.out⟩
def rightT (n : Nat) (f : Nat → List Int) (L : List UInt64) (sh : Int) (ss : List Sym) : Bool := formT n L.length sh ss.length && (rowsB n n f (fillS ss n ss.length) && !(hashesS ss).any (Siv.lacksB L sh))
def errT (b : Bool) : Value := .int .i64 (if b then 0 else 80)
theorem rightT_okay {n : Nat} {f : Nat → List Int} {L : List UInt64} {sh : Int} {ss : List Sym} {b : Bool} (h : rightT n f L sh ss = b) {x : Value} (hx : x = errT b) : Ending.returned x = .returned (errT (rightT n f L sh ss)) := by rw [h, hx]
set_option maxRecDepth 100000 in
set_option maxHeartbeats 2000000 in
theorem tright_any (A : Option Addr) (n c : Nat) (Af : Option Addr) (cf : Nat) (f : Nat → List Int) (L : List UInt64) (sh : Int) (B : Option Addr) (d : Nat) (ss : List Sym) (w : World)
    (ht : TabV w (fun k => k < w.heap.size) A n c Af cf f L) (h : Syl w (fun k => k < w.heap.size) B ss.length d ss) (hs : Named ss) (hn : n ≤ 9223372036854775807) (hL : L.length ≤ 9223372036854775807) (hss : ss.length ≤ 9223372036854775807) (hf : ∀ k, k < n → (f k).length ≤ 4611686018427387904) :
    Calls Tryz.prog 32 #[.agg (tabA A n c Af L.length cf sh), .slice B ss.length d] w fun e w' => e = .returned (errT (rightT n f L sh ss)) ∧ Below w.heap.size w w' := by
  have HB1 := Lib.hid (show Below w.heap.size w (w.alloc (.cells (tabA A n c Af L.length cf sh) 35)) from (Below.refl _ _).alloc (Nat.le_refl _) _)
  have hx1 : Tx (w.alloc (.cells (tabA A n c Af L.length cf sh) 35)) w.heap.size (tabA A n c Af L.length cf sh) := heap_alloc_new _ _
  have HT := Lib.hid (ht.lt HB1.out)
  have HS := Lib.hid (h.lt HB1.out)
  clear ht h
  go_enter Tryz.func32, Tryz.ntmps32
  go_upto_region 1 with (fail)
  change Code.wp _ _ _ _ (w.alloc (.cells (tabA A n c Af L.length cf sh) 35))
  generalize w.alloc (.cells (tabA A n c Af L.length cf sh) 35) = w1 at *
  have t0 := cell_of_row w1 w.heap.size 0 _ _ _ hx1
  have t1 := cell_of_row w1 w.heap.size 1 _ _ _ hx1
  have t2 := cell_of_row w1 w.heap.size 2 _ _ _ hx1
  simp only [List.getElem?_toArray, List.getElem?_cons_succ, List.getElem?_cons_zero] at t0 t1 t2
  have HX1 := Lib.hid hx1
  clear hx1
  have HKT := Lib.hid (fun (X : World) (hX : Below w1.heap.size w1 X) => (show Below w.heap.size w X ∧ X.cell? ⟨w.heap.size, 0, none⟩ = some (.slice A n c) ∧ X.cell? ⟨w.heap.size, 1, none⟩ = some (.slice Af L.length cf) ∧ X.cell? ⟨w.heap.size, 2, none⟩ = some (.int .i64 sh) from
    ⟨HB1.out.trans (hX.mono HB1.out.size), cell_below hX t0, cell_below hX t1, cell_below hX t2⟩))
  have HFM := Lib.hid (fun (X : World) (hX : Below w1.heap.size w1 X) => (tform_any A n c Af L.length cf sh ss.length X hn hL hss).mono fun e w' hh => show e = .returned (.bool (formT n L.length sh ss.length)) ∧ Below w1.heap.size w1 w' from ⟨hh.1, hX.trans (hh.2.mono hX.size)⟩)
  have HF := Lib.hid (show rightT n f L sh ss = (formT n L.length sh ss.length && (rowsB n n f (fillS ss n ss.length) && !(hashesS ss).any (Siv.lacksB L sh))) from rfl)
  by_cases hfm : formT n L.length sh ss.length = true
  · have hb := hfm
    unfold formT at hb
    simp only [Bool.and_eq_true, decide_eq_true_eq] at hb
    obtain ⟨⟨hb1, hb2, hb3⟩, -⟩ := hb
    have HHB := Lib.hid (fun (X : World) (hX : Below w1.heap.size w1 X) => (hasBuckets_any A n c Af L.length cf f sh B d ss X (HT.out.lt hX).rows (HS.out.lt hX) hb1 hs hb2 hb3 hf).mono fun e w' hh => show e = .returned (.bool (rowsB n n f (fillS ss n ss.length))) ∧ Below w1.heap.size w1 w' from ⟨hh.1, hX.trans (hh.2.mono hX.size)⟩)
    have HHO := Lib.hid (fun (X : World) (hX : Below w1.heap.size w1 X) => (hashesOf_any B ss.length d ss X (HS.out.lt hX) hb1 hs).mono fun e w' (hh : ∃ A' c', _) => show ∃ A' c', e = .returned (.slice A' (hashesS ss).length c') ∧ (Src w' (fun k => k < w'.heap.size) A' (hashesS ss).length c' (Siv.hsh (hashesS ss)) ∧ Src w' (fun k => k < w'.heap.size) Af L.length cf (Siv.wds L)) ∧ Below w1.heap.size w1 w' from by
      obtain ⟨A', c', h1, h2, h3⟩ := hh
      exact ⟨A', c', h1, ⟨(Src.of_own h2).lt, (HT.out.lt (hX.trans (h3.mono hX.size))).words⟩, hX.trans (h3.mono hX.size)⟩)
    have hhl : (hashesS ss).length ≤ 4611686018427387904 := by have := hashes_all ss; omega
    rw [hfm] at HFM HF
    simp only [Bool.true_and] at HF
    clear hfm
    generalize rowsB n n f (fillS ss n ss.length) = rb at *
    cases rb
    · have HN := Lib.hid (show rightT n f L sh ss = false by rw [HF.out]; rfl)
      clear HF HHO
      first
        | (go_region_with (first
            | (go_at_call 109; (with_reducible refine (HFM.out _ (drew_below w1)).mono ?_); rintro e w2 ⟨rfl, hb2⟩; obtain ⟨-, p0, p1, p2⟩ := HKT.out _ hb2)
            | (go_at_call 110; (with_reducible refine (HHB.out _ hb2).mono ?_); rintro e w3 ⟨rfl, hb3⟩; obtain ⟨hw3, q0, q1, q2⟩ := HKT.out _ hb3)))
        | fail
      all_goals
        go_wp2_with fail
        first | go_ret | skip
        exact ⟨rightT_okay HN.out rfl, hw3⟩
    · simp only [Bool.true_and] at HF
      have HLA := Lib.hid (fun (X : World) (A' : Option Addr) (c' : Nat) (hA : Src X (fun k => k < X.heap.size) A' (hashesS ss).length c' (Siv.hsh (hashesS ss)) ∧ Src X (fun k => k < X.heap.size) Af L.length cf (Siv.wds L)) (hX : Below w1.heap.size w1 X) => (lacksAny_any Af cf L sh A' c' (hashesS ss) X hA.2 hL hA.1 hhl).mono fun e w' hh => show e = .returned (.bool ((hashesS ss).any (Siv.lacksB L sh))) ∧ Below w1.heap.size w1 w' from ⟨hh.1, hX.trans (hh.2.mono hX.size)⟩)
      generalize (hashesS ss).any (Siv.lacksB L sh) = lk at *
      have HN := Lib.hid (show rightT n f L sh ss = !lk from HF.out)
      clear HF HX1 hhl
      generalize hashesS ss = hss at *
      have hfin : ∀ W : World, Below w1.heap.size w1 W → Below w.heap.size w W := fun W h => HB1.out.trans (h.mono HB1.out.size)
      have HFIN := Lib.hid hfin
      clear hfin
      go_region_held3 (fun X => X.cell? ⟨w.heap.size, 0, none⟩ = some (.slice A n c) ∧ X.cell? ⟨w.heap.size, 1, none⟩ = some (.slice Af L.length cf) ∧ X.cell? ⟨w.heap.size, 2, none⟩ = some (.int .i64 sh)) (first | (exact ⟨by assumption, by assumption, by assumption⟩) | go_keep) (first
        | (go_at_call 109; (with_reducible refine (HFM.out _ (drew_below w1)).mono ?_); rintro e w2 ⟨rfl, hb2⟩; obtain ⟨-, p0, p1, p2⟩ := HKT.out _ hb2)
        | (go_at_call 110; (with_reducible refine (HHB.out _ hb2).mono ?_); rintro e w3 ⟨rfl, hb3⟩; obtain ⟨-, q0, q1, q2⟩ := HKT.out _ hb3)
        | (go_at_call 112; (with_reducible refine (HHO.out _ hb3).mono ?_); rintro e w4 ⟨A', c', rfl, hsr, hb4⟩; obtain ⟨-, r0, r1, r2⟩ := HKT.out _ hb4)
        | (go_at_call 111; (with_reducible refine (HLA.out _ A' c' hsr hb4).mono ?_); rintro e w5 ⟨rfl, hb5⟩; obtain ⟨-, s0, s1, s2⟩ := HKT.out _ hb5))
      have HB5 := Lib.hid (HFIN.out _ hb5)
      clear t0 t1 t2 p0 p1 p2 q0 q1 q2 r0 r1 r2 s0 s1 s2 hb2 hb3 hb4 hb5 hsr
      cases lk
      · go_wp2_with fail
        first | go_ret | skip
        exact ⟨rightT_okay HN.out rfl, HB5.out⟩
      · go_wp2_with fail
        first | go_ret | skip
        exact ⟨rightT_okay HN.out rfl, HB5.out⟩
  · have hff : formT n L.length sh ss.length = false := by simpa using hfm
    have HN := Lib.hid (show rightT n f L sh ss = false by rw [HF.out, hff]; rfl)
    rw [hff] at HFM
    clear HF hfm hff
    first
      | (go_region_with (first
          | (go_at_call 109; (with_reducible refine (HFM.out _ (Below.refl _ _)).mono ?_); rintro e w2 ⟨rfl, hb2⟩; obtain ⟨hw2, p0, p1, p2⟩ := HKT.out _ hb2)
          | (go_at_call 109; (with_reducible refine (HFM.out _ (drew_below w1)).mono ?_); rintro e w2 ⟨rfl, hb2⟩; obtain ⟨hw2, p0, p1, p2⟩ := HKT.out _ hb2)))
      | fail
    all_goals
      go_wp2_with fail
      first | go_ret | skip
      exact ⟨rightT_okay HN.out rfl, hw2⟩
end Go.Proofs.YtfljignkjmabpaaGreat
