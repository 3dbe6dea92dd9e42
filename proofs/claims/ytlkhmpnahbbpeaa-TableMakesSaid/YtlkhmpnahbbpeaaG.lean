/-
  Right: whether a table is right for symbols.
-/
import Derived.Test.YtlkhmpnahbbpeaaF
namespace Go.Proofs.Ytlkhmpnahbbpeaa
open Go.RowKit

theorem il_get (l : List Int) (i : Nat) (hi : i < l.length) : (il l)[i]? = some (.int .i64 l[i]) := by simp [il, hi]
theorem eq_of_get {l m : List Int} (hlen : l.length = m.length) (h : ∀ z (h1 : z < l.length) (h2 : z < m.length), l[z] = m[z]) : l = m := List.ext_getElem hlen h
set_option maxRecDepth 100000 in
theorem equal_any {P Q : Nat → Prop} (A A' : Option Addr) (c c' : Nat) (l m : List Int) (w : World) (hx : Src w P A l.length c (il l)) (hy : Src w Q A' m.length c' (il m)) (hn : l.length ≤ 4611686018427387904) (hm : m.length ≤ 4611686018427387904) :
    Calls Try.prog 60 #[.slice A l.length c, .slice A' m.length c'] w fun e w' => e = .returned (.bool (decide (l = m))) ∧ Below w.heap.size w w' := by
  have HX := Lib.hid hx.lt
  have HY := Lib.hid hy.lt
  clear hx hy
  by_cases hlen : l.length = m.length
  · have HL := Lib.hid hlen
    have hle : ((l.length : Int) != (m.length : Int)) = false := by simp [hlen]
    have hxc := HX.out.cap
    have hyc := HY.out.cap
    clear hlen
    generalize hln : l.length = n at *
    generalize hmn : m.length = k at *
    obtain rfl : n = k := HL.out
    have HLN := Lib.hid hln
    have HMN := Lib.hid hmn
    clear hln hmn
    go_enter Try.func60, Try.ntmps60
    go_wp2
    go_loopw [13] (fun i wr => ∃ k j : Nat, k ≤ n ∧ i = .int .i64 k ∧ wr = w.drewN j ∧ ∀ z (h1 : z < l.length) (h2 : z < m.length), z < k → l[z] = m[z]) (fun i _ => n - (intOf i).toNat)
    case atStart => exact ⟨0, 0, Nat.zero_le _, rfl, rfl, by intro z _ _ hz; omega⟩
    case round =>
      obtain ⟨k, j, hk, rfl, rfl, he⟩ := hrel
      have HE := Lib.hid he
      clear he
      by_cases hlt : k < n
      · obtain ⟨ad, rfl⟩ : ∃ ad, A = some ad := by
          cases A with
          | none => have := (HX.out.nil rfl).1; omega
          | some ad => exact ⟨ad, rfl⟩
        obtain ⟨ad', rfl⟩ : ∃ ad', A' = some ad' := by
          cases A' with
          | none => have := (HY.out.nil rfl).1; omega
          | some ad => exact ⟨ad, rfl⟩
        have hk1 : k < l.length := by rw [HLN.out]; exact hlt
        have hk2 : k < m.length := by rw [HMN.out]; exact hlt
        have hx : w.cell? (ad.add k) = some (.int .i64 l[k]) := HX.out.at_ ad rfl k _ (il_get l k hk1)
        have hy : w.cell? (ad'.add k) = some (.int .i64 m[k]) := HY.out.at_ ad' rfl k _ (il_get m k hk2)
        have HK := Lib.hid (show l[k] = m[k] ↔ l[k] = m[k] from Iff.rfl)
        have HNE := Lib.hid (show l[k] ≠ m[k] → l ≠ m from fun h e => h (by subst e; rfl))
        have HNX := Lib.hid (show l[k] = m[k] → ∀ z (h1 : z < l.length) (h2 : z < m.length), z < k + 1 → l[z] = m[z] from fun h z h1 h2 hz => by
          by_cases hzk : z = k
          · subst hzk; exact h
          · exact HE.out z h1 h2 (by omega))
        clear HK
        generalize l[k] = x at *
        generalize m[k] = y at *
        clear hk1 hk2
        by_cases hxy : x = y
        · have HN := Lib.hid (HNX.out hxy)
          subst hxy
          go_wp2
          go_quiet (fail)
          go_wp2
          go_roundw
          case rel => exact ⟨k + 1, _, by omega, by go_num, rfl, HN.out⟩
          case measure => simp [intOf]; omega
        · have hne : (x != y) = true := by simpa using hxy
          have HN := Lib.hid (HNE.out hxy)
          clear hxy
          go_wp2
          go_quiet (fail)
          go_wp2
          first | go_ret | skip
          refine ⟨?_, below_drewN (drewN_below _ _) _⟩
          (rw [decide_eq_false HN.out]; try rfl)
      · obtain rfl : k = n := by omega
        have HN := Lib.hid (show l = m from eq_of_get (by rw [HLN.out, HMN.out]) fun z h1 h2 => HE.out z h1 h2 (by rw [HLN.out] at h1; omega))
        go_wp2
        first | go_ret | skip
        refine ⟨?_, drewN_below _ _⟩
        (rw [decide_eq_true HN.out]; try rfl)
  · have HN := Lib.hid (show l ≠ m from fun e => hlen (by rw [e]))
    have hle : ((l.length : Int) != (m.length : Int)) = true := by simp; omega
    go_enter Try.func60, Try.ntmps60
    go_wp2
    first | go_ret | skip
    refine ⟨?_, Below.refl _ _⟩
    (rw [decide_eq_false HN.out]; try rfl)
/-- Rows that are alike. -/
def rowsB (n m : Nat) (f g : Nat → List Int) : Bool := decide (n = m) && decide (∀ k, k < n → f k = g k)
theorem rows_no {n m : Nat} {f g : Nat → List Int} {k : Nat} (hk : k < n) (h : f k ≠ g k) : rowsB n m f g = false := by
  unfold rowsB
  rw [Bool.and_eq_false_iff]
  exact .inr (decide_eq_false fun e => h (e k hk))
theorem rows_yes {n : Nat} {f g : Nat → List Int} (h : ∀ k, k < n → f k = g k) : rowsB n n f g = true := by
  unfold rowsB
  rw [Bool.and_eq_true]
  exact ⟨decide_eq_true rfl, decide_eq_true h⟩
set_option maxRecDepth 100000 in
set_option maxHeartbeats 1000000 in
theorem equalFunc_any (A : Option Addr) (n c : Nat) (f : Nat → List Int) (B : Option Addr) (m d : Nat) (g : Nat → List Int) (w : World) (hx : Rws w (fun k => k < w.heap.size) A n c f) (hy : Rws w (fun k => k < w.heap.size) B m d g)
    (hn : n ≤ 4611686018427387904) (hf : ∀ k, k < n → (f k).length ≤ 4611686018427387904) (hm : m ≤ 4611686018427387904) (hg : ∀ k, k < m → (g k).length ≤ 4611686018427387904) :
    Calls Try.prog 59 #[.slice A n c, .slice B m d, .func (.func 60) #[] #[]] w fun e w' => e = .returned (.bool (rowsB n m f g)) ∧ Below w.heap.size w w' := by
  have HX := Lib.hid hx
  have HY := Lib.hid hy
  have hxc := hx.cap
  have hyc := hy.cap
  clear hx hy
  by_cases hnm : n = m
  · subst hnm
    have hle : ((n : Int) != (n : Int)) = false := by simp
    go_enter Try.func59, Try.ntmps59
    go_wp2
    go_loopw [17] (fun t wr => ∃ k : Nat, k ≤ n ∧ t = .int .i64 k ∧ Below w.heap.size w wr ∧ ∀ z, z < k → f z = g z) (fun t _ => n - (intOf t).toNat)
    case atStart => exact ⟨0, Nat.zero_le _, rfl, Below.refl _ _, by intro z hz; omega⟩
    case round =>
      obtain ⟨k, hk, rfl, hb, he⟩ := hrel
      have HE := Lib.hid he
      have HB := Lib.hid hb
      clear he hb
      by_cases hlt : k < n
      · obtain ⟨ad, rfl⟩ : ∃ ad, A = some ad := by
          cases A with
          | none => have := (HX.out.nil rfl).1; omega
          | some ad => exact ⟨ad, rfl⟩
        obtain ⟨ad', rfl⟩ : ∃ ad', B = some ad' := by
          cases B with
          | none => have := (HY.out.nil rfl).1; omega
          | some ad => exact ⟨ad, rfl⟩
        obtain ⟨Ai, ci, h1, h2⟩ := (HX.out.lt HB.out).at_ ad rfl k hlt
        obtain ⟨Bi, di, h3, h4⟩ := (HY.out.lt HB.out).at_ ad' rfl k hlt
        have HC := Lib.hid (equal_any Ai Bi ci di (f k) (g k) wr h2 h4 (hf k hlt) (hg k hlt))
        have HNE := Lib.hid (fun (h : decide (f k = g k) = false) => rows_no (m := n) (g := g) hlt (of_decide_eq_false h))
        have HNX := Lib.hid (show decide (f k = g k) = true → ∀ z, z < k + 1 → f z = g z from fun h z hz => by
          by_cases hzk : z = k
          · subst hzk; exact of_decide_eq_true h
          · exact HE.out z (by omega))
        clear h2 h4
        generalize hde : decide (f k = g k) = de at *
        generalize (f k).length = nf at *
        generalize (g k).length = ng at *
        cases de
        · have HN := Lib.hid (HNE.out rfl)
          go_wp2_with (go_at_call 60; refine (HC.out).mono ?_; rintro e w2 ⟨rfl, hb2⟩; have HB2 := Lib.hid (HB.out.trans (hb2.mono HB.out.size)); clear hb2)
          first | go_ret | skip
          refine ⟨?_, HB2.out⟩
          (rw [HN.out]; try rfl)
        · have HN := Lib.hid (HNX.out rfl)
          go_wp2_with (go_at_call 60; refine (HC.out).mono ?_; rintro e w2 ⟨rfl, hb2⟩; have HB2 := Lib.hid (HB.out.trans (hb2.mono HB.out.size)); clear hb2)
          go_roundw
          case rel => exact ⟨k + 1, by omega, by go_num, HB2.out, HN.out⟩
          case measure => simp [intOf]; omega
      · obtain rfl : k = n := by omega
        have HN := Lib.hid (rows_yes HE.out)
        go_wp2
        first | go_ret | skip
        refine ⟨?_, HB.out⟩
        (rw [HN.out]; try rfl)
  · have HN := Lib.hid (show rowsB n m f g = false by simp [rowsB, hnm])
    have hle : ((n : Int) != (m : Int)) = true := by simp; omega
    go_enter Try.func59, Try.ntmps59
    go_wp2
    first | go_ret | skip
    refine ⟨?_, Below.refl _ _⟩
    (rw [HN.out]; try rfl)
end Go.Proofs.Ytlkhmpnahbbpeaa
