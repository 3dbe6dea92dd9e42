/-
  The program's Look and Linear.
-/
import Derived.Test.YtpcgedngikpnoaaA
namespace Go.Proofs.Ytpcgedngikpnoaa
set_option maxRecDepth 100000
set_option linter.unusedSimpArgs false
set_option linter.unusedVariables false
open Go.RowKit

theorem ints_get (l : List Int) (k : Nat) (h : k < l.length) : (ints l)[k]? = some (.int .i64 l[k]) := by simp [ints, h]
theorem ints_len (l : List Int) : (ints l).length = l.length := by simp [ints]
theorem ints_set (l : List Int) (k : Nat) (x : Int) : (ints l).set k (.int .i64 x) = ints (l.set k x) := by simp [ints, List.map_set]
theorem own_put {w : World} {B n c r sz : Nat} {e : TypeId} {xs : List Value} (h : w.ownsRow B e sz (.slice (some ⟨r, 0, none⟩) n c) n xs) (j : Nat) (v : Value) : (w.setCell ⟨r, j, none⟩ v).ownsRow B e sz (.slice (some ⟨r, 0, none⟩) n c) n (xs.set j v) := by
  refine ⟨by rw [List.length_set]; exact h.1, ?_⟩
  rcases h.2 with h1 | ⟨g2, cap, cur, hv, hb, hh, h4, h5, h6, hx⟩
  · cases h1.1
  · injection hv with h1 _ h3
    injection h1 with h1
    injection h1 with h1
    subst h1 h3
    refine .inr ⟨r, c, cur.setIfInBounds j v, rfl, hb, heap_setCell_same w r j cur e v hh, h4, h5, by simpa using h6, ?_⟩
    rw [← hx, Array.toList_setIfInBounds, List.take_set]
theorem own_kept {w w' : World} {B n sz : Nat} {e : TypeId} {v : Value} {xs : List Value} (h : w.ownsRow B e sz v n xs) (hk : ∀ k, v.ownBlock = some k → w'.heap[k]? = w.heap[k]?) : w'.ownsRow B e sz v n xs := by
  refine ⟨h.1, ?_⟩
  rcases h.2 with h1 | ⟨g', cap, cur, hv, hb, hh, hx⟩
  · exact .inl h1
  · exact .inr ⟨g', cap, cur, hv, hb, (hk g' (by rw [hv]; rfl)).trans hh, hx⟩
theorem own_at {w : World} {B n c r : Nat} {e : TypeId} {xs : List Value} (h : w.ownsRow B e 1 (.slice (some ⟨r, 0, none⟩) n c) n xs) {j : Nat} {u : Value} (hu : xs[j]? = some u) : w.cell? ⟨r, j, none⟩ = some u := by
  have := (Src.of_own h).at_ _ rfl j u hu
  rwa [plainAdd, Nat.zero_add] at this
theorem info3 {P : Program} {t : TypeId} {z : Value} {a b : Nat} (h : (P.info? t).map (fun i => (i.zero, i.size, i.bytes)) = some (some z, a, b)) : ∃ i, P.info? t = some i ∧ i.zero = some z ∧ i.size = a ∧ i.bytes = b := by
  obtain ⟨i, hi, hz⟩ := Option.map_eq_some_iff.1 h
  simp only [Prod.mk.injEq] at hz
  exact ⟨i, hi, hz.1, hz.2.1, hz.2.2⟩
theorem noughts (n : Nat) : (madeCells (Value.int .i64 0).cells (n * 1)).toList = ints ((List.range n).map fun _ => (0 : Int)) := by
  apply List.ext_getElem
  · simp [madeCells, ints]
  · intro i h1 h2
    simp [madeCells, ints, Value.cells, Nat.mod_one]

abbrev fdA (t : Fd) : Array Value := #[.int .i64 t.1, .int .i64 t.2.1, .bool t.2.2]
abbrev fdV (t : Fd) : Value := .agg (fdA t)
/-- Only the block r, and what comes behind, has other cells. -/
structure But (r : Nat) (w w' : World) : Prop where
  os : w'.os = w.os
  tape : w'.tape = w.tape
  output : w'.output = w.output
  size : w.heap.size ≤ w'.heap.size
  block : ∀ k, k ≠ r → k < w.heap.size → w'.heap[k]? = w.heap[k]?
theorem But.below {r B : Nat} {w w' : World} (h : But r w w') (hB : B ≤ r) (hw : B ≤ w.heap.size) : Below B w w' := ⟨h.os, h.tape, h.output, h.size, fun k hk => h.block k (by omega) (by omega)⟩

set_option maxRecDepth 100000 in
set_option maxHeartbeats 1000000 in
/-- The first symbol that matches. -/
theorem scan_any (r : Sym) (A : Option Addr) (n c : Nat) (ss : List Sym) (w : World) (h : Syl w (fun k => k < w.heap.size) A n c ss) (hn : n ≤ 1000000000000000000) : Calls Try.prog 34 #[symV r, .slice A n c] w fun e w' => e = .returned (.int .i64 (firstS r ss)) ∧ Below w.heap.size w w' := by
  obtain rfl := h.len
  have H := Lib.hid h
  have HB1 := Lib.hid (box_below w r)
  have HY1 := Lib.hid (Sx.new w r)
  have HV := Lib.hid (fun (X : World) (hX : Below w.heap.size w X) => versioned_any A ss.length c ss X (H.out.lt hX) (by omega))
  have HFI := Lib.hid (fun k hk h hlt => first_is (r := r) (ss := ss) (k := k) hk h hlt)
  have HFN := Lib.hid (fun h => first_none (r := r) (ss := ss) h)
  clear h
  go_enter Try.func34, Try.ntmps34
  go_upto_region 1 with (fail)
  change Code.wp _ _ _ _ (w.alloc (.cells (symA r) 25))
  generalize w.alloc (.cells (symA r) 25) = w1 at *
  generalize hv : ss.any vdB = v at *
  go_upto_region 2 with (go_at_call 47; (with_reducible refine (HV.out _ HB1.out).mono ?_); rintro e w2 ⟨rfl, hb2⟩; have HB2 := Lib.hid (HB1.out.trans (hb2.mono HB1.out.size)); have HY2 := Lib.hid (HY1.out.below hb2); clear hb2)
  have HHV := Lib.hid hv
  clear hv HY1 HB1 HV
  go_upto_region 3 with (fail)
  go_loopw [12] (fun t wr => ∃ k : Nat, k ≤ ss.length ∧ t = .int .i64 (k : Int) ∧ Below w2.heap.size w2 wr ∧ ∀ j (hj : j < ss.length), j < k → matchB r ss[j] v = false) (fun t _ => ss.length - (intOf t).toNat)
  case atStart => exact ⟨0, Nat.zero_le _, rfl, Below.refl _ _, fun j _ hj => by omega⟩
  case round =>
    obtain ⟨k, hk, rfl, hb, hno⟩ := hrel
    have HB := Lib.hid hb
    have HNO := Lib.hid hno
    have HBW := Lib.hid (HB2.out.trans (hb.mono HB2.out.size))
    have HYR := Lib.hid (HY2.out.below hb)
    clear hb hno
    by_cases hlt : k < ss.length
    · obtain ⟨ad, rfl⟩ : ∃ ad, A = some ad := by
        cases A with
        | none => have := (H.out.nil rfl).1; omega
        | some ad => exact ⟨ad, rfl⟩
      obtain ⟨b, o, rfl⟩ := H.out.plain (by omega)
      have hcap := H.out.cap
      obtain ⟨c0, c1, c2, c3, c4, c5, c6, c7, c8⟩ := (H.out.lt HBW.out).get k hlt
      have HYE := Lib.hid (fun h => HFI.out k hlt h (fun j hj hjk => HNO.out j hj hjk))
      have HON := Lib.hid (show matchB r ss[k] v = false → ∀ j (hj : j < ss.length), j < k + 1 → matchB r ss[j] v = false from fun h j hj hjk => by
        by_cases hjk' : j < k
        · exact HNO.out j hj hjk'
        · obtain rfl : j = k := by omega
          exact h)
      have HMA := Lib.hid (fun X => match_any r ss[k] v X)
      generalize ss[k] = y at *
      generalize hml : matchB r y v = ml at *
      have hk0 : (0 : Int) ≤ (k : Int) := by omega
      have hk1 : (k : Int) < (ss.length : Int) := by omega
      go_upto_region 5 with (fail)
      have hby := box_below wr y
      have HY3 := Lib.hid (Sx.new wr y)
      have HYR3 := Lib.hid (HYR.out.below hby)
      have HB3 := Lib.hid (HB.out.trans (hby.mono HB.out.size))
      clear hby c0 c1 c2 c3 c4 c5 c6 c7 c8
      change Code.wp _ _ _ _ (wr.alloc (.cells (symA y) 25))
      generalize wr.alloc (.cells (symA y) 25) = w3 at *
      obtain ⟨y0, y1, y2, y3, y4, y5, y6, y7, y8⟩ := HY3.out.cells
      obtain ⟨r0, r1, r2, r3, r4, r5, r6, r7, r8⟩ := HYR3.out.cells
      cases ml
      · have HN := Lib.hid (HON.out rfl)
        go_wp2_with (with_reducible refine (HMA.out _).mono ?_; rintro e w4 ⟨rfl, hb4⟩; have HB4 := Lib.hid (HB3.out.trans (hb4.mono HB3.out.size)); clear hb4)
        go_roundw
        case rel => exact ⟨k + 1, by omega, by go_num, HB4.out, HN.out⟩
        case measure => simp [intOf]; omega
      · have HN := Lib.hid (HYE.out rfl)
        go_wp2_with (with_reducible refine (HMA.out _).mono ?_; rintro e w4 ⟨rfl, hb4⟩; have HB4 := Lib.hid (HB3.out.trans (hb4.mono HB3.out.size)); clear hb4)
        first | go_ret2 | go_ret | skip
        rw [HN.out]
        exact ⟨rfl, HB2.out.trans (HB4.out.mono HB2.out.size)⟩
    · obtain rfl : k = ss.length := by omega
      have HN := Lib.hid (HFN.out fun j hj => HNO.out j hj hj)
      go_wp2
      first | go_ret2 | go_ret | skip
      rw [HN.out]
      exact ⟨rfl, HBW.out⟩
end Go.Proofs.Ytpcgedngikpnoaa
