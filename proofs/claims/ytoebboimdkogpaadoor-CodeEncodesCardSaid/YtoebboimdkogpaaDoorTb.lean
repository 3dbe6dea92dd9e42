/-
  Whether two lists of instructions are the same: the document's.
-/
import Derived.Test.YtoebboimdkogpaaDoorS
import Derived.Deep.RegionHeld3
namespace Go.Proofs.YtoebboimdkogpaaDoor
open Go.RowKit

theorem neq_same (i : Ins) (w : World) : (binOp .neq 35 (.agg #[.int .i64 i.op, .int .i64 i.a, .int .i64 i.b, .int .i64 i.c, .int .i64 i.n]) (.agg #[.int .i64 i.op, .int .i64 i.a, .int .i64 i.b, .int .i64 i.c, .int .i64 i.n])).run Tryd.prog w = .ok (.bool false) w := by
  rw [run_neq_struct, eq_ins]
  simp [Result.andThen]
theorem take_more {α : Type} {a b : List α} {k : Nat} (h : a.take k = b.take k) (ha : k < a.length) (hb : k < b.length) (he : a[k] = b[k]) : a.take (k + 1) = b.take (k + 1) := by
  rw [List.take_succ_eq_append_getElem ha, List.take_succ_eq_append_getElem hb, h, he]

set_option maxRecDepth 100000 in
set_option maxHeartbeats 4000000 in
theorem rsame_any (P Q : Nat → Prop) (A : Option Addr) (n c : Nat) (is : List Ins) (B : Option Addr) (m d : Nat) (js : List Ins) (w : World) (h : Isl w P A n c is) (h2 : Isl w Q B m d js) (hn : n ≤ 4611686018427387904) :
    Calls Tryd.prog 23 #[.slice A n c, .slice B m d] w fun e w' => e = .returned (.bool (decide (is = js))) ∧ Below w.heap.size w w' := by
  have hl := h.len
  have hl2 := h2.len
  have H := Lib.hid h.lt
  have H2 := Lib.hid h2.lt
  clear h h2
  by_cases hnm : n = m
  · subst hnm
    have hnn : ((n : Int) != (n : Int)) = false := by simp
    generalize hR : decide (is = js) = R
    have HR := Lib.hid hR
    clear hR
    go_enter Tryd.func23, Tryd.ntmps23
    go_wp2_with fail
    go_loopw [5] (fun i wr => ∃ k : Nat, k ≤ n ∧ i = .int .i64 k ∧ is.take k = js.take k ∧ Below w.heap.size w wr) (fun i _ => n - (intOf i).toNat)
    case atStart => exact ⟨0, Nat.zero_le _, rfl, rfl, Below.refl _ _⟩
    case round =>
      obtain ⟨k, hk, rfl, ht, hb⟩ := hrel
      have HB := Lib.hid hb
      have HT := Lib.hid ht
      clear hb ht
      by_cases hkn : k < n
      · cases A with
        | none => have := (H.out.nil rfl).1; omega
        | some ad =>
          obtain ⟨b, o, rfl⟩ := H.out.plain (by omega)
          cases B with
          | none => have := (H2.out.nil rfl).1; omega
          | some bd =>
            obtain ⟨b2, o2, rfl⟩ := H2.out.plain (by omega)
            obtain ⟨c0, c1, c2, c3, c4⟩ := (H.out.below HB.out (fun _ h => h)).get k (by omega)
            obtain ⟨e0, e1, e2, e3, e4⟩ := (H2.out.below HB.out (fun _ h => h)).get k (by omega)
            have hki : k < is.length := by omega
            have hkj : k < js.length := by omega
            have HM := Lib.hid (fun (he : is[k]'hki = js[k]'hkj) => take_more HT.out hki hkj he)
            have HNO := Lib.hid (fun (he : is[k]'hki ≠ js[k]'hkj) => (show R = false by
              rw [← HR.out]
              refine decide_eq_false fun e => he ?_
              subst e
              rfl))
            generalize is[k]'hki = i at *
            generalize js[k]'hkj = j at *
            by_cases hij : i = j
            · subst hij
              have HM2 := Lib.hid (HM.out rfl)
              have hne := neq_same i
              obtain ⟨i0, i1, i2, i3, i4⟩ := i
              simp only at hne c0 c1 c2 c3 c4 e0 e1 e2 e3 e4
              clear HNO HT HM
              go_wp2_with fail
              go_region_held3 (fun w' => w'.cell? ⟨b, o + k * 5, none⟩ = some (.int .i64 i0) ∧ w'.cell? ⟨b, o + k * 5 + 1, none⟩ = some (.int .i64 i1) ∧ w'.cell? ⟨b, o + k * 5 + 2, none⟩ = some (.int .i64 i2) ∧ w'.cell? ⟨b, o + k * 5 + 3, none⟩ = some (.int .i64 i3) ∧ w'.cell? ⟨b, o + k * 5 + 4, none⟩ = some (.int .i64 i4) ∧ w'.cell? ⟨b2, o2 + k * 5, none⟩ = some (.int .i64 i0) ∧ w'.cell? ⟨b2, o2 + k * 5 + 1, none⟩ = some (.int .i64 i1) ∧ w'.cell? ⟨b2, o2 + k * 5 + 2, none⟩ = some (.int .i64 i2) ∧ w'.cell? ⟨b2, o2 + k * 5 + 3, none⟩ = some (.int .i64 i3) ∧ w'.cell? ⟨b2, o2 + k * 5 + 4, none⟩ = some (.int .i64 i4)) (first | (exact ⟨by assumption, by assumption, by assumption, by assumption, by assumption, by assumption, by assumption, by assumption, by assumption, by assumption⟩) | go_keep) (fail)
              all_goals
                go_wp2_with fail
              all_goals
                exact ⟨⟨k + 1, by omega, by go_num, HM2.out, below_draw HB.out⟩, by simp [intOf]; omega⟩
            · have HN2 := Lib.hid (HNO.out hij)
              have hne := neq_ins i j hij
              obtain ⟨i0, i1, i2, i3, i4⟩ := i
              obtain ⟨j0, j1, j2, j3, j4⟩ := j
              simp only at hne c0 c1 c2 c3 c4 e0 e1 e2 e3 e4
              clear HM HT hij HNO
              go_wp2_with fail
              go_region_held3 (fun w' => w'.cell? ⟨b, o + k * 5, none⟩ = some (.int .i64 i0) ∧ w'.cell? ⟨b, o + k * 5 + 1, none⟩ = some (.int .i64 i1) ∧ w'.cell? ⟨b, o + k * 5 + 2, none⟩ = some (.int .i64 i2) ∧ w'.cell? ⟨b, o + k * 5 + 3, none⟩ = some (.int .i64 i3) ∧ w'.cell? ⟨b, o + k * 5 + 4, none⟩ = some (.int .i64 i4) ∧ w'.cell? ⟨b2, o2 + k * 5, none⟩ = some (.int .i64 j0) ∧ w'.cell? ⟨b2, o2 + k * 5 + 1, none⟩ = some (.int .i64 j1) ∧ w'.cell? ⟨b2, o2 + k * 5 + 2, none⟩ = some (.int .i64 j2) ∧ w'.cell? ⟨b2, o2 + k * 5 + 3, none⟩ = some (.int .i64 j3) ∧ w'.cell? ⟨b2, o2 + k * 5 + 4, none⟩ = some (.int .i64 j4)) (first | (exact ⟨by assumption, by assumption, by assumption, by assumption, by assumption, by assumption, by assumption, by assumption, by assumption, by assumption⟩) | go_keep) (fail)
              all_goals
                go_wp2_with fail
              all_goals
                go_ret
                exact ⟨by rw [HN2.out]; rfl, below_draw HB.out⟩
      · obtain rfl : k = n := by omega
        have HE := Lib.hid (show R = true by
          rw [← HR.out]
          refine decide_eq_true ?_
          have := HT.out
          rw [List.take_of_length_le (by omega), List.take_of_length_le (by omega)] at this
          exact this)
        go_wp2
        go_ret
        exact ⟨by rw [HE.out]; rfl, HB.out⟩
  · have hnn : ((n : Int) != (m : Int)) = true := by simp; omega
    have HE := Lib.hid (show decide (is = js) = false from decide_eq_false fun e => hnm (by rw [← hl, ← hl2, e]))
    go_enter Tryd.func23, Tryd.ntmps23
    go_wp2
    go_ret
    exact ⟨by rw [HE.out]; rfl, Below.refl _ _⟩
end Go.Proofs.YtoebboimdkogpaaDoor
