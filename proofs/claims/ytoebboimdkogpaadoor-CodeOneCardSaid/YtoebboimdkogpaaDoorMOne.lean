/-
  A byte turned: the law's walk.
-/
import Derived.Test.YtoebboimdkogpaaDoorS
import Derived.Laws.BitsAllLaws
import Derived.Deep.RegionHeld3
namespace Go.Proofs.YtoebboimdkogpaaDoor
open Go.RowKit

theorem xor_other (x y : UInt8) (hy : ¬ y.toNat = 0) : ∃ z : UInt8, bits .xor .u8 (x.toNat : Int) (y.toNat : Int) = (z.toNat : Int) ∧ z ≠ x := by
  refine ⟨x ^^^ y, ?_, ?_⟩
  · rw [u8_xor_nat _ _ x.toNat_lt y.toNat_lt, UInt8.toNat_xor]
  · intro e
    have h := congrArg UInt8.toNat e
    rw [UInt8.toNat_xor] at h
    have h2 := congrArg (fun n => x.toNat ^^^ n) h
    simp only [← Nat.xor_assoc, Nat.xor_self, Nat.zero_xor] at h2
    exact hy h2
theorem dec_one (l : Str) (h : l.length = 8) : ∃ j, decI l = [j] := by
  obtain ⟨x0, x1, x2, x3, x4, x5, x6, x7, r, rfl⟩ := eight_of l (by omega)
  have hr : r = [] := List.eq_nil_of_length_eq_zero (by simp only [List.length_cons] at h; omega)
  subst hr
  exact ⟨_, rfl⟩

set_option maxRecDepth 100000 in
set_option maxHeartbeats 4000000 in
theorem one_any (op a b c n : Int) (at_ by_ : UInt8) (w : World) (he : Env w) : Calls Tryd.prog 9 #[.agg #[.int .i64 op, .int .i64 a, .int .i64 b, .int .i64 c, .int .i64 n], .int .u8 (at_.toNat : Int), .int .u8 (by_.toNat : Int)] w fun e w' => e = .returned (.bool true) ∧ Below w.heap.size w w' := by
  have hb0 := (Below.refl w.heap.size w).alloc (Nat.le_refl _) (.cells #[.int .i64 op, .int .i64 a, .int .i64 b, .int .i64 c, .int .i64 n] 35)
  have HA := Lib.hid (awake_any _ (he.below hb0))
  have HB0 := Lib.hid hb0
  have HX := Lib.hid (Bx.new w #[.int .i64 op, .int .i64 a, .int .i64 b, .int .i64 c, .int .i64 n] 35)
  have HE := Lib.hid he
  clear hb0
  clear he
  go_enter Tryd.func9, Tryd.ntmps9
  go_wp2_with fail
  refine HA.out.mono ?_
  rintro e w1 ⟨rfl, hb1⟩
  have HX1 := Lib.hid (HX.out.below hb1)
  have HB1 := Lib.hid ((HB0.out.trans (hb1.mono HB0.out.size)).alloc (HB0.out.trans (hb1.mono HB0.out.size)).size (.cells #[.int .i64 op, .int .i64 a, .int .i64 b, .int .i64 c, .int .i64 n] 35))
  have x0 := HX1.out.c 0
  have x1 := HX1.out.c 1
  have x2 := HX1.out.c 2
  have x3 := HX1.out.c 3
  have x4 := HX1.out.c 4
  have HI := Lib.hid (isl_one w1 ⟨op, a, b, c, n⟩)
  have HXA := Lib.hid (HX1.out.alloc (.cells #[.int .i64 op, .int .i64 a, .int .i64 b, .int .i64 c, .int .i64 n] 35))
  have HB1s := Lib.hid (show w.heap.size + 1 ≤ (w1.alloc (.cells #[.int .i64 op, .int .i64 a, .int .i64 b, .int .i64 c, .int .i64 n] 35)).heap.size by have := HX1.out.lt; rw [World.size_alloc]; omega)
  clear hb1 HA HX HB0
  go_wp2_with fail
  refine (encode_any _ _ _ _ _ _ HI.out (by decide) (HE.out.below HB1.out).sh).mono ?_
  rintro e w2 ⟨hb2, ⟨hm, rfl⟩ | ⟨hm, A2, c2, rfl, ho2⟩⟩
  · have HB2 := Lib.hid (HB1.out.trans (hb2.mono HB1.out.size))
    clear hb2 HB1 HI HE
    go_wp2_with fail
    go_ret
    exact ⟨rfl, HB2.out⟩
  · have HB2 := Lib.hid (HB1.out.trans (hb2.mono HB1.out.size))
    have HX2 := Lib.hid (HXA.out.below hb2)
    have hEL : encL [⟨op, a, b, c, n⟩] = bytesOf ⟨op, a, b, c, n⟩ := by simp [encL]
    rw [hEL] at ho2
    obtain ⟨g, rfl⟩ : ∃ g, A2 = some ⟨g, 0, none⟩ := by
      rcases ho2.2 with ⟨h1, _⟩ | ⟨g, _, _, h1, _⟩
      · cases h1
      · cases h1; exact ⟨g, rfl⟩
    have HO2 := Lib.hid ho2
    have hk8 : at_.toNat % 8 < 8 := Nat.mod_lt _ (by decide)
    obtain ⟨x, hx⟩ : ∃ x, (bytesOf ⟨op, a, b, c, n⟩)[at_.toNat % 8]? = some x := ⟨_, List.getElem?_eq_getElem (by simp [bytesOf]; exact hk8)⟩
    have HXX := Lib.hid hx
    have hcell : w2.cell? ⟨g, at_.toNat % 8, none⟩ = some (.int .u8 (x.toNat : Int)) := by
      rw [ho2.cellAt _ (by simpa using hk8)]
      simp [cells, hx]
    have hfro : w2.frozen? ⟨g, at_.toNat % 8, none⟩ = false := ho2.frozenAt _
    have hi0 : (0 : Int) ≤ (at_.toNat : Int) % 8 := by omega
    have hi8 : (at_.toNat : Int) % 8 < 8 := by omega
    have hin : ((at_.toNat : Int) % 8).toNat = at_.toNat % 8 := by omega
    clear hb2 HB1 HI ho2 hEL hx
    by_cases hby : by_.toNat = 0
    · have hz : ((by_.toNat : Int) == 0) = true := by simp [hby]
      go_wp2_with fail
      go_ret
      exact ⟨rfl, HB2.out⟩
    · have hz : ((by_.toNat : Int) == 0) = false := by simp [hby]
      go_wp2_with fail
      obtain ⟨z, hz', hzx⟩ := xor_other x by_ hby
      rw [hz']
      obtain ⟨j, hj⟩ := dec_one ((bytesOf ⟨op, a, b, c, n⟩).set (at_.toNat % 8) z) (by simp [bytesOf])
      have HNE := Lib.hid (one_other ⟨op, a, b, c, n⟩ (at_.toNat % 8) z (fun x' hx' => by rw [HXX.out] at hx'; cases hx'; exact hzx) hk8)
      obtain ⟨hs1, hg1⟩ := HO2.out.stored (at_.toNat % 8) (.int .u8 (z.toNat : Int))
      have hc : (cells (bytesOf ⟨op, a, b, c, n⟩)).set (at_.toNat % 8) (.int .u8 (z.toNat : Int)) = cells ((bytesOf ⟨op, a, b, c, n⟩).set (at_.toNat % 8) z) := by simp [cells, List.map_set]
      rw [hc] at hs1
      have hlo := (HO2.out.lt g rfl).1
      have hb3 := HB2.out.grown hg1 HB2.out.size (fun k hk => by cases hk; have := HB1s.out; omega)
      have hx3 : Bx (w2.setCell ⟨g, at_.toNat % 8, none⟩ (.int .u8 (z.toNat : Int))) w.heap.size #[.int .i64 op, .int .i64 a, .int .i64 b, .int .i64 c, .int .i64 n] 35 := HX2.out.other (a := ⟨g, at_.toNat % 8, none⟩) (by simp; have := HB1s.out; omega) _
      generalize w2.setCell ⟨g, at_.toNat % 8, none⟩ (.int .u8 (z.toNat : Int)) = w3 at *
      refine (decode_any _ _ _ _ _ _ (Src.of_own hs1) (by simp) (HE.out.below hb3).sh).mono ?_
      rintro e w4 ⟨hb4, ⟨hm4, rfl⟩ | ⟨hm4, A4, c4, rfl, ho4⟩⟩
      · have HB4 := Lib.hid (hb3.trans (hb4.mono hb3.size))
        clear hb4 hb3 hx3 hg1 hs1 HE HB2 hc
        go_wp2_with fail
        go_ret
        exact ⟨rfl, HB4.out⟩
      · have HB4 := Lib.hid (hb3.trans (hb4.mono hb3.size))
        have HX4 := Lib.hid (hx3.below hb4)
        rw [hj] at ho4 HNE
        obtain ⟨g4, rfl⟩ : ∃ g, A4 = some ⟨g, 0, none⟩ := by
          rcases ho4.2 with ⟨h1, _⟩ | ⟨g, _, _, h1, _⟩
          · cases h1
          · cases h1; exact ⟨g, rfl⟩
        have hI4 := (Isl.of_own ho4).get 0 (by simp)
        obtain ⟨j0, j1, j2, j3, j4⟩ := j
        obtain ⟨k0, k1, k2, k3, k4⟩ := hI4
        simp only [Nat.zero_mul, Nat.zero_add, Nat.add_zero, List.getElem_cons_zero] at k0 k1 k2 k3 k4
        have y0 := HX4.out.c 0
        have y1 := HX4.out.c 1
        have y2 := HX4.out.c 2
        have y3 := HX4.out.c 3
        have y4 := HX4.out.c 4
        simp only [List.getElem?_toArray, List.getElem?_cons_zero, List.getElem?_cons_succ] at y0 y1 y2 y3 y4
        clear hb4 hb3 hx3 hg1 hs1 HE HB2 hc ho4 x0 x1 x2 x3 x4 HX1 HXA HX2 HX4 HO2 HB1s hcell hfro hi0 hi8 hin HXX hlo hk8 hby hz hz' hzx hm hm4
        have hne := neq_ins ⟨j0, j1, j2, j3, j4⟩ ⟨op, a, b, c, n⟩ (fun e => HNE.out (by rw [e]))
        simp only at hne
        rw [hj]
        go_wp2_with fail
        go_region_held3 (fun w' => w'.cell? ⟨g4, 0, none⟩ = some (.int .i64 j0) ∧ w'.cell? ⟨g4, 1, none⟩ = some (.int .i64 j1) ∧ w'.cell? ⟨g4, 2, none⟩ = some (.int .i64 j2) ∧ w'.cell? ⟨g4, 3, none⟩ = some (.int .i64 j3) ∧ w'.cell? ⟨g4, 4, none⟩ = some (.int .i64 j4) ∧ w'.cell? ⟨w.heap.size, 0, none⟩ = some (.int .i64 op) ∧ w'.cell? ⟨w.heap.size, 1, none⟩ = some (.int .i64 a) ∧ w'.cell? ⟨w.heap.size, 2, none⟩ = some (.int .i64 b) ∧ w'.cell? ⟨w.heap.size, 3, none⟩ = some (.int .i64 c) ∧ w'.cell? ⟨w.heap.size, 4, none⟩ = some (.int .i64 n)) (first | (exact ⟨by assumption, by assumption, by assumption, by assumption, by assumption, by assumption, by assumption, by assumption, by assumption, by assumption⟩) | go_keep) (fail)
        all_goals
          go_wp2_with fail
        all_goals
          go_ret
          exact ⟨rfl, below_draw HB4.out⟩
end Go.Proofs.YtoebboimdkogpaaDoor
