/-
  The document's reading of eight bytes.
-/
import Derived.Test.YtoebboimdkogpaaDoorI
namespace Go.Proofs.YtoebboimdkogpaaDoor
open Go.RowKit

theorem set5_bx {w : World} {g : Nat} {t : TypeId} {u0 u1 u2 u3 u4 : Value} (h : Bx w g #[u0, u1, u2, u3, u4] t) (v0 v1 v2 v3 v4 : Value) : Bx (((((w.setCell ⟨g, 0, none⟩ v0).setCell ⟨g, 1, none⟩ v1).setCell ⟨g, 2, none⟩ v2).setCell ⟨g, 3, none⟩ v3).setCell ⟨g, 4, none⟩ v4) g #[v0, v1, v2, v3, v4] t := by
  have h0 := heap_setCell_same w g 0 _ _ v0 h
  have h1 := heap_setCell_same _ g 1 _ _ v1 h0
  have h2 := heap_setCell_same _ g 2 _ _ v2 h1
  have h3 := heap_setCell_same _ g 3 _ _ v3 h2
  exact heap_setCell_same _ g 4 _ _ v4 h3
/-- Where a reading stands: its result's block, and the instruction's. -/
structure ReadAt (w0 w : World) (i : Ins) : Prop where
  below : Below w0.heap.size w0 w
  box : Bx w (w0.heap.size + 1) #[.int .i64 i.op, .int .i64 i.a, .int .i64 i.b, .int .i64 i.c, .int .i64 i.n] 35
  res : Bx w w0.heap.size #[.int .i64 0, .int .i64 0, .int .i64 0, .int .i64 0, .int .i64 0] 35
theorem ReadAt.on {w0 w w' : World} {i : Ins} (h : ReadAt w0 w i) (hb : Below w.heap.size w w') : ReadAt w0 w' i :=
  ⟨h.below.trans (hb.mono h.below.size), h.box.below hb, h.res.below hb⟩
theorem ReadAt.cells {w0 w : World} {i : Ins} (h : ReadAt w0 w i) :
    w.cell? ⟨w0.heap.size + 1, 0, none⟩ = some (.int .i64 i.op) ∧ w.cell? ⟨w0.heap.size + 1, 1, none⟩ = some (.int .i64 i.a) ∧ w.cell? ⟨w0.heap.size + 1, 2, none⟩ = some (.int .i64 i.b) ∧ w.cell? ⟨w0.heap.size + 1, 3, none⟩ = some (.int .i64 i.c) ∧ w.cell? ⟨w0.heap.size + 1, 4, none⟩ = some (.int .i64 i.n) ∧
    w.cell? ⟨w0.heap.size, 0, none⟩ = some (.int .i64 0) ∧ w.cell? ⟨w0.heap.size, 1, none⟩ = some (.int .i64 0) ∧ w.cell? ⟨w0.heap.size, 2, none⟩ = some (.int .i64 0) ∧ w.cell? ⟨w0.heap.size, 3, none⟩ = some (.int .i64 0) ∧ w.cell? ⟨w0.heap.size, 4, none⟩ = some (.int .i64 0) ∧
    w.frozen? ⟨w0.heap.size, 0, none⟩ = false ∧ w.frozen? ⟨w0.heap.size, 1, none⟩ = false ∧ w.frozen? ⟨w0.heap.size, 2, none⟩ = false ∧ w.frozen? ⟨w0.heap.size, 3, none⟩ = false ∧ w.frozen? ⟨w0.heap.size, 4, none⟩ = false :=
  ⟨h.box.c 0, h.box.c 1, h.box.c 2, h.box.c 3, h.box.c 4, h.res.c 0, h.res.c 1, h.res.c 2, h.res.c 3, h.res.c 4, h.res.f 0, h.res.f 1, h.res.f 2, h.res.f 3, h.res.f 4⟩

set_option maxRecDepth 100000 in
set_option maxHeartbeats 2000000 in
theorem rread_any (P : Nat → Prop) (A : Option Addr) (n c : Nat) (x0 x1 x2 x3 x4 x5 x6 x7 : UInt8) (l : Str) (w : World) (h : Src w P A n c (cells (x0 :: x1 :: x2 :: x3 :: x4 :: x5 :: x6 :: x7 :: l))) :
    Calls Tryd.prog 39 #[.slice A n c] w fun e w' => e = .returned (.tuple #[insV (insOf x0 x1 x2 x3 x4 x5 x6 x7), .bool (mayB (insOf x0 x1 x2 x3 x4 x5 x6 x7))]) ∧ Below w.heap.size w w' := by
  obtain ⟨b, o, rfl, c0, c1, c2, c3, c4, c5, c6, c7, hl⟩ := eight h
  have b0 := x0.toNat_lt
  have b1 := x1.toNat_lt
  have b2 := x2.toNat_lt
  have b3 := x3.toNat_lt
  have b4 := x4.toNat_lt
  have b5 := x5.toNat_lt
  have b6 := x6.toNat_lt
  have b7 := x7.toNat_lt
  have n0 : (0 : Int) < (n : Int) := by omega
  have n1 : (1 : Int) < (n : Int) := by omega
  have n2 : (2 : Int) < (n : Int) := by omega
  have n3 : (3 : Int) < (n : Int) := by omega
  have n4' : (4 : Int) < (n : Int) := by omega
  have n5 : (5 : Int) < (n : Int) := by omega
  have n6 : (6 : Int) < (n : Int) := by omega
  have n7 : (7 : Int) < (n : Int) := by omega
  have d0 := cell_alloc c0 (.cells #[.int .i64 0, .int .i64 0, .int .i64 0, .int .i64 0, .int .i64 0] 35)
  have d1 := cell_alloc c1 (.cells #[.int .i64 0, .int .i64 0, .int .i64 0, .int .i64 0, .int .i64 0] 35)
  have d2 := cell_alloc c2 (.cells #[.int .i64 0, .int .i64 0, .int .i64 0, .int .i64 0, .int .i64 0] 35)
  have d3 := cell_alloc c3 (.cells #[.int .i64 0, .int .i64 0, .int .i64 0, .int .i64 0, .int .i64 0] 35)
  have d4 := cell_alloc c4 (.cells #[.int .i64 0, .int .i64 0, .int .i64 0, .int .i64 0, .int .i64 0] 35)
  have d5 := cell_alloc c5 (.cells #[.int .i64 0, .int .i64 0, .int .i64 0, .int .i64 0, .int .i64 0] 35)
  have d6 := cell_alloc c6 (.cells #[.int .i64 0, .int .i64 0, .int .i64 0, .int .i64 0, .int .i64 0] 35)
  have d7 := cell_alloc c7 (.cells #[.int .i64 0, .int .i64 0, .int .i64 0, .int .i64 0, .int .i64 0] 35)
  have HRD := Lib.hid (fun (w1 : World) (h : ReadAt w w1 ⟨x0.toNat, x1.toNat, x2.toNat, x3.toNat, n4 x4 x5 x6 x7⟩) => (rmay_any ⟨x0.toNat, x1.toNat, x2.toNat, x3.toNat, n4 x4 x5 x6 x7⟩ w1).mono (R' := fun e w' => e = .returned (.bool (mayB ⟨x0.toNat, x1.toNat, x2.toNat, x3.toNat, n4 x4 x5 x6 x7⟩)) ∧ ReadAt w w' ⟨x0.toNat, x1.toNat, x2.toNat, x3.toNat, n4 x4 x5 x6 x7⟩ ∧ _) (fun e w' h2 => ⟨h2.1, h.on h2.2, (h.on h2.2).cells⟩))
  simp only at HRD
  rw [show insOf x0 x1 x2 x3 x4 x5 x6 x7 = ⟨x0.toNat, x1.toNat, x2.toNat, x3.toNat, n4 x4 x5 x6 x7⟩ from rfl]
  generalize mayB ⟨x0.toNat, x1.toNat, x2.toNat, x3.toNat, n4 x4 x5 x6 x7⟩ = M at *
  clear h
  go_enter Tryd.func39, Tryd.ntmps39
  go_wp2_with fail
  go_quiet (fail)
  rw [show ((x4.toNat : Int) + 256 * x5.toNat + 65536 * x6.toNat + 16777216 * x7.toNat) = (m4 x4 x5 x6 x7 : Int) by unfold m4; omega]
  have hm : m4 x4 x5 x6 x7 < 4294967296 := by unfold m4; omega
  have hn4 : n4 x4 x5 x6 x7 = if 2147483648 ≤ m4 x4 x5 x6 x7 then (m4 x4 x5 x6 x7 : Int) - 4294967296 else m4 x4 x5 x6 x7 := rfl
  generalize m4 x4 x5 x6 x7 = m at *
  have HN := Lib.hid hn4
  clear hn4
  have n00 : 0 < n := by omega
  clear d4 d5 d6 d7 c4 c5 c6 c7 b4 b5 b6 b7 n4' n5 n6 n7
  have hmi : (m : Int) < 4294967296 := by omega
  by_cases hg : 2147483648 ≤ m
  all_goals
    first
      | (have hgi : (2147483648 : Int) ≤ (m : Int) := by omega
         have HN := Lib.hid (show n4 x4 x5 x6 x7 = (m : Int) - 4294967296 by rw [HN.out, if_pos hg]))
      | (have hgi : decide ((2147483648 : Int) ≤ (m : Int)) = false := decide_eq_false (by omega)
         have HN := Lib.hid (show n4 x4 x5 x6 x7 = (m : Int) by rw [HN.out, if_neg hg]))
    clear hg hm
    go_wp2_with (fail)
    rw [← HN.out]
    clear HN hmi hgi
    go_region_held3 (fun w' => w'.cell? ⟨b, o, none⟩ = some (.int .u8 x0.toNat) ∧ w'.cell? ⟨b, o + 1, none⟩ = some (.int .u8 x1.toNat) ∧ w'.cell? ⟨b, o + 2, none⟩ = some (.int .u8 x2.toNat) ∧ w'.cell? ⟨b, o + 3, none⟩ = some (.int .u8 x3.toNat)) (go_keep) (fail)
    simp only [wrap_u8]
    have hb4 : Below w.heap.size w (((w.alloc (.cells #[.int .i64 0, .int .i64 0, .int .i64 0, .int .i64 0, .int .i64 0] 35)).drewN (nq + 1)).alloc (.cells #[.int .i64 x0.toNat, .int .i64 x1.toNat, .int .i64 x2.toNat, .int .i64 x3.toNat, .int .i64 (n4 x4 x5 x6 x7)] 35)) := (below_drewN ((Below.refl _ _).alloc (Nat.le_refl _) _) _).alloc (by simp [World.drewN]) _
    have hx4 : Bx (((w.alloc (.cells #[.int .i64 0, .int .i64 0, .int .i64 0, .int .i64 0, .int .i64 0] 35)).drewN (nq + 1)).alloc (.cells #[.int .i64 x0.toNat, .int .i64 x1.toNat, .int .i64 x2.toNat, .int .i64 x3.toNat, .int .i64 (n4 x4 x5 x6 x7)] 35)) (w.heap.size + 1) #[.int .i64 x0.toNat, .int .i64 x1.toNat, .int .i64 x2.toNat, .int .i64 x3.toNat, .int .i64 (n4 x4 x5 x6 x7)] 35 := by
      have := Bx.new ((w.alloc (.cells #[.int .i64 0, .int .i64 0, .int .i64 0, .int .i64 0, .int .i64 0] 35)).drewN (nq + 1)) #[.int .i64 x0.toNat, .int .i64 x1.toNat, .int .i64 x2.toNat, .int .i64 x3.toNat, .int .i64 (n4 x4 x5 x6 x7)] 35
      simpa [World.drewN] using this
    have hr4 : Bx (((w.alloc (.cells #[.int .i64 0, .int .i64 0, .int .i64 0, .int .i64 0, .int .i64 0] 35)).drewN (nq + 1)).alloc (.cells #[.int .i64 x0.toNat, .int .i64 x1.toNat, .int .i64 x2.toNat, .int .i64 x3.toNat, .int .i64 (n4 x4 x5 x6 x7)] 35)) w.heap.size #[.int .i64 0, .int .i64 0, .int .i64 0, .int .i64 0, .int .i64 0] 35 :=
      Bx.alloc (show Bx ((w.alloc (.cells #[.int .i64 0, .int .i64 0, .int .i64 0, .int .i64 0, .int .i64 0] 35)).drewN (nq + 1)) w.heap.size #[.int .i64 0, .int .i64 0, .int .i64 0, .int .i64 0, .int .i64 0] 35 from Bx.new w _ _) _
    generalize (((w.alloc (.cells #[.int .i64 0, .int .i64 0, .int .i64 0, .int .i64 0, .int .i64 0] 35)).drewN (nq + 1)).alloc (.cells #[.int .i64 x0.toNat, .int .i64 x1.toNat, .int .i64 x2.toNat, .int .i64 x3.toNat, .int .i64 (n4 x4 x5 x6 x7)] 35)) = w4 at *
    have HAT := Lib.hid (show ReadAt w w4.drew ⟨x0.toNat, x1.toNat, x2.toNat, x3.toNat, n4 x4 x5 x6 x7⟩ from (⟨hb4, hx4, hr4⟩ : ReadAt w w4 ⟨x0.toNat, x1.toNat, x2.toNat, x3.toNat, n4 x4 x5 x6 x7⟩).on (drew_below _))
    obtain ⟨q0, q1, q2, q3, q4, q5, q6, q7, q8, q9, q10, q11, q12, q13, q14⟩ := HAT.out.cells
    clear c0 c1 c2 c3 d0 d1 d2 d3 hb4 hx4 hr4 n0 n1 n2 n3 n00
    rename_i hheld
    clear hheld b0 b1 b2 b3 hl
    go_wp2_with fail
    first | (go_region_with (first
      | (go_at_call 17; with_reducible refine (HRD.out _ HAT.out).mono ?_; rintro e w5 ⟨rfl, ht5, r0, r1, r2, r3, r4, r5, r6, r7, r8, r9, r10, r11, r12, r13, r14⟩; have HT5 := Lib.hid ht5; clear ht5; clear q0 q1 q2 q3 q4 q5 q6 q7 q8 q9 q10 q11 q12 q13 q14))) | fail
    all_goals
      clear r0 r1 r2 r3 r4 r5 r6 r7 r8 r9 r10 r11 r12 r13 r14 HRD HAT
      have hq := set5_bx HT5.out.res (.int .i64 x0.toNat) (.int .i64 x1.toNat) (.int .i64 x2.toNat) (.int .i64 x3.toNat) (.int .i64 (n4 x4 x5 x6 x7))
      have hbq := Lib.hid (below_set5 HT5.out.below (Nat.le_refl _) (.int .i64 x0.toNat) (.int .i64 x1.toNat) (.int .i64 x2.toNat) (.int .i64 x3.toNat) (.int .i64 (n4 x4 x5 x6 x7)))
      generalize ((((w5.setCell ⟨w.heap.size, 0, none⟩ (.int .i64 x0.toNat)).setCell ⟨w.heap.size, 1, none⟩ (.int .i64 x1.toNat)).setCell ⟨w.heap.size, 2, none⟩ (.int .i64 x2.toNat)).setCell ⟨w.heap.size, 3, none⟩ (.int .i64 x3.toNat)).setCell ⟨w.heap.size, 4, none⟩ (.int .i64 (n4 x4 x5 x6 x7)) = w6 at *
      have q0 := hq.c 0
      have q1 := hq.c 1
      have q2 := hq.c 2
      have q3 := hq.c 3
      have q4 := hq.c 4
      clear hq HT5
      go_wp2_with fail
      exact bodyPost_ret (v := .tuple #[insV ⟨x0.toNat, x1.toNat, x2.toNat, x3.toNat, n4 x4 x5 x6 x7⟩, .bool M]) (by simp [results, Tryd.results39, go_sem, q0, q1, q2, q3, q4]) rfl ⟨rfl, hbq.out⟩
end Go.Proofs.YtoebboimdkogpaaDoor
