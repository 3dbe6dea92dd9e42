/-
  The law SymverPrints, walked.
-/
import Derived.Test.YtfafgdbknhlbkaaTo
import Derived.Test.YtfafgdbknhlbkaaTr

import Derived.Deep.RegionHeld3
namespace Go.Proofs.Ytfafgdbknhlbkaa
open Go.RowKit

set_option maxHeartbeats 8000000 in
theorem prints_any (s : Sym) (w : World) (hl : s.name.length + s.ver.length + 2 ≤ 9223372036854775807) : Calls Try.prog 4 #[symV s] w fun e w' => e = .returned (.bool true) ∧ Below w.heap.size w w' := by
  have HB0 := Lib.hid (box_below w s)
  have HX0 := Lib.hid (Sx.new w s)
  have HA := Lib.hid (awake_any (w.alloc (.cells (symA s) 26)))
  have HR := Lib.hid (fun X => right_any s X)
  have HP := Lib.hid (fun X => print_any s X hl)
  have HQ := Lib.hid (fun X => rprint_any s X hl)
  have HS := Lib.hid (fun X => seen_any s X)
  have HT := Lib.hid (fun X => rseen_any s X)
  have HU := Lib.hid (fun X => rright_any s X (by omega) (by omega))
  generalize printS s = ps at *
  generalize seenB s = sb at *
  go_enter Try.func4, Try.ntmps4
  go_upto_region 1 with (fail)
  generalize w.alloc (.cells (symA s) 26) = w0 at *
  go_wp2_with fail
  refine HA.out.mono ?_
  rintro e w1 ⟨rfl, hb⟩
  have HB1 := Lib.hid (HB0.out.trans (hb.mono HB0.out.size))
  have HX1 := Lib.hid (HX0.out.below hb)
  obtain ⟨c0, c1, c2, c3, c4, c5, c6, c7, c8⟩ := HX1.out.cells
  clear hb HB0 HX0 HA
  go_wp2_with fail
  refine (HR.out _).mono ?_
  rintro e w2 ⟨rfl, hb⟩
  have HB2 := Lib.hid (HB1.out.trans (hb.mono HB1.out.size))
  have HX2 := Lib.hid (HX1.out.below hb)
  clear hb HB1 HX1 c0 c1 c2 c3 c4 c5 c6 c7 c8 HR
  obtain ⟨c0, c1, c2, c3, c4, c5, c6, c7, c8⟩ := HX2.out.cells
  have HKE := Lib.hid (show ∀ X, Below w2.heap.size w2 X → (X.cell? ⟨w.heap.size, 0, none⟩ = some (str s.name) ∧ X.cell? ⟨w.heap.size, 1, none⟩ = some (str s.ver) ∧ X.cell? ⟨w.heap.size, 2, none⟩ = some (.bool s.old) ∧ X.cell? ⟨w.heap.size, 3, none⟩ = some (.int .i64 s.kind) ∧ X.cell? ⟨w.heap.size, 4, none⟩ = some (.bool s.weak) ∧ X.cell? ⟨w.heap.size, 5, none⟩ = some (.int .i64 s.vis) ∧ X.cell? ⟨w.heap.size, 6, none⟩ = some (.bool s.dfd) ∧ X.cell? ⟨w.heap.size, 7, none⟩ = some (.int .i64 s.val) ∧ X.cell? ⟨w.heap.size, 8, none⟩ = some (.int .i64 s.size)) from fun X hX => (HX2.out.below hX).cells)
  have HP2 := Lib.hid (over_below HP.out (w1 := w2))
  have HQ2 := Lib.hid (over_below HQ.out (w1 := w2))
  have HS2 := Lib.hid (over_below HS.out (w1 := w2))
  have HT2 := Lib.hid (over_below HT.out (w1 := w2))
  have HU2 := Lib.hid (over_below HU.out (w1 := w2))
  clear HP HQ HS HT HU
  have hz : ∀ b : Bool, (Value.int .i64 (if b then 0 else 70)) = okV b := fun _ => rfl
  cases hr : rightB s
  · rw [hr] at HU2
    rw [show okV false = .int .i64 70 by rfl]
    clear hr hz
    clear c0 c1 c2 c3 c4 c5 c6 c7 c8
    go_wp2_with fail
    go_region_held3 (fun w' => w'.cell? ⟨w.heap.size, 0, none⟩ = some (str s.name) ∧ w'.cell? ⟨w.heap.size, 1, none⟩ = some (str s.ver) ∧ w'.cell? ⟨w.heap.size, 2, none⟩ = some (.bool s.old) ∧ w'.cell? ⟨w.heap.size, 3, none⟩ = some (.int .i64 s.kind) ∧ w'.cell? ⟨w.heap.size, 4, none⟩ = some (.bool s.weak) ∧ w'.cell? ⟨w.heap.size, 5, none⟩ = some (.int .i64 s.vis) ∧ w'.cell? ⟨w.heap.size, 6, none⟩ = some (.bool s.dfd) ∧ w'.cell? ⟨w.heap.size, 7, none⟩ = some (.int .i64 s.val) ∧ w'.cell? ⟨w.heap.size, 8, none⟩ = some (.int .i64 s.size)) (first | (exact HKE.out _ (by first | assumption | exact below_draw (by assumption) | exact Below.refl _ _ | exact drew_below _)) | go_keep) (first
      | (go_at_call 16; (with_reducible refine (HP2.out _ (by first | assumption | exact below_draw (by assumption) | exact Below.refl _ _ | exact drew_below _)).mono ?_); rintro e wp ⟨rfl, hb0⟩; obtain ⟨r0, r1, r2, r3, r4, r5, r6, r7, r8⟩ := HKE.out _ hb0)
      | (go_at_call 17; (with_reducible refine (HQ2.out _ (by first | assumption | exact below_draw (by assumption) | exact Below.refl _ _ | exact drew_below _)).mono ?_); rintro e wp ⟨rfl, hb1⟩; obtain ⟨r0, r1, r2, r3, r4, r5, r6, r7, r8⟩ := HKE.out _ hb1)
      | (go_at_call 18; (with_reducible refine (HU2.out _ (by first | assumption | exact below_draw (by assumption) | exact Below.refl _ _ | exact drew_below _)).mono ?_); rintro e wp ⟨rfl, hb2⟩; obtain ⟨r0, r1, r2, r3, r4, r5, r6, r7, r8⟩ := HKE.out _ hb2)
      | (go_at_call 19; (with_reducible refine (HS2.out _ (by first | assumption | exact below_draw (by assumption) | exact Below.refl _ _ | exact drew_below _)).mono ?_); rintro e wp ⟨rfl, hb3⟩; obtain ⟨r0, r1, r2, r3, r4, r5, r6, r7, r8⟩ := HKE.out _ hb3)
      | (go_at_call 20; (with_reducible refine (HT2.out _ (by first | assumption | exact below_draw (by assumption) | exact Below.refl _ _ | exact drew_below _)).mono ?_); rintro e wp ⟨rfl, hb4⟩; obtain ⟨r0, r1, r2, r3, r4, r5, r6, r7, r8⟩ := HKE.out _ hb4))
    all_goals
      go_wp2_with fail
      go_ret
      exact ⟨rfl, HB2.out.trans (Below.mono (by first | assumption | exact below_draw (by assumption)) HB2.out.size)⟩
  · rw [hr] at HU2
    rw [show okV true = .int .i64 0 by rfl]
    clear hr hz
    clear c0 c1 c2 c3 c4 c5 c6 c7 c8
    go_wp2_with fail
    obtain ⟨r0, r1, r2, r3, r4, r5, r6, r7, r8⟩ := HKE.out _ (drew_below w2)
    clear HX2
    first | (go_region_with (first
      | (go_at_call 16; (with_reducible refine (HP2.out _ (by first | assumption | exact below_draw (by assumption) | exact Below.refl _ _ | exact drew_below _)).mono ?_); rintro e wp ⟨rfl, hb0⟩; clear r0 r1 r2 r3 r4 r5 r6 r7 r8; obtain ⟨r0, r1, r2, r3, r4, r5, r6, r7, r8⟩ := HKE.out _ hb0)
      | (go_at_call 17; (with_reducible refine (HQ2.out _ (by first | assumption | exact below_draw (by assumption) | exact Below.refl _ _ | exact drew_below _)).mono ?_); rintro e wp ⟨rfl, hb1⟩; clear r0 r1 r2 r3 r4 r5 r6 r7 r8; obtain ⟨r0, r1, r2, r3, r4, r5, r6, r7, r8⟩ := HKE.out _ hb1)
      | (go_at_call 18; (with_reducible refine (HU2.out _ (by first | assumption | exact below_draw (by assumption) | exact Below.refl _ _ | exact drew_below _)).mono ?_); rintro e wp ⟨rfl, hb2⟩; clear r0 r1 r2 r3 r4 r5 r6 r7 r8; obtain ⟨r0, r1, r2, r3, r4, r5, r6, r7, r8⟩ := HKE.out _ hb2)
      | (go_at_call 19; (with_reducible refine (HS2.out _ (by first | assumption | exact below_draw (by assumption) | exact Below.refl _ _ | exact drew_below _)).mono ?_); rintro e wp ⟨rfl, hb3⟩; clear r0 r1 r2 r3 r4 r5 r6 r7 r8; obtain ⟨r0, r1, r2, r3, r4, r5, r6, r7, r8⟩ := HKE.out _ hb3)
      | (go_at_call 20; (with_reducible refine (HT2.out _ (by first | assumption | exact below_draw (by assumption) | exact Below.refl _ _ | exact drew_below _)).mono ?_); rintro e wp ⟨rfl, hb4⟩; clear r0 r1 r2 r3 r4 r5 r6 r7 r8; obtain ⟨r0, r1, r2, r3, r4, r5, r6, r7, r8⟩ := HKE.out _ hb4))) | fail
    all_goals
      go_wp2_with fail
      go_ret
      exact ⟨rfl, HB2.out.trans (Below.mono (by first | assumption | exact below_draw (by assumption)) HB2.out.size)⟩
end Go.Proofs.Ytfafgdbknhlbkaa
