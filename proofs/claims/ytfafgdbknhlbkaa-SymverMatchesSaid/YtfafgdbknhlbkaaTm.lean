/-
  The law SymverMatches, walked.
-/
import Derived.Test.YtfafgdbknhlbkaaTo
namespace Go.Proofs.Ytfafgdbknhlbkaa
open Go.RowKit

theorem Syl.on {w w' : World} {A : Option Addr} {n c : Nat} {ss : List Sym} (h : Syl w (fun k => k < w.heap.size) A n c ss) (hb : Below w.heap.size w w') : Syl w' (fun k => k < w'.heap.size) A n c ss := by
  have h1 := h.below hb (fun _ h => h)
  exact ⟨h1.len, h1.nil, h1.cap, fun ad hA hn => Nat.lt_of_lt_of_le (h1.blk ad hA hn) hb.size, h1.at_⟩
set_option maxHeartbeats 16000000 in
theorem matches_any (r d : Sym) (v : Bool) (A : Option Addr) (n c : Nat) (ss : List Sym) (w : World) (h : Syl w (fun k => k < w.heap.size) A n c ss) (hn : n ≤ 1000000000000000000) :
    Calls Try.prog 5 #[symV r, symV d, .bool v, .slice A n c] w fun e w' => e = .returned (.bool true) ∧ Below w.heap.size w w' := by
  have HB := Lib.hid (two_below w r d)
  have HX := Lib.hid ((Sx.new w r).below ((Below.refl _ _).alloc (by simp) (.cells (symA d) 26)))
  have HY := Lib.hid (Sx.new (w.alloc (.cells (symA r) 26)) d)
  rw [World.size_alloc] at HY
  have HL := Lib.hid (h.on HB.out)
  clear h
  generalize hw1 : (w.alloc (.cells (symA r) 26)).alloc (.cells (symA d) 26) = w1 at *
  obtain ⟨c0, c1, c2, c3, c4, c5, c6, c7, c8⟩ := HX.out.cells
  obtain ⟨e0, e1, e2, e3, e4, e5, e6, e7, e8⟩ := HY.out.cells
  have HKE := Lib.hid (show ∀ X, Below w1.heap.size w1 X → (X.cell? ⟨w.heap.size, 0, none⟩ = some (str r.name) ∧ X.cell? ⟨w.heap.size, 1, none⟩ = some (str r.ver) ∧ X.cell? ⟨w.heap.size, 2, none⟩ = some (.bool r.old) ∧ X.cell? ⟨w.heap.size, 3, none⟩ = some (.int .i64 r.kind) ∧ X.cell? ⟨w.heap.size, 4, none⟩ = some (.bool r.weak) ∧ X.cell? ⟨w.heap.size, 5, none⟩ = some (.int .i64 r.vis) ∧ X.cell? ⟨w.heap.size, 6, none⟩ = some (.bool r.dfd) ∧ X.cell? ⟨w.heap.size, 7, none⟩ = some (.int .i64 r.val) ∧ X.cell? ⟨w.heap.size, 8, none⟩ = some (.int .i64 r.size) ∧ X.cell? ⟨w.heap.size + 1, 0, none⟩ = some (str d.name) ∧ X.cell? ⟨w.heap.size + 1, 1, none⟩ = some (str d.ver) ∧ X.cell? ⟨w.heap.size + 1, 2, none⟩ = some (.bool d.old) ∧ X.cell? ⟨w.heap.size + 1, 3, none⟩ = some (.int .i64 d.kind) ∧ X.cell? ⟨w.heap.size + 1, 4, none⟩ = some (.bool d.weak) ∧ X.cell? ⟨w.heap.size + 1, 5, none⟩ = some (.int .i64 d.vis) ∧ X.cell? ⟨w.heap.size + 1, 6, none⟩ = some (.bool d.dfd) ∧ X.cell? ⟨w.heap.size + 1, 7, none⟩ = some (.int .i64 d.val) ∧ X.cell? ⟨w.heap.size + 1, 8, none⟩ = some (.int .i64 d.size)) from fun X hX => (by
    obtain ⟨p0, p1, p2, p3, p4, p5, p6, p7, p8⟩ := (HX.out.below hX).cells
    obtain ⟨q0, q1, q2, q3, q4, q5, q6, q7, q8⟩ := (HY.out.below hX).cells
    exact ⟨p0, p1, p2, p3, p4, p5, p6, p7, p8, q0, q1, q2, q3, q4, q5, q6, q7, q8⟩))
  have HA := Lib.hid (over_below (fun X => awake_any X) (w1 := w1))
  have HM := Lib.hid (over_below (fun X => match_any r d v X) (w1 := w1))
  have HN := Lib.hid (over_below (fun X => rmatch_any r d v X) (w1 := w1))
  have HV := Lib.hid (show ∀ X, Below w1.heap.size w1 X → Calls Try.prog 23 #[.slice A n c] X fun e w' => e = .returned (.bool (ss.any vdB)) ∧ Below w1.heap.size w1 w' from
    fun X hX => (versioned_any A n c ss X (HL.out.on hX) hn).mono fun _ _ hh => ⟨hh.1, hX.trans (hh.2.mono hX.size)⟩)
  have HU := Lib.hid (show ∀ X, Below w1.heap.size w1 X → Calls Try.prog 24 #[.slice A n c] X fun e w' => e = .returned (.bool (ss.any vdB)) ∧ Below w1.heap.size w1 w' from
    fun X hX => (rversioned_any A n c ss X (HL.out.on hX) hn).mono fun _ _ hh => ⟨hh.1, hh.2 ▸ hX⟩)
  generalize matchB r d v = mb at *
  generalize ss.any vdB = vb at *
  clear c0 c1 c2 c3 c4 c5 c6 c7 c8 e0 e1 e2 e3 e4 e5 e6 e7 e8
  go_enter Try.func5, Try.ntmps5
  go_upto_region 1 with (fail)
  clear hw1 HX HY HL
  go_region_held3 (fun w' => w'.cell? ⟨w.heap.size, 0, none⟩ = some (str r.name) ∧ w'.cell? ⟨w.heap.size, 1, none⟩ = some (str r.ver) ∧ w'.cell? ⟨w.heap.size, 2, none⟩ = some (.bool r.old) ∧ w'.cell? ⟨w.heap.size, 3, none⟩ = some (.int .i64 r.kind) ∧ w'.cell? ⟨w.heap.size, 4, none⟩ = some (.bool r.weak) ∧ w'.cell? ⟨w.heap.size, 5, none⟩ = some (.int .i64 r.vis) ∧ w'.cell? ⟨w.heap.size, 6, none⟩ = some (.bool r.dfd) ∧ w'.cell? ⟨w.heap.size, 7, none⟩ = some (.int .i64 r.val) ∧ w'.cell? ⟨w.heap.size, 8, none⟩ = some (.int .i64 r.size) ∧ w'.cell? ⟨w.heap.size + 1, 0, none⟩ = some (str d.name) ∧ w'.cell? ⟨w.heap.size + 1, 1, none⟩ = some (str d.ver) ∧ w'.cell? ⟨w.heap.size + 1, 2, none⟩ = some (.bool d.old) ∧ w'.cell? ⟨w.heap.size + 1, 3, none⟩ = some (.int .i64 d.kind) ∧ w'.cell? ⟨w.heap.size + 1, 4, none⟩ = some (.bool d.weak) ∧ w'.cell? ⟨w.heap.size + 1, 5, none⟩ = some (.int .i64 d.vis) ∧ w'.cell? ⟨w.heap.size + 1, 6, none⟩ = some (.bool d.dfd) ∧ w'.cell? ⟨w.heap.size + 1, 7, none⟩ = some (.int .i64 d.val) ∧ w'.cell? ⟨w.heap.size + 1, 8, none⟩ = some (.int .i64 d.size)) (first | (exact HKE.out _ (by first | assumption | exact below_draw (by assumption) | exact Below.refl _ _ | exact drew_below _)) | go_keep) (first
    | (go_at_call 10; (with_reducible refine (HA.out _ (by first | assumption | exact below_draw (by assumption) | exact Below.refl _ _ | exact drew_below _)).mono ?_); rintro e wp ⟨rfl, hb0⟩; obtain ⟨p0, p1, p2, p3, p4, p5, p6, p7, p8, q0, q1, q2, q3, q4, q5, q6, q7, q8⟩ := HKE.out _ hb0)
    | (go_at_call 21; (with_reducible refine (HM.out _ (by first | assumption | exact below_draw (by assumption) | exact Below.refl _ _ | exact drew_below _)).mono ?_); rintro e wp ⟨rfl, hb1⟩; obtain ⟨p0, p1, p2, p3, p4, p5, p6, p7, p8, q0, q1, q2, q3, q4, q5, q6, q7, q8⟩ := HKE.out _ hb1)
    | (go_at_call 22; (with_reducible refine (HN.out _ (by first | assumption | exact below_draw (by assumption) | exact Below.refl _ _ | exact drew_below _)).mono ?_); rintro e wp ⟨rfl, hb2⟩; obtain ⟨p0, p1, p2, p3, p4, p5, p6, p7, p8, q0, q1, q2, q3, q4, q5, q6, q7, q8⟩ := HKE.out _ hb2)
    | (go_at_call 23; (with_reducible refine (HV.out _ (by first | assumption | exact below_draw (by assumption) | exact Below.refl _ _ | exact drew_below _)).mono ?_); rintro e wp ⟨rfl, hb3⟩; obtain ⟨p0, p1, p2, p3, p4, p5, p6, p7, p8, q0, q1, q2, q3, q4, q5, q6, q7, q8⟩ := HKE.out _ hb3)
    | (go_at_call 24; (with_reducible refine (HU.out _ (by first | assumption | exact below_draw (by assumption) | exact Below.refl _ _ | exact drew_below _)).mono ?_); rintro e wp ⟨rfl, hb4⟩; obtain ⟨p0, p1, p2, p3, p4, p5, p6, p7, p8, q0, q1, q2, q3, q4, q5, q6, q7, q8⟩ := HKE.out _ hb4))
  all_goals
    go_wp2_with fail
    go_ret
    exact ⟨rfl, HB.out.trans (Below.mono (by first | assumption | exact below_draw (by assumption)) HB.out.size)⟩
end Go.Proofs.Ytfafgdbknhlbkaa
