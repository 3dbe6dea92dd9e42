/-
  The law SymverHidden, walked.
-/
import Derived.Test.YtfafgdbknhlbkaaTo
namespace Go.Proofs.Ytfafgdbknhlbkaa
open Go.RowKit

theorem match_gone {r d : Sym} {v : Bool} (h : seenB d = false) : matchB r d v = false := by simp [matchB, h]
theorem match_named {r d : Sym} {v : Bool} (h : d.name ≠ r.name) : matchB r d v = false := by simp [matchB, h]
theorem other_name (l : Str) : l ++ [120] ≠ l := by
  intro e
  have := congrArg List.length e
  simp at this
theorem bel_alloc {w w' : World} (h : Below w.heap.size w w') (o : Obj) : Below w.heap.size w (w'.alloc o) := h.alloc h.size o
theorem bel_set {w w' : World} (h : Below w.heap.size w w') {p : Addr} (hp : w.heap.size ≤ p.block) (u : Value) : Below w.heap.size w (w'.setCell p u) := h.setCell hp u
abbrev boxD (s : Sym) : Obj := .cells #[str s.name, str s.ver, .bool s.old, .int .i64 s.kind, .bool s.weak, .int .i64 s.vis, .bool s.dfd, .int .i64 s.val, .int .i64 s.size] 26
theorem three_new (w : World) (s : Sym) : Below w.heap.size w (((w.alloc (boxD s)).alloc (boxD s)).alloc (boxD s)).drew ∧ Sx (((w.alloc (boxD s)).alloc (boxD s)).alloc (boxD s)).drew w.heap.size s ∧ Sx (((w.alloc (boxD s)).alloc (boxD s)).alloc (boxD s)).drew (w.heap.size + 1) s ∧ Sx (((w.alloc (boxD s)).alloc (boxD s)).alloc (boxD s)).drew (w.heap.size + 1 + 1) s := by
  refine ⟨below_draw (bel_alloc (bel_alloc (bel_alloc (Below.refl _ _) _) _) _), ⟨(((Bx.new w (symA s) 26).alloc (boxD s)).alloc (boxD s)).draw 1⟩, ⟨?_⟩, ⟨?_⟩⟩
  · have h := ((Bx.new (w.alloc (boxD s)) (symA s) 26).alloc (boxD s)).draw 1
    rw [World.size_alloc] at h
    exact h
  · have h := (Bx.new ((w.alloc (boxD s)).alloc (boxD s)) (symA s) 26).draw 1
    rw [World.size_alloc, World.size_alloc] at h
    exact h
theorem Sx.set0 {w : World} {g : Nat} {s : Sym} (h : Sx w g s) (v : Str) : Sx (w.setCell ⟨g, 0, none⟩ (str v)) g { s with name := v } := ⟨heap_setCell_same _ g 0 _ _ (str v) h.bx⟩
theorem Sx.set3 {w : World} {g : Nat} {s : Sym} (h : Sx w g s) (v : Int) : Sx (w.setCell ⟨g, 3, none⟩ (.int .i64 v)) g { s with kind := v } := ⟨heap_setCell_same _ g 3 _ _ (.int .i64 v) h.bx⟩
theorem Sx.set4 {w : World} {g : Nat} {s : Sym} (h : Sx w g s) (v : Bool) : Sx (w.setCell ⟨g, 4, none⟩ (.bool v)) g { s with weak := v } := ⟨heap_setCell_same _ g 4 _ _ (.bool v) h.bx⟩
theorem Sx.set5 {w : World} {g : Nat} {s : Sym} (h : Sx w g s) (v : Int) : Sx (w.setCell ⟨g, 5, none⟩ (.int .i64 v)) g { s with vis := v } := ⟨heap_setCell_same _ g 5 _ _ (.int .i64 v) h.bx⟩
theorem Sx.set6 {w : World} {g : Nat} {s : Sym} (h : Sx w g s) (v : Bool) : Sx (w.setCell ⟨g, 6, none⟩ (.bool v)) g { s with dfd := v } := ⟨heap_setCell_same _ g 6 _ _ (.bool v) h.bx⟩
theorem Sx.off {w : World} {g : Nat} {s : Sym} (h : Sx w g s) {a : Addr} (ha : g ≠ a.block) (u : Value) : Sx (w.setCell a u) g s := ⟨h.bx.other ha u⟩
set_option maxHeartbeats 16000000 in
theorem hidden_any (r d : Sym) (v : Bool) (w : World) (hl : d.name.length + 1 ≤ 9223372036854775807) : Calls Try.prog 8 #[symV r, symV d, .bool v] w fun e w' => e = .returned (.bool true) ∧ Below w.heap.size w w' := by
  obtain ⟨rn, rv, ro, rk, rw, rvs, rd, rvl, rsz⟩ := r
  obtain ⟨dn, dv, do_, dk, dw, dvs, dd, dvl, dsz⟩ := d
  have HB := Lib.hid (two_below w ⟨rn, rv, ro, rk, rw, rvs, rd, rvl, rsz⟩ ⟨dn, dv, do_, dk, dw, dvs, dd, dvl, dsz⟩)
  have HX := Lib.hid ((Sx.new w ⟨rn, rv, ro, rk, rw, rvs, rd, rvl, rsz⟩).below ((Below.refl _ _).alloc (by simp) (.cells (symA ⟨dn, dv, do_, dk, dw, dvs, dd, dvl, dsz⟩) 26)))
  have HY := Lib.hid (Sx.new (w.alloc (.cells (symA ⟨rn, rv, ro, rk, rw, rvs, rd, rvl, rsz⟩) 26)) ⟨dn, dv, do_, dk, dw, dvs, dd, dvl, dsz⟩)
  rw [World.size_alloc] at HY
  generalize hw1 : (w.alloc (.cells (symA ⟨rn, rv, ro, rk, rw, rvs, rd, rvl, rsz⟩) 26)).alloc (.cells (symA ⟨dn, dv, do_, dk, dw, dvs, dd, dvl, dsz⟩) 26) = w1 at *
  have HA := Lib.hid (awake_any w1)
  go_enter Try.func8, Try.ntmps8
  go_wp2_with fail
  refine HA.out.mono ?_
  rintro e w2 ⟨rfl, hb⟩
  have HB2 := Lib.hid (HB.out.trans (hb.mono HB.out.size))
  have HX2 := Lib.hid (HX.out.below hb)
  have HY2 := Lib.hid (HY.out.below hb)
  clear hb HB HX HY HA hw1
  go_upto_region 2 with (fail)
  obtain ⟨c0, c1, c2, c3, c4, c5, c6, c7, c8⟩ := HX2.out.cells
  obtain ⟨e0, e1, e2, e3, e4, e5, e6, e7, e8⟩ := HY2.out.cells
  simp only at c0 c1 c2 c3 c4 c5 c6 c7 c8 e0 e1 e2 e3 e4 e5 e6 e7 e8
  have hne : ∀ j, (⟨w.heap.size + 1, j, none⟩ : Addr).block ≠ w2.heap.size := fun j e => by have := HY2.out.bx.lt; simp at e; omega
  go_cut [8, 9, 10] from 12 (fun s8 s9 s10 wx => ∃ g8 g9 g10 : Nat, s8 = .pointer (some ⟨g8, 0, none⟩) ∧ s9 = .pointer (some ⟨g9, 0, none⟩) ∧ s10 = .pointer (some ⟨g10, 0, none⟩) ∧ Below w2.heap.size w2 wx ∧ w2.heap.size ≤ g8 ∧ w2.heap.size ≤ g9 ∧ w2.heap.size ≤ g10 ∧ g8 ≠ g9 ∧ g8 ≠ g10 ∧ g9 ≠ g10 ∧ Sx wx g8 ⟨dn, dv, do_, dk, dw, dvs, dd, dvl, dsz⟩ ∧ Sx wx g9 ⟨dn, dv, do_, dk, dw, dvs, dd, dvl, dsz⟩ ∧ Sx wx g10 ⟨dn, dv, do_, dk, dw, dvs, dd, dvl, dsz⟩)
  case first =>
    have HKE := Lib.hid (show ∀ X, Below w2.heap.size w2 X → (X.cell? ⟨w.heap.size + 1, 0, none⟩ = some (str dn) ∧ X.cell? ⟨w.heap.size + 1, 1, none⟩ = some (str dv) ∧ X.cell? ⟨w.heap.size + 1, 2, none⟩ = some (.bool do_) ∧ X.cell? ⟨w.heap.size + 1, 3, none⟩ = some (.int .i64 dk) ∧ X.cell? ⟨w.heap.size + 1, 4, none⟩ = some (.bool dw) ∧ X.cell? ⟨w.heap.size + 1, 5, none⟩ = some (.int .i64 dvs) ∧ X.cell? ⟨w.heap.size + 1, 6, none⟩ = some (.bool dd) ∧ X.cell? ⟨w.heap.size + 1, 7, none⟩ = some (.int .i64 dvl) ∧ X.cell? ⟨w.heap.size + 1, 8, none⟩ = some (.int .i64 dsz)) from fun X hX => (HY2.out.below hX).cells)
    clear c0 c1 c2 c3 c4 c5 c6 c7 c8 e0 e1 e2 e3 e4 e5 e6 e7 e8 hne
    go_region_held3 (fun w' => w'.cell? ⟨w.heap.size + 1, 0, none⟩ = some (str dn) ∧ w'.cell? ⟨w.heap.size + 1, 1, none⟩ = some (str dv) ∧ w'.cell? ⟨w.heap.size + 1, 2, none⟩ = some (.bool do_) ∧ w'.cell? ⟨w.heap.size + 1, 3, none⟩ = some (.int .i64 dk) ∧ w'.cell? ⟨w.heap.size + 1, 4, none⟩ = some (.bool dw) ∧ w'.cell? ⟨w.heap.size + 1, 5, none⟩ = some (.int .i64 dvs) ∧ w'.cell? ⟨w.heap.size + 1, 6, none⟩ = some (.bool dd) ∧ w'.cell? ⟨w.heap.size + 1, 7, none⟩ = some (.int .i64 dvl) ∧ w'.cell? ⟨w.heap.size + 1, 8, none⟩ = some (.int .i64 dsz)) (first | (exact HKE.out _ (by repeat (first | exact Below.refl _ _ | (refine below_draw ?_) | (refine bel_alloc ?_ _) | (refine bel_set ?_ (by simp) _)))) | go_keep) (fail)
    all_goals
      go_wp2_with fail
      go_meet
      case rel =>
        obtain ⟨h3, h0, h1, h2⟩ := three_new w2 ⟨dn, dv, do_, dk, dw, dvs, dd, dvl, dsz⟩
        exact ⟨_, _, _, rfl, rfl, rfl, h3, by omega, by omega, by omega, by omega, by omega, by omega, by first | exact h0 | exact h1 | exact h2, by first | exact h0 | exact h1 | exact h2, by first | exact h0 | exact h1 | exact h2⟩
  case rest =>
    obtain ⟨g8, g9, g10, rfl, rfl, rfl, hb, hg8, hg9, hg10, n1, n2, n3, x8, x9, x10⟩ := hcut
    have hy := HY2.out.bx.lt
    have xr := HX2.out.below hb
    have xd := HY2.out.below hb
    have HB3 := Lib.hid (HB2.out.trans (hb.mono HB2.out.size))
    have hw2 : w.heap.size ≤ w2.heap.size := by omega
    clear HB2 HX2 HY2 hb c0 c1 c2 c3 c4 c5 c6 c7 c8 e0 e1 e2 e3 e4 e5 e6 e7 e8 hne
    -- x.Vis
    have k8 := x8.cells.2.2.2.2.2.1
    have f8 := x8.frozen 5
    have Y8 := Lib.hid (x8.set5 2)
    have Y9 := Lib.hid (x9.off (a := ⟨g8, 5, none⟩) (by simp; omega) (.int .i64 2))
    have Y10 := Lib.hid (x10.off (a := ⟨g8, 5, none⟩) (by simp; omega) (.int .i64 2))
    have YR := Lib.hid (xr.off (a := ⟨g8, 5, none⟩) (by simp; omega) (.int .i64 2))
    have YD := Lib.hid (xd.off (a := ⟨g8, 5, none⟩) (by simp; omega) (.int .i64 2))
    have HB4 := Lib.hid (HB3.out.setCell (p := ⟨g8, 5, none⟩) (by show _ ≤ g8; omega) (.int .i64 2))
    clear x8 x9 x10 xr xd HB3
    go_upto_region 4 with (fail)
    generalize wc.setCell ⟨g8, 5, none⟩ (.int .i64 2) = wa at *
    clear k8 f8
    -- y.Defined
    have k8 := Y9.out.cells.2.2.2.2.2.2.1
    have f8 := Y9.out.frozen 6
    have Z9 := Lib.hid (Y9.out.set6 false)
    have Z8 := Lib.hid (Y8.out.off (a := ⟨g9, 6, none⟩) (by simp; omega) (.bool false))
    have Z10 := Lib.hid (Y10.out.off (a := ⟨g9, 6, none⟩) (by simp; omega) (.bool false))
    have ZR := Lib.hid (YR.out.off (a := ⟨g9, 6, none⟩) (by simp; omega) (.bool false))
    have ZD := Lib.hid (YD.out.off (a := ⟨g9, 6, none⟩) (by simp; omega) (.bool false))
    have HB5 := Lib.hid (HB4.out.setCell (p := ⟨g9, 6, none⟩) (by show _ ≤ g9; omega) (.bool false))
    clear Y8 Y9 Y10 YR YD HB4
    go_upto_region 5 with (fail)
    generalize wa.setCell ⟨g9, 6, none⟩ (.bool false) = wb at *
    clear k8 f8
    -- z.Name
    have k8 := Z10.out.cells.1
    have f8 := Z10.out.frozen 0
    have kd := ZD.out.cells.1
    simp only at kd
    have Y10 := Lib.hid (Z10.out.set0 (dn ++ [120]))
    have Y8 := Lib.hid (Z8.out.off (a := ⟨g10, 0, none⟩) (by simp; omega) (str (dn ++ [120])))
    have Y9 := Lib.hid (Z9.out.off (a := ⟨g10, 0, none⟩) (by simp; omega) (str (dn ++ [120])))
    have YR := Lib.hid (ZR.out.off (a := ⟨g10, 0, none⟩) (by simp; omega) (str (dn ++ [120])))
    have YD := Lib.hid (ZD.out.off (a := ⟨g10, 0, none⟩) (by simp; omega) (str (dn ++ [120])))
    have HB6 := Lib.hid (HB5.out.setCell (p := ⟨g10, 0, none⟩) (by show _ ≤ g10; omega) (str (dn ++ [120])))
    clear Z8 Z9 Z10 ZR ZD HB5
    have es : Value.string (ByteArray.mk dn.toArray ++ ⟨#[120]⟩) = str (dn ++ [120]) := by
      rw [str_of]
      simp
    go_upto_region 6 with (fail)
    generalize wb.setCell ⟨g10, 0, none⟩ (str (dn ++ [120])) = we at *
    clear k8 f8 kd es
    -- w := ref
    obtain ⟨c0, c1, c2, c3, c4, c5, c6, c7, c8⟩ := YR.out.cells
    simp only at c0 c1 c2 c3 c4 c5 c6 c7 c8
    have Z11 := Lib.hid (Sx.new we ⟨rn, rv, ro, rk, rw, rvs, rd, rvl, rsz⟩)
    have Z8 := Lib.hid (show Sx (we.alloc (boxD ⟨rn, rv, ro, rk, rw, rvs, rd, rvl, rsz⟩)) g8 _ from ⟨Y8.out.bx.alloc _⟩)
    have Z9 := Lib.hid (show Sx (we.alloc (boxD ⟨rn, rv, ro, rk, rw, rvs, rd, rvl, rsz⟩)) g9 _ from ⟨Y9.out.bx.alloc _⟩)
    have Z10 := Lib.hid (show Sx (we.alloc (boxD ⟨rn, rv, ro, rk, rw, rvs, rd, rvl, rsz⟩)) g10 _ from ⟨Y10.out.bx.alloc _⟩)
    have ZR := Lib.hid (show Sx (we.alloc (boxD ⟨rn, rv, ro, rk, rw, rvs, rd, rvl, rsz⟩)) w.heap.size _ from ⟨YR.out.bx.alloc _⟩)
    have ZD := Lib.hid (show Sx (we.alloc (boxD ⟨rn, rv, ro, rk, rw, rvs, rd, rvl, rsz⟩)) (w.heap.size + 1) _ from ⟨YD.out.bx.alloc _⟩)
    have HB7 := Lib.hid (HB6.out.alloc HB6.out.size (boxD ⟨rn, rv, ro, rk, rw, rvs, rd, rvl, rsz⟩))
    obtain ⟨p8, p9, p10, pr, pd⟩ : g8 < we.heap.size ∧ g9 < we.heap.size ∧ g10 < we.heap.size ∧ w.heap.size < we.heap.size ∧ w.heap.size + 1 < we.heap.size := ⟨Y8.out.bx.lt, Y9.out.bx.lt, Y10.out.bx.lt, YR.out.bx.lt, YD.out.bx.lt⟩
    clear Y8 Y9 Y10 YR YD HB6
    go_upto_region 7 with (fail)
    generalize we.alloc (boxD ⟨rn, rv, ro, rk, rw, rvs, rd, rvl, rsz⟩) = wf at *
    generalize hg11 : we.heap.size = g11 at *
    have HL := Lib.hid (show w.heap.size ≤ g11 by omega)
    have kd := ZD.out.cells.1
    simp only at kd
    have k8 := Z11.out.cells.1
    have f8 := Z11.out.frozen 0
    have Y11 := Lib.hid (Z11.out.set0 dn)
    have Y8 := Lib.hid (Z8.out.off (a := ⟨g11, 0, none⟩) (by simp; omega) (str dn))
    have Y9 := Lib.hid (Z9.out.off (a := ⟨g11, 0, none⟩) (by simp; omega) (str dn))
    have Y10 := Lib.hid (Z10.out.off (a := ⟨g11, 0, none⟩) (by simp; omega) (str dn))
    have YR := Lib.hid (ZR.out.off (a := ⟨g11, 0, none⟩) (by simp; omega) (str dn))
    have YD := Lib.hid (ZD.out.off (a := ⟨g11, 0, none⟩) (by simp; omega) (str dn))
    simp only at k8
    have HB8 := Lib.hid (HB7.out.setCell (p := ⟨g11, 0, none⟩) HL.out (str dn))
    clear Z8 Z9 Z10 Z11 ZR ZD HB7
    go_upto_region 8 with (fail)
    generalize wf.setCell ⟨g11, 0, none⟩ (str dn) = wg at *
    clear k8 f8 kd
    have k8 := Y11.out.cells.2.2.2.2.1
    have f8 := Y11.out.frozen 4
    have Z11 := Lib.hid (Y11.out.set4 (!rw))
    have Z8 := Lib.hid (Y8.out.off (a := ⟨g11, 4, none⟩) (by simp; omega) (.bool (!rw)))
    have Z9 := Lib.hid (Y9.out.off (a := ⟨g11, 4, none⟩) (by simp; omega) (.bool (!rw)))
    have Z10 := Lib.hid (Y10.out.off (a := ⟨g11, 4, none⟩) (by simp; omega) (.bool (!rw)))
    have ZR := Lib.hid (YR.out.off (a := ⟨g11, 4, none⟩) (by simp; omega) (.bool (!rw)))
    have ZD := Lib.hid (YD.out.off (a := ⟨g11, 4, none⟩) (by simp; omega) (.bool (!rw)))
    simp only at k8
    have HB9 := Lib.hid (HB8.out.setCell (p := ⟨g11, 4, none⟩) HL.out (.bool (!rw)))
    clear Y8 Y9 Y10 Y11 YR YD HB8
    go_upto_region 9 with (fail)
    generalize wg.setCell ⟨g11, 4, none⟩ (.bool (!rw)) = wh at *
    clear k8 f8
    have k8 := Z11.out.cells.2.2.2.1
    have f8 := Z11.out.frozen 3
    have Y11 := Lib.hid (Z11.out.set3 2)
    have Y8 := Lib.hid (Z8.out.off (a := ⟨g11, 3, none⟩) (by simp; omega) (.int .i64 2))
    have Y9 := Lib.hid (Z9.out.off (a := ⟨g11, 3, none⟩) (by simp; omega) (.int .i64 2))
    have Y10 := Lib.hid (Z10.out.off (a := ⟨g11, 3, none⟩) (by simp; omega) (.int .i64 2))
    have YR := Lib.hid (ZR.out.off (a := ⟨g11, 3, none⟩) (by simp; omega) (.int .i64 2))
    have YD := Lib.hid (ZD.out.off (a := ⟨g11, 3, none⟩) (by simp; omega) (.int .i64 2))
    simp only at k8
    have HB10 := Lib.hid (HB9.out.setCell (p := ⟨g11, 3, none⟩) HL.out (.int .i64 2))
    clear Z8 Z9 Z10 Z11 ZR ZD HB9
    go_upto_region 10 with (fail)
    generalize wh.setCell ⟨g11, 3, none⟩ (.int .i64 2) = wi at *
    clear k8 f8
    have M8 := Lib.hid (show ∀ X, Below wi.heap.size wi X → Calls Try.prog 21 #[.agg #[str dn, str rv, .bool ro, .int .i64 2, .bool (!rw), .int .i64 rvs, .bool rd, .int .i64 rvl, .int .i64 rsz], .agg #[str dn, str dv, .bool do_, .int .i64 dk, .bool dw, .int .i64 2, .bool dd, .int .i64 dvl, .int .i64 dsz], .bool v] X fun e w' => e = .returned (.bool (matchB ⟨dn, rv, ro, 2, (!rw), rvs, rd, rvl, rsz⟩ ⟨dn, dv, do_, dk, dw, 2, dd, dvl, dsz⟩ v)) ∧ Below wi.heap.size wi w' from over_below (fun X => match_any ⟨dn, rv, ro, 2, (!rw), rvs, rd, rvl, rsz⟩ ⟨dn, dv, do_, dk, dw, 2, dd, dvl, dsz⟩ v X) (w1 := wi))
    have M9 := Lib.hid (show ∀ X, Below wi.heap.size wi X → Calls Try.prog 21 #[.agg #[str dn, str rv, .bool ro, .int .i64 2, .bool (!rw), .int .i64 rvs, .bool rd, .int .i64 rvl, .int .i64 rsz], .agg #[str dn, str dv, .bool do_, .int .i64 dk, .bool dw, .int .i64 dvs, .bool false, .int .i64 dvl, .int .i64 dsz], .bool v] X fun e w' => e = .returned (.bool (matchB ⟨dn, rv, ro, 2, (!rw), rvs, rd, rvl, rsz⟩ ⟨dn, dv, do_, dk, dw, dvs, false, dvl, dsz⟩ v)) ∧ Below wi.heap.size wi w' from over_below (fun X => match_any ⟨dn, rv, ro, 2, (!rw), rvs, rd, rvl, rsz⟩ ⟨dn, dv, do_, dk, dw, dvs, false, dvl, dsz⟩ v X) (w1 := wi))
    have M10 := Lib.hid (show ∀ X, Below wi.heap.size wi X → Calls Try.prog 21 #[.agg #[str dn, str rv, .bool ro, .int .i64 2, .bool (!rw), .int .i64 rvs, .bool rd, .int .i64 rvl, .int .i64 rsz], .agg #[str (dn ++ [120]), str dv, .bool do_, .int .i64 dk, .bool dw, .int .i64 dvs, .bool dd, .int .i64 dvl, .int .i64 dsz], .bool v] X fun e w' => e = .returned (.bool (matchB ⟨dn, rv, ro, 2, (!rw), rvs, rd, rvl, rsz⟩ ⟨(dn ++ [120]), dv, do_, dk, dw, dvs, dd, dvl, dsz⟩ v)) ∧ Below wi.heap.size wi w' from over_below (fun X => match_any ⟨dn, rv, ro, 2, (!rw), rvs, rd, rvl, rsz⟩ ⟨(dn ++ [120]), dv, do_, dk, dw, dvs, dd, dvl, dsz⟩ v X) (w1 := wi))
    have MD := Lib.hid (show ∀ X, Below wi.heap.size wi X → Calls Try.prog 21 #[.agg #[str dn, str rv, .bool ro, .int .i64 2, .bool (!rw), .int .i64 rvs, .bool rd, .int .i64 rvl, .int .i64 rsz], .agg #[str dn, str dv, .bool do_, .int .i64 dk, .bool dw, .int .i64 dvs, .bool dd, .int .i64 dvl, .int .i64 dsz], .bool v] X fun e w' => e = .returned (.bool (matchB ⟨dn, rv, ro, 2, (!rw), rvs, rd, rvl, rsz⟩ ⟨dn, dv, do_, dk, dw, dvs, dd, dvl, dsz⟩ v)) ∧ Below wi.heap.size wi w' from over_below (fun X => match_any ⟨dn, rv, ro, 2, (!rw), rvs, rd, rvl, rsz⟩ ⟨dn, dv, do_, dk, dw, dvs, dd, dvl, dsz⟩ v X) (w1 := wi))
    have MS := Lib.hid (show ∀ X, Below wi.heap.size wi X → Calls Try.prog 21 #[.agg #[str dn, str rv, .bool false, .int .i64 0, .bool false, .int .i64 0, .bool false, .int .i64 0, .int .i64 0], .agg #[str dn, str dv, .bool do_, .int .i64 dk, .bool dw, .int .i64 dvs, .bool dd, .int .i64 dvl, .int .i64 dsz], .bool v] X fun e w' => e = .returned (.bool (matchB ⟨dn, rv, false, 0, false, 0, false, 0, 0⟩ ⟨dn, dv, do_, dk, dw, dvs, dd, dvl, dsz⟩ v)) ∧ Below wi.heap.size wi w' from over_below (fun X => match_any ⟨dn, rv, false, 0, false, 0, false, 0, 0⟩ ⟨dn, dv, do_, dk, dw, dvs, dd, dvl, dsz⟩ v X) (w1 := wi))
    rw [match_gone (show seenB ⟨dn, dv, do_, dk, dw, 2, dd, dvl, dsz⟩ = false by simp [seenB])] at M8
    rw [match_gone (show seenB ⟨dn, dv, do_, dk, dw, dvs, false, dvl, dsz⟩ = false by simp [seenB])] at M9
    rw [match_named (other_name dn)] at M10
    rw [show matchB ⟨dn, rv, ro, 2, (!rw), rvs, rd, rvl, rsz⟩ ⟨dn, dv, do_, dk, dw, dvs, dd, dvl, dsz⟩ v = matchB ⟨dn, rv, false, 0, false, 0, false, 0, 0⟩ ⟨dn, dv, do_, dk, dw, dvs, dd, dvl, dsz⟩ v from rfl] at MD
    generalize matchB ⟨dn, rv, false, 0, false, 0, false, 0, 0⟩ ⟨dn, dv, do_, dk, dw, dvs, dd, dvl, dsz⟩ v = mb at *
    have HKE := Lib.hid (show ∀ X, Below wi.heap.size wi X → ((X.cell? ⟨g8, 0, none⟩ = some (str dn) ∧ X.cell? ⟨g8, 1, none⟩ = some (str dv) ∧ X.cell? ⟨g8, 2, none⟩ = some (.bool do_) ∧ X.cell? ⟨g8, 3, none⟩ = some (.int .i64 dk) ∧ X.cell? ⟨g8, 4, none⟩ = some (.bool dw) ∧ X.cell? ⟨g8, 5, none⟩ = some (.int .i64 2) ∧ X.cell? ⟨g8, 6, none⟩ = some (.bool dd) ∧ X.cell? ⟨g8, 7, none⟩ = some (.int .i64 dvl) ∧ X.cell? ⟨g8, 8, none⟩ = some (.int .i64 dsz)) ∧ (X.cell? ⟨g9, 0, none⟩ = some (str dn) ∧ X.cell? ⟨g9, 1, none⟩ = some (str dv) ∧ X.cell? ⟨g9, 2, none⟩ = some (.bool do_) ∧ X.cell? ⟨g9, 3, none⟩ = some (.int .i64 dk) ∧ X.cell? ⟨g9, 4, none⟩ = some (.bool dw) ∧ X.cell? ⟨g9, 5, none⟩ = some (.int .i64 dvs) ∧ X.cell? ⟨g9, 6, none⟩ = some (.bool false) ∧ X.cell? ⟨g9, 7, none⟩ = some (.int .i64 dvl) ∧ X.cell? ⟨g9, 8, none⟩ = some (.int .i64 dsz)) ∧ (X.cell? ⟨g10, 0, none⟩ = some (str (dn ++ [120])) ∧ X.cell? ⟨g10, 1, none⟩ = some (str dv) ∧ X.cell? ⟨g10, 2, none⟩ = some (.bool do_) ∧ X.cell? ⟨g10, 3, none⟩ = some (.int .i64 dk) ∧ X.cell? ⟨g10, 4, none⟩ = some (.bool dw) ∧ X.cell? ⟨g10, 5, none⟩ = some (.int .i64 dvs) ∧ X.cell? ⟨g10, 6, none⟩ = some (.bool dd) ∧ X.cell? ⟨g10, 7, none⟩ = some (.int .i64 dvl) ∧ X.cell? ⟨g10, 8, none⟩ = some (.int .i64 dsz)) ∧ (X.cell? ⟨g11, 0, none⟩ = some (str dn) ∧ X.cell? ⟨g11, 1, none⟩ = some (str rv) ∧ X.cell? ⟨g11, 2, none⟩ = some (.bool ro) ∧ X.cell? ⟨g11, 3, none⟩ = some (.int .i64 2) ∧ X.cell? ⟨g11, 4, none⟩ = some (.bool (!rw)) ∧ X.cell? ⟨g11, 5, none⟩ = some (.int .i64 rvs) ∧ X.cell? ⟨g11, 6, none⟩ = some (.bool rd) ∧ X.cell? ⟨g11, 7, none⟩ = some (.int .i64 rvl) ∧ X.cell? ⟨g11, 8, none⟩ = some (.int .i64 rsz)) ∧ (X.cell? ⟨w.heap.size + 1, 0, none⟩ = some (str dn) ∧ X.cell? ⟨w.heap.size + 1, 1, none⟩ = some (str dv) ∧ X.cell? ⟨w.heap.size + 1, 2, none⟩ = some (.bool do_) ∧ X.cell? ⟨w.heap.size + 1, 3, none⟩ = some (.int .i64 dk) ∧ X.cell? ⟨w.heap.size + 1, 4, none⟩ = some (.bool dw) ∧ X.cell? ⟨w.heap.size + 1, 5, none⟩ = some (.int .i64 dvs) ∧ X.cell? ⟨w.heap.size + 1, 6, none⟩ = some (.bool dd) ∧ X.cell? ⟨w.heap.size + 1, 7, none⟩ = some (.int .i64 dvl) ∧ X.cell? ⟨w.heap.size + 1, 8, none⟩ = some (.int .i64 dsz)) ∧ (X.cell? ⟨w.heap.size, 0, none⟩ = some (str rn) ∧ X.cell? ⟨w.heap.size, 1, none⟩ = some (str rv) ∧ X.cell? ⟨w.heap.size, 2, none⟩ = some (.bool ro) ∧ X.cell? ⟨w.heap.size, 3, none⟩ = some (.int .i64 rk) ∧ X.cell? ⟨w.heap.size, 4, none⟩ = some (.bool rw) ∧ X.cell? ⟨w.heap.size, 5, none⟩ = some (.int .i64 rvs) ∧ X.cell? ⟨w.heap.size, 6, none⟩ = some (.bool rd) ∧ X.cell? ⟨w.heap.size, 7, none⟩ = some (.int .i64 rvl) ∧ X.cell? ⟨w.heap.size, 8, none⟩ = some (.int .i64 rsz))) from fun X hX => ⟨(Y8.out.below hX).cells, (Y9.out.below hX).cells, (Y10.out.below hX).cells, (Y11.out.below hX).cells, (YD.out.below hX).cells, (YR.out.below hX).cells⟩)
    have HKF := Lib.hid (show ∀ w', Below wi.heap.size wi w' → (w'.cell? ⟨g8, 0, none⟩ = some (str dn) ∧ w'.cell? ⟨g8, 1, none⟩ = some (str dv) ∧ w'.cell? ⟨g8, 2, none⟩ = some (.bool do_) ∧ w'.cell? ⟨g8, 3, none⟩ = some (.int .i64 dk) ∧ w'.cell? ⟨g8, 4, none⟩ = some (.bool dw) ∧ w'.cell? ⟨g8, 5, none⟩ = some (.int .i64 2) ∧ w'.cell? ⟨g8, 6, none⟩ = some (.bool dd) ∧ w'.cell? ⟨g8, 7, none⟩ = some (.int .i64 dvl) ∧ w'.cell? ⟨g8, 8, none⟩ = some (.int .i64 dsz) ∧ w'.cell? ⟨g9, 0, none⟩ = some (str dn) ∧ w'.cell? ⟨g9, 1, none⟩ = some (str dv) ∧ w'.cell? ⟨g9, 2, none⟩ = some (.bool do_) ∧ w'.cell? ⟨g9, 3, none⟩ = some (.int .i64 dk) ∧ w'.cell? ⟨g9, 4, none⟩ = some (.bool dw) ∧ w'.cell? ⟨g9, 5, none⟩ = some (.int .i64 dvs) ∧ w'.cell? ⟨g9, 6, none⟩ = some (.bool false) ∧ w'.cell? ⟨g9, 7, none⟩ = some (.int .i64 dvl) ∧ w'.cell? ⟨g9, 8, none⟩ = some (.int .i64 dsz) ∧ w'.cell? ⟨g10, 0, none⟩ = some (str (dn ++ [120])) ∧ w'.cell? ⟨g10, 1, none⟩ = some (str dv) ∧ w'.cell? ⟨g10, 2, none⟩ = some (.bool do_) ∧ w'.cell? ⟨g10, 3, none⟩ = some (.int .i64 dk) ∧ w'.cell? ⟨g10, 4, none⟩ = some (.bool dw) ∧ w'.cell? ⟨g10, 5, none⟩ = some (.int .i64 dvs) ∧ w'.cell? ⟨g10, 6, none⟩ = some (.bool dd) ∧ w'.cell? ⟨g10, 7, none⟩ = some (.int .i64 dvl) ∧ w'.cell? ⟨g10, 8, none⟩ = some (.int .i64 dsz) ∧ w'.cell? ⟨g11, 0, none⟩ = some (str dn) ∧ w'.cell? ⟨g11, 1, none⟩ = some (str rv) ∧ w'.cell? ⟨g11, 2, none⟩ = some (.bool ro) ∧ w'.cell? ⟨g11, 3, none⟩ = some (.int .i64 2) ∧ w'.cell? ⟨g11, 4, none⟩ = some (.bool (!rw)) ∧ w'.cell? ⟨g11, 5, none⟩ = some (.int .i64 rvs) ∧ w'.cell? ⟨g11, 6, none⟩ = some (.bool rd) ∧ w'.cell? ⟨g11, 7, none⟩ = some (.int .i64 rvl) ∧ w'.cell? ⟨g11, 8, none⟩ = some (.int .i64 rsz) ∧ w'.cell? ⟨w.heap.size + 1, 0, none⟩ = some (str dn) ∧ w'.cell? ⟨w.heap.size + 1, 1, none⟩ = some (str dv) ∧ w'.cell? ⟨w.heap.size + 1, 2, none⟩ = some (.bool do_) ∧ w'.cell? ⟨w.heap.size + 1, 3, none⟩ = some (.int .i64 dk) ∧ w'.cell? ⟨w.heap.size + 1, 4, none⟩ = some (.bool dw) ∧ w'.cell? ⟨w.heap.size + 1, 5, none⟩ = some (.int .i64 dvs) ∧ w'.cell? ⟨w.heap.size + 1, 6, none⟩ = some (.bool dd) ∧ w'.cell? ⟨w.heap.size + 1, 7, none⟩ = some (.int .i64 dvl) ∧ w'.cell? ⟨w.heap.size + 1, 8, none⟩ = some (.int .i64 dsz) ∧ w'.cell? ⟨w.heap.size, 0, none⟩ = some (str rn) ∧ w'.cell? ⟨w.heap.size, 1, none⟩ = some (str rv) ∧ w'.cell? ⟨w.heap.size, 2, none⟩ = some (.bool ro) ∧ w'.cell? ⟨w.heap.size, 3, none⟩ = some (.int .i64 rk) ∧ w'.cell? ⟨w.heap.size, 4, none⟩ = some (.bool rw) ∧ w'.cell? ⟨w.heap.size, 5, none⟩ = some (.int .i64 rvs) ∧ w'.cell? ⟨w.heap.size, 6, none⟩ = some (.bool rd) ∧ w'.cell? ⟨w.heap.size, 7, none⟩ = some (.int .i64 rvl) ∧ w'.cell? ⟨w.heap.size, 8, none⟩ = some (.int .i64 rsz)) from fun X hX => (by
      obtain ⟨⟨x00, x01, x02, x03, x04, x05, x06, x07, x08⟩, ⟨x10, x11, x12, x13, x14, x15, x16, x17, x18⟩, ⟨x20, x21, x22, x23, x24, x25, x26, x27, x28⟩, ⟨x30, x31, x32, x33, x34, x35, x36, x37, x38⟩, ⟨x40, x41, x42, x43, x44, x45, x46, x47, x48⟩, ⟨x50, x51, x52, x53, x54, x55, x56, x57, x58⟩⟩ := HKE.out X hX
      exact ⟨x00, x01, x02, x03, x04, x05, x06, x07, x08, x10, x11, x12, x13, x14, x15, x16, x17, x18, x20, x21, x22, x23, x24, x25, x26, x27, x28, x30, x31, x32, x33, x34, x35, x36, x37, x38, x40, x41, x42, x43, x44, x45, x46, x47, x48, x50, x51, x52, x53, x54, x55, x56, x57, x58⟩))
    clear Y8 Y9 Y10 Y11 YR YD p8 p9 p10 pr pd hg11 HL hy hw2 hg8 hg9 hg10 n1 n2 n3
    go_region_held3 (fun w' => w'.cell? ⟨g8, 0, none⟩ = some (str dn) ∧ w'.cell? ⟨g8, 1, none⟩ = some (str dv) ∧ w'.cell? ⟨g8, 2, none⟩ = some (.bool do_) ∧ w'.cell? ⟨g8, 3, none⟩ = some (.int .i64 dk) ∧ w'.cell? ⟨g8, 4, none⟩ = some (.bool dw) ∧ w'.cell? ⟨g8, 5, none⟩ = some (.int .i64 2) ∧ w'.cell? ⟨g8, 6, none⟩ = some (.bool dd) ∧ w'.cell? ⟨g8, 7, none⟩ = some (.int .i64 dvl) ∧ w'.cell? ⟨g8, 8, none⟩ = some (.int .i64 dsz) ∧ w'.cell? ⟨g9, 0, none⟩ = some (str dn) ∧ w'.cell? ⟨g9, 1, none⟩ = some (str dv) ∧ w'.cell? ⟨g9, 2, none⟩ = some (.bool do_) ∧ w'.cell? ⟨g9, 3, none⟩ = some (.int .i64 dk) ∧ w'.cell? ⟨g9, 4, none⟩ = some (.bool dw) ∧ w'.cell? ⟨g9, 5, none⟩ = some (.int .i64 dvs) ∧ w'.cell? ⟨g9, 6, none⟩ = some (.bool false) ∧ w'.cell? ⟨g9, 7, none⟩ = some (.int .i64 dvl) ∧ w'.cell? ⟨g9, 8, none⟩ = some (.int .i64 dsz) ∧ w'.cell? ⟨g10, 0, none⟩ = some (str (dn ++ [120])) ∧ w'.cell? ⟨g10, 1, none⟩ = some (str dv) ∧ w'.cell? ⟨g10, 2, none⟩ = some (.bool do_) ∧ w'.cell? ⟨g10, 3, none⟩ = some (.int .i64 dk) ∧ w'.cell? ⟨g10, 4, none⟩ = some (.bool dw) ∧ w'.cell? ⟨g10, 5, none⟩ = some (.int .i64 dvs) ∧ w'.cell? ⟨g10, 6, none⟩ = some (.bool dd) ∧ w'.cell? ⟨g10, 7, none⟩ = some (.int .i64 dvl) ∧ w'.cell? ⟨g10, 8, none⟩ = some (.int .i64 dsz) ∧ w'.cell? ⟨g11, 0, none⟩ = some (str dn) ∧ w'.cell? ⟨g11, 1, none⟩ = some (str rv) ∧ w'.cell? ⟨g11, 2, none⟩ = some (.bool ro) ∧ w'.cell? ⟨g11, 3, none⟩ = some (.int .i64 2) ∧ w'.cell? ⟨g11, 4, none⟩ = some (.bool (!rw)) ∧ w'.cell? ⟨g11, 5, none⟩ = some (.int .i64 rvs) ∧ w'.cell? ⟨g11, 6, none⟩ = some (.bool rd) ∧ w'.cell? ⟨g11, 7, none⟩ = some (.int .i64 rvl) ∧ w'.cell? ⟨g11, 8, none⟩ = some (.int .i64 rsz) ∧ w'.cell? ⟨w.heap.size + 1, 0, none⟩ = some (str dn) ∧ w'.cell? ⟨w.heap.size + 1, 1, none⟩ = some (str dv) ∧ w'.cell? ⟨w.heap.size + 1, 2, none⟩ = some (.bool do_) ∧ w'.cell? ⟨w.heap.size + 1, 3, none⟩ = some (.int .i64 dk) ∧ w'.cell? ⟨w.heap.size + 1, 4, none⟩ = some (.bool dw) ∧ w'.cell? ⟨w.heap.size + 1, 5, none⟩ = some (.int .i64 dvs) ∧ w'.cell? ⟨w.heap.size + 1, 6, none⟩ = some (.bool dd) ∧ w'.cell? ⟨w.heap.size + 1, 7, none⟩ = some (.int .i64 dvl) ∧ w'.cell? ⟨w.heap.size + 1, 8, none⟩ = some (.int .i64 dsz) ∧ w'.cell? ⟨w.heap.size, 0, none⟩ = some (str rn) ∧ w'.cell? ⟨w.heap.size, 1, none⟩ = some (str rv) ∧ w'.cell? ⟨w.heap.size, 2, none⟩ = some (.bool ro) ∧ w'.cell? ⟨w.heap.size, 3, none⟩ = some (.int .i64 rk) ∧ w'.cell? ⟨w.heap.size, 4, none⟩ = some (.bool rw) ∧ w'.cell? ⟨w.heap.size, 5, none⟩ = some (.int .i64 rvs) ∧ w'.cell? ⟨w.heap.size, 6, none⟩ = some (.bool rd) ∧ w'.cell? ⟨w.heap.size, 7, none⟩ = some (.int .i64 rvl) ∧ w'.cell? ⟨w.heap.size, 8, none⟩ = some (.int .i64 rsz)) (first | (exact HKF.out _ (by first | assumption | exact below_draw (by assumption) | exact Below.refl _ _ | exact drew_below _)) | go_keep) (first
      | (go_at_call 21; (with_reducible refine (M8.out _ (by first | assumption | exact below_draw (by assumption) | exact Below.refl _ _ | exact drew_below _)).mono ?_); rintro e wp ⟨rfl, hb0⟩; obtain ⟨⟨x00, x01, x02, x03, x04, x05, x06, x07, x08⟩, ⟨x10, x11, x12, x13, x14, x15, x16, x17, x18⟩, ⟨x20, x21, x22, x23, x24, x25, x26, x27, x28⟩, ⟨x30, x31, x32, x33, x34, x35, x36, x37, x38⟩, ⟨x40, x41, x42, x43, x44, x45, x46, x47, x48⟩, ⟨x50, x51, x52, x53, x54, x55, x56, x57, x58⟩⟩ := HKE.out _ hb0)
      | (go_at_call 21; (with_reducible refine (M9.out _ (by first | assumption | exact below_draw (by assumption) | exact Below.refl _ _ | exact drew_below _)).mono ?_); rintro e wp ⟨rfl, hb1⟩; obtain ⟨⟨x00, x01, x02, x03, x04, x05, x06, x07, x08⟩, ⟨x10, x11, x12, x13, x14, x15, x16, x17, x18⟩, ⟨x20, x21, x22, x23, x24, x25, x26, x27, x28⟩, ⟨x30, x31, x32, x33, x34, x35, x36, x37, x38⟩, ⟨x40, x41, x42, x43, x44, x45, x46, x47, x48⟩, ⟨x50, x51, x52, x53, x54, x55, x56, x57, x58⟩⟩ := HKE.out _ hb1)
      | (go_at_call 21; (with_reducible refine (M10.out _ (by first | assumption | exact below_draw (by assumption) | exact Below.refl _ _ | exact drew_below _)).mono ?_); rintro e wp ⟨rfl, hb2⟩; obtain ⟨⟨x00, x01, x02, x03, x04, x05, x06, x07, x08⟩, ⟨x10, x11, x12, x13, x14, x15, x16, x17, x18⟩, ⟨x20, x21, x22, x23, x24, x25, x26, x27, x28⟩, ⟨x30, x31, x32, x33, x34, x35, x36, x37, x38⟩, ⟨x40, x41, x42, x43, x44, x45, x46, x47, x48⟩, ⟨x50, x51, x52, x53, x54, x55, x56, x57, x58⟩⟩ := HKE.out _ hb2)
      | (go_at_call 21; (with_reducible refine (MD.out _ (by first | assumption | exact below_draw (by assumption) | exact Below.refl _ _ | exact drew_below _)).mono ?_); rintro e wp ⟨rfl, hb3⟩; obtain ⟨⟨x00, x01, x02, x03, x04, x05, x06, x07, x08⟩, ⟨x10, x11, x12, x13, x14, x15, x16, x17, x18⟩, ⟨x20, x21, x22, x23, x24, x25, x26, x27, x28⟩, ⟨x30, x31, x32, x33, x34, x35, x36, x37, x38⟩, ⟨x40, x41, x42, x43, x44, x45, x46, x47, x48⟩, ⟨x50, x51, x52, x53, x54, x55, x56, x57, x58⟩⟩ := HKE.out _ hb3)
      | (go_at_call 21; (with_reducible refine (MS.out _ (by first | assumption | exact below_draw (by assumption) | exact Below.refl _ _ | exact drew_below _)).mono ?_); rintro e wp ⟨rfl, hb4⟩; obtain ⟨⟨x00, x01, x02, x03, x04, x05, x06, x07, x08⟩, ⟨x10, x11, x12, x13, x14, x15, x16, x17, x18⟩, ⟨x20, x21, x22, x23, x24, x25, x26, x27, x28⟩, ⟨x30, x31, x32, x33, x34, x35, x36, x37, x38⟩, ⟨x40, x41, x42, x43, x44, x45, x46, x47, x48⟩, ⟨x50, x51, x52, x53, x54, x55, x56, x57, x58⟩⟩ := HKE.out _ hb4))
    all_goals
      go_wp2_with fail
      go_ret
      exact ⟨ret_bool (by simp), HB10.out.trans (Below.mono (by first | assumption | exact below_draw (by assumption)) HB10.out.size)⟩
end Go.Proofs.Ytfafgdbknhlbkaa
