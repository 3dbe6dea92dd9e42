/-
  The law SymverBack, walked.
-/
import Derived.Test.YtfafgdbknhlbkaaTo
import Derived.Test.YtfafgdbknhlbkaaS
import Derived.Deep.Cut
namespace Go.Proofs.Ytfafgdbknhlbkaa
open Go.RowKit

theorem nameC_mark {b : UInt8} (h : nameC b = true) : b ≠ 64 := by
  intro e
  subst e
  exact absurd h (by decide)
theorem nameB_all {l : Str} (h : nameB l = true) : l ≠ [] ∧ l.length ≤ 64 ∧ ∀ x ∈ l, x ≠ 64 := by
  unfold nameB at h
  simp only [Bool.and_eq_true, Bool.not_eq_true', decide_eq_true_eq, List.all_eq_true] at h
  refine ⟨?_, h.1.2, fun x hx => nameC_mark (h.2 x hx)⟩
  intro e
  rw [e] at h
  exact absurd h.1.1 (by simp)
theorem spl_app {n r : Str} (h : ∀ x ∈ n, x ≠ 64) : spl (n ++ 64 :: r) = (n, some r) := by
  induction n with
  | nil => rfl
  | cons x n ih =>
    rw [List.cons_append, spl, if_neg (h x (by simp)), ih (fun y hy => h y (by simp [hy]))]
theorem parse_print (s : Sym) (h : rightB s = true) : parseS (printS s) s.dfd = some ⟨s.name, s.ver, s.old, 0, false, 0, s.dfd, 0, 0⟩ := by
  unfold rightB textB defB at h
  cases hv : s.ver with
  | nil =>
    rw [hv] at h
    simp only [List.isEmpty_nil, if_true, Bool.and_eq_true, Bool.not_eq_true'] at h
    obtain ⟨⟨⟨h1, h2⟩, _⟩, _⟩ := h
    unfold printS
    rw [hv]
    simp only [List.isEmpty_nil, if_true]
    unfold parseS
    rw [spl_miss (nameB_all h1).2.2]
    simp only [h1, if_true, h2]
  | cons x v =>
    rw [hv] at h
    simp only [List.isEmpty_cons, Bool.false_eq_true, if_false, Bool.and_eq_true] at h
    obtain ⟨⟨⟨h1, h2⟩, _⟩, h3⟩ := h
    have hx := (nameB_all h2).2.2 x (by simp)
    unfold printS
    rw [hv]
    simp only [List.isEmpty_cons, Bool.false_eq_true, if_false]
    cases hd : s.dfd
    · rw [hd] at h3
      have ho : s.old = false := by
        simp only [Bool.false_or, Bool.not_eq_true', Bool.or_eq_false_iff] at h3
        exact h3.1.1.1
      simp only [Bool.false_and, Bool.false_eq_true, if_false]
      unfold parseS
      rw [show s.name ++ ([64] ++ x :: v) = s.name ++ 64 :: (x :: v) from rfl, spl_app (nameB_all h1).2.2]
      split
      · rename_i h; cases h
      · rename_i h; injection h with h; injection h with h; exact absurd h hx
      · rename_i h1' h; cases h; simp [h1, h2, ho]
    · cases ho : s.old
      · simp only [Bool.not_false, Bool.and_self, if_true]
        unfold parseS
        rw [show s.name ++ ([64, 64] ++ x :: v) = s.name ++ 64 :: (64 :: x :: v) from rfl, spl_app (nameB_all h1).2.2]
        simp [h1, h2]
      · simp only [Bool.not_true, Bool.and_false, Bool.false_eq_true, if_false]
        unfold parseS
        rw [show s.name ++ ([64] ++ x :: v) = s.name ++ 64 :: (x :: v) from rfl, spl_app (nameB_all h1).2.2]
        split
        · rename_i h; cases h
        · rename_i h; injection h with h; injection h with h; exact absurd h hx
        · rename_i h1' h; cases h; simp [h1, h2]
theorem print_parse {l : Str} {d : Bool} {y : Sym} (h : parseS l d = some y) : printS y = l ∧ nameB y.name = true ∧ (y.ver = [] ∨ nameB y.ver = true) := by
  unfold parseS at h
  cases hs : (spl l).2 with
  | none =>
    obtain ⟨h1, _⟩ := spl_none hs
    rw [hs, h1] at h
    simp only at h
    split at h
    · rename_i hn
      cases h
      exact ⟨rfl, hn, .inl rfl⟩
    · cases h
  | some r =>
    obtain ⟨h1, _⟩ := spl_some hs
    rw [hs] at h
    generalize (spl l).1 = n at *
    subst h1
    split at h
    · rename_i h'; cases h'
    · rename_i v h'
      injection h' with h'
      subst h'
      split at h
      · rename_i hc
        simp only [Bool.and_eq_true] at hc
        cases h
        refine ⟨?_, hc.1.1, .inr hc.1.2⟩
        have := (nameB_all hc.1.2).1
        simp [printS, this, hc.2]
      · cases h
    · rename_i v hne h'
      injection h' with h'
      subst h'
      split at h
      · rename_i hc
        simp only [Bool.and_eq_true] at hc
        cases h
        refine ⟨?_, hc.1, .inr hc.2⟩
        have := (nameB_all hc.2).1
        simp [printS, this]
      · cases h

theorem bel2 {w w' : World} (h : Below w.heap.size w w') (cs : Array Value) (t : TypeId) : Below w.heap.size w (w'.alloc (.cells cs t)) := h.alloc h.size _
theorem bel_set {w w' : World} (h : Below w.heap.size w w') {p : Addr} (hp : w.heap.size ≤ p.block) (u : Value) : Below w.heap.size w (w'.setCell p u) := h.setCell hp u
theorem over_kept {f : FuncId} {args : Array Value} {v : Value} (h : ∀ X, Calls Try.prog f args X fun e w' => e = .returned v ∧ Below X.heap.size X w') {w1 : World} : ∀ X, Below w1.heap.size w1 X → Calls Try.prog f args X fun e w' => e = .returned v ∧ Below w1.heap.size w1 w' ∧ ∀ g, Sx X g noSym → Sx w' g noSym :=
  fun X hX => (h X).mono fun _ _ hh => ⟨hh.1, hX.trans (hh.2.mono hX.size), fun _ hg => hg.below hh.2⟩
theorem sx_new (X : World) : Sx (X.alloc (.cells #[.string ⟨#[]⟩, .string ⟨#[]⟩, .bool false, .int .i64 0, .bool false, .int .i64 0, .bool false, .int .i64 0, .int .i64 0] 26)) X.heap.size noSym := Sx.new X noSym
theorem sx_new_drew (X : World) : Sx (X.alloc (.cells #[.string ⟨#[]⟩, .string ⟨#[]⟩, .bool false, .int .i64 0, .bool false, .int .i64 0, .bool false, .int .i64 0, .int .i64 0] 26)).drew X.heap.size noSym := ⟨(Sx.new X noSym).bx.draw 1⟩
set_option maxHeartbeats 16000000 in
theorem back_any (s : Sym) (l : Str) (d : Bool) (w : World) (hl : s.name.length + s.ver.length + 2 ≤ 9223372036854775806) (hs : l.length ≤ 9223372036854775806) : Calls Try.prog 6 #[symV s, str l, .bool d] w fun e w' => e = .returned (.bool true) ∧ Below w.heap.size w w' := by
  have HB0 := Lib.hid (box_below w s)
  have HX0 := Lib.hid (Sx.new w s)
  have HA := Lib.hid (awake_any (w.alloc (.cells (symA s) 26)))
  have HR := Lib.hid (fun X => right_any s X)
  go_enter Try.func6, Try.ntmps6
  go_upto_region 1 with (fail)
  generalize w.alloc (.cells (symA s) 26) = w0 at *
  go_wp2_with fail
  refine HA.out.mono ?_
  rintro e w1 ⟨rfl, hb⟩
  have HB1 := Lib.hid (HB0.out.trans (hb.mono HB0.out.size))
  have HX1 := Lib.hid (HX0.out.below hb)
  obtain ⟨c0, c1, c2, c3, c4, c5, c6, c7, c8⟩ := HX1.out.cells
  clear hb HB0 HX0 HA
  go_wp2_with fail
  refine (HR.out _).mono ?_
  rintro e w2 ⟨rfl, hb⟩
  have HB2 := Lib.hid (HB1.out.trans (hb.mono HB1.out.size))
  have HX2 := Lib.hid (HX1.out.below hb)
  clear hb HB1 HX1 c0 c1 c2 c3 c4 c5 c6 c7 c8 HR
  obtain ⟨c0, c1, c2, c3, c4, c5, c6, c7, c8⟩ := HX2.out.cells
  have HE := Lib.hid (show okV (rightB s) = .int .i64 (if rightB s then 0 else 70) from rfl)
  rw [HE.out]
  go_upto_if 15 with (fail)
  go_cut [] from 8 (fun wx => Below w2.heap.size w2 wx)
  case first =>
    cases hr : rightB s
    · clear hr
      go_wp2_with fail
      go_meet
      case rel => exact Below.refl _ _
    · have HPP := Lib.hid (parse_print s hr)
      have hl1 : (printS s).length ≤ 9223372036854775806 := by
        unfold printS
        split
        · omega
        · split <;> simp <;> omega
      clear hr
      have HKE := Lib.hid (show ∀ X, Below w2.heap.size w2 X → (X.cell? ⟨w.heap.size, 0, none⟩ = some (str s.name) ∧ X.cell? ⟨w.heap.size, 1, none⟩ = some (str s.ver) ∧ X.cell? ⟨w.heap.size, 2, none⟩ = some (.bool s.old) ∧ X.cell? ⟨w.heap.size, 3, none⟩ = some (.int .i64 s.kind) ∧ X.cell? ⟨w.heap.size, 4, none⟩ = some (.bool s.weak) ∧ X.cell? ⟨w.heap.size, 5, none⟩ = some (.int .i64 s.vis) ∧ X.cell? ⟨w.heap.size, 6, none⟩ = some (.bool s.dfd) ∧ X.cell? ⟨w.heap.size, 7, none⟩ = some (.int .i64 s.val) ∧ X.cell? ⟨w.heap.size, 8, none⟩ = some (.int .i64 s.size)) from fun X hX => (HX2.out.below hX).cells)
      have HP := Lib.hid (over_kept (fun X => print_any s X (by omega)) (w1 := w2))
      have HQ := fun X => parse_any (printS s) s.dfd X hl1
      rw [HPP.out] at HQ
      have hPV : parseV (some ⟨s.name, s.ver, s.old, 0, false, 0, s.dfd, 0, 0⟩) = .tuple #[.agg (symA ⟨s.name, s.ver, s.old, 0, false, 0, s.dfd, 0, 0⟩), .int .i64 0] := rfl
      rw [hPV] at HQ
      clear hPV
      obtain ⟨y, hy⟩ : ∃ y : Sym, y = ⟨s.name, s.ver, s.old, 0, false, 0, s.dfd, 0, 0⟩ := ⟨_, rfl⟩
      rw [← hy] at HQ
      have HY := Lib.hid hy
      have HQ := Lib.hid (over_kept HQ (w1 := w2))
      clear hy
      clear c0 c1 c2 c3 c4 c5 c6 c7 c8 hl1
      generalize printS s = ps at *
      go_wp2_with fail
      go_cut [8, 9] from 12 (fun s8 s9 wx => ∃ g, s8 = .pointer (some ⟨g, 0, none⟩) ∧ s9 = .int .i64 0 ∧ Below w2.heap.size w2 wx ∧ Sx wx g y)
      case first =>
        go_region_held3 (fun w' => w'.cell? ⟨w.heap.size, 0, none⟩ = some (str s.name) ∧ w'.cell? ⟨w.heap.size, 1, none⟩ = some (str s.ver) ∧ w'.cell? ⟨w.heap.size, 2, none⟩ = some (.bool s.old) ∧ w'.cell? ⟨w.heap.size, 3, none⟩ = some (.int .i64 s.kind) ∧ w'.cell? ⟨w.heap.size, 4, none⟩ = some (.bool s.weak) ∧ w'.cell? ⟨w.heap.size, 5, none⟩ = some (.int .i64 s.vis) ∧ w'.cell? ⟨w.heap.size, 6, none⟩ = some (.bool s.dfd) ∧ w'.cell? ⟨w.heap.size, 7, none⟩ = some (.int .i64 s.val) ∧ w'.cell? ⟨w.heap.size, 8, none⟩ = some (.int .i64 s.size)) (first | (exact HKE.out _ (by repeat (first | (with_reducible assumption) | (with_reducible exact Below.refl _ _) | (with_reducible refine below_draw ?_) | (with_reducible refine bel2 ?_ _ _) | (with_reducible refine bel_set ?_ (by first | (with_reducible exact Nat.le_refl _) | (with_reducible exact Below.size (by assumption))) _)))) | go_keep) (first
          | (go_at_call 16; (with_reducible refine (HP.out _ (by repeat (first | (with_reducible assumption) | (with_reducible exact Below.refl _ _) | (with_reducible refine below_draw ?_) | (with_reducible refine bel2 ?_ _ _) | (with_reducible refine bel_set ?_ (by first | (with_reducible exact Nat.le_refl _) | (with_reducible exact Below.size (by assumption))) _)))).mono ?_); rintro e wp ⟨rfl, hb1, hk⟩; have HXB := Lib.hid (hk _ (by first | (with_reducible exact sx_new_drew _) | (with_reducible exact sx_new _))); obtain ⟨y0, y1, y2, y3, y4, y5, y6, y7, y8⟩ := HXB.out.cells; have z0 := HXB.out.frozen 0; have z1 := HXB.out.frozen 1; have z2 := HXB.out.frozen 2; have z3 := HXB.out.frozen 3; have z4 := HXB.out.frozen 4; have z5 := HXB.out.frozen 5; have z6 := HXB.out.frozen 6; have z7 := HXB.out.frozen 7; have z8 := HXB.out.frozen 8; obtain ⟨p0, p1, p2, p3, p4, p5, p6, p7, p8⟩ := HKE.out _ hb1)
          | (go_at_call 16; (with_reducible refine (HP.out _ (by repeat (first | (with_reducible assumption) | (with_reducible exact Below.refl _ _) | (with_reducible refine below_draw ?_) | (with_reducible refine bel2 ?_ _ _) | (with_reducible refine bel_set ?_ (by first | (with_reducible exact Nat.le_refl _) | (with_reducible exact Below.size (by assumption))) _)))).mono ?_); rintro e wp ⟨rfl, hb1, hk⟩; obtain ⟨p0, p1, p2, p3, p4, p5, p6, p7, p8⟩ := HKE.out _ hb1)
          | (go_at_call 11; (with_reducible refine (HQ.out _ (by repeat (first | (with_reducible assumption) | (with_reducible exact Below.refl _ _) | (with_reducible refine below_draw ?_) | (with_reducible refine bel2 ?_ _ _) | (with_reducible refine bel_set ?_ (by first | (with_reducible exact Nat.le_refl _) | (with_reducible exact Below.size (by assumption))) _)))).mono ?_); rintro e wq ⟨rfl, hb2, hk⟩; have HXB := Lib.hid (hk _ (by first | (with_reducible exact sx_new_drew _) | (with_reducible exact sx_new _) | (with_reducible exact HXB.out))); obtain ⟨y0, y1, y2, y3, y4, y5, y6, y7, y8⟩ := HXB.out.cells; have z0 := HXB.out.frozen 0; have z1 := HXB.out.frozen 1; have z2 := HXB.out.frozen 2; have z3 := HXB.out.frozen 3; have z4 := HXB.out.frozen 4; have z5 := HXB.out.frozen 5; have z6 := HXB.out.frozen 6; have z7 := HXB.out.frozen 7; have z8 := HXB.out.frozen 8; obtain ⟨p0, p1, p2, p3, p4, p5, p6, p7, p8⟩ := HKE.out _ hb2)
          | (go_at_call 11; (with_reducible refine (HQ.out _ (by repeat (first | (with_reducible assumption) | (with_reducible exact Below.refl _ _) | (with_reducible refine below_draw ?_) | (with_reducible refine bel2 ?_ _ _) | (with_reducible refine bel_set ?_ (by first | (with_reducible exact Nat.le_refl _) | (with_reducible exact Below.size (by assumption))) _)))).mono ?_); rintro e wq ⟨rfl, hb2, hk⟩; obtain ⟨p0, p1, p2, p3, p4, p5, p6, p7, p8⟩ := HKE.out _ hb2))
        all_goals
          go_wp2_with fail
          go_meet
          case rel =>
            first
            | (with_reducible exact ⟨_, rfl, rfl, bel2 hb2 _ _, Sx.new _ y⟩)
            | (refine ⟨_, rfl, rfl, (by repeat (first | (with_reducible assumption) | (with_reducible exact Below.refl _ _) | (with_reducible refine below_draw ?_) | (with_reducible refine bel2 ?_ _ _) | (with_reducible refine bel_set ?_ (by first | (with_reducible exact Nat.le_refl _) | (with_reducible exact Below.size (by assumption))) _))), ?_⟩; with_reducible exact HXB.out.set9 y)
      case rest =>
        obtain ⟨g, rfl, rfl, hb, hx⟩ := hcut
        have HB3 := Lib.hid hb
        obtain ⟨p0, p1, p2, p3, p4, p5, p6, p7, p8⟩ := HKE.out _ hb
        obtain ⟨d0, d1, d2, d3, d4, d5, d6, d7, d8⟩ := hx.cells
        have hne : ∀ v, (binOp .neq 26 (.agg #[str s.name, str s.ver, .bool s.old, .int .i64 0, .bool false, .int .i64 0, .bool s.dfd, .int .i64 0, .int .i64 0]) (.agg #[str s.name, str s.ver, .bool s.old, .int .i64 0, .bool false, .int .i64 0, .bool s.dfd, .int .i64 0, .int .i64 0])).run Try.prog v = .ok (.bool false) v := fun v => neq_self ⟨s.name, s.ver, s.old, 0, false, 0, s.dfd, 0, 0⟩ v
        rw [HY.out] at d0 d1 d2 d3 d4 d5 d6 d7 d8
        simp only at d0 d1 d2 d3 d4 d5 d6 d7 d8
        clear hb hx
        go_wp2_with fail
        go_meet
        case rel => exact HB3.out
  case rest =>
    have HBC := Lib.hid (HB2.out.trans (hcut.mono HB2.out.size))
    have HQ := Lib.hid (fun X => parse_any l d X hs)
    clear hcut HB2 HX2 c0 c1 c2 c3 c4 c5 c6 c7 c8 HE
    cases hp : parseS l d with
    | none =>
      rw [hp, show parseV none = .tuple #[.agg (symA noSym), .int .i64 70] from rfl] at HQ
      clear hp
      go_wp2_with fail
      refine (HQ.out _).mono ?_
      rintro e w4 ⟨rfl, hb⟩
      have HB4 := Lib.hid ((HBC.out.trans (hb.mono HBC.out.size)).alloc (HBC.out.trans (hb.mono HBC.out.size)).size (boxO noSym))
      have HX4 := Lib.hid (sx_new w4)
      obtain ⟨d0, d1, d2, d3, d4, d5, d6, d7, d8⟩ := HX4.out.cells
      have heq : ∀ v, (binOp .eql 26 (.agg #[.string ⟨#[]⟩, .string ⟨#[]⟩, .bool false, .int .i64 0, .bool false, .int .i64 0, .bool false, .int .i64 0, .int .i64 0]) (.agg #[.string ⟨#[]⟩, .string ⟨#[]⟩, .bool false, .int .i64 0, .bool false, .int .i64 0, .bool false, .int .i64 0, .int .i64 0])).run Try.prog v = .ok (.bool true) v := fun v => eql_self noSym v
      clear hb HBC
      go_wp2_with fail
      go_ret
      exact ⟨rfl, HB4.out⟩
    | some y =>
      obtain ⟨h1, h2, h3⟩ := print_parse hp
      have hyl : y.name.length ≤ 64 := (nameB_all h2).2.1
      have hyv : y.ver.length ≤ 64 := by
        rcases h3 with h3 | h3
        · rw [h3]; simp
        · exact (nameB_all h3).2.1
      rw [hp, show parseV (some y) = .tuple #[.agg (symA y), .int .i64 0] from rfl] at HQ
      clear hp
      have HP := fun X => print_any y X (by omega)
      rw [h1] at HP
      have HP := Lib.hid HP
      have HN := fun X => name_any y.name X
      rw [h2] at HN
      have HN := Lib.hid HN
      have HV := Lib.hid (fun X => name_any y.ver X)
      have H3 := Lib.hid h3
      clear h1 h2 h3 hyl hyv
      go_wp2_with fail
      refine (HQ.out _).mono ?_
      rintro e w4 ⟨rfl, hb⟩
      have HB4 := Lib.hid ((HBC.out.trans (hb.mono HBC.out.size)).alloc (HBC.out.trans (hb.mono HBC.out.size)).size (boxO y))
      have HX4 := Lib.hid (show Sx (w4.alloc (boxO y)) w4.heap.size y from Sx.new w4 y)
      clear hb HBC
      go_upto_region 7 with (fail)
      generalize w4.alloc (boxO y) = w5 at *
      generalize w4.heap.size = g at *
      obtain ⟨d0, d1, d2, d3, d4, d5, d6, d7, d8⟩ := HX4.out.cells
      go_wp2_with fail
      refine (HP.out _).mono ?_
      rintro e w6 ⟨rfl, hb⟩
      have HB6 := Lib.hid (HB4.out.trans (hb.mono HB4.out.size))
      have HX6 := Lib.hid (HX4.out.below hb)
      clear hb HB4 HX4 d0 d1 d2 d3 d4 d5 d6 d7 d8
      obtain ⟨d0, d1, d2, d3, d4, d5, d6, d7, d8⟩ := HX6.out.cells
      go_wp2_with fail
      refine (HN.out _).mono ?_
      rintro e w7 ⟨rfl, h7⟩
      rw [← h7]
      clear h7 w7
      cases hv : y.ver.isEmpty
      · have hvb : nameB y.ver = true := by
          rcases H3.out with h3 | h3
          · rw [h3] at hv; simp at hv
          · exact h3
        rw [hvb] at HV
        go_wp2_with fail
        refine (HV.out _).mono ?_
        rintro e w7 ⟨rfl, h7⟩
        rw [← h7]
        clear h7 w7
        go_wp2_with fail
        go_ret
        exact ⟨rfl, HB6.out⟩
      · go_wp2_with fail
        go_ret
        exact ⟨rfl, HB6.out⟩
end Go.Proofs.Ytfafgdbknhlbkaa
