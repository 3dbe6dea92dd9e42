/-
  Print: the program's.
-/
import Derived.Test.YtoebboimdkogpaaDoorMb
import Derived.Lib.AppendStr
import Derived.Deep.Cut
import Derived.Deep.RegionHeld3
namespace Go.Proofs.YtoebboimdkogpaaDoor
open Go.RowKit

/-- What holds of the library's tables in every world that a call whose blocks begin at B leads to. -/
def EnvB (B : Nat) (w : World) : Prop := ∀ w', Below B w w' → Env w'
theorem Env.b {w : World} (h : Env w) : EnvB w.heap.size w := fun _ hb => h.below hb
theorem EnvB.on {B : Nat} {w w' : World} (h : EnvB B w) (hb : Below B w w') : EnvB B w' := fun w3 h3 => h w3 (hb.trans h3)
theorem EnvB.tab {B : Nat} {w : World} (h : EnvB B w) : Lib.TabBelow Tryd.prog B w "internal/strconv.uint64pow10" .u64 Lib.pow10Tab := fun w' hb => (h w' hb).tab
theorem byte_cells (l : Str) : Lib.byteCells l = cells l := rfl
theorem str_cells (l : Str) : Lib.strCells ⟨l.toArray⟩ = cells l := by
  simp [Lib.strCells, cells]
theorem reg_at (i : Ins) (j : Nat) (hj : j < 3) : (#[(.int .i64 i.a : Value), .int .i64 i.b, .int .i64 i.c])[j]? = some (.int .i64 (partOf i (letter j))) := by
  have h : j = 0 ∨ j = 1 ∨ j = 2 := by omega
  rcases h with rfl | rfl | rfl <;> rfl
theorem args_more (i : Ins) (j : Nat) (hj : j < 3) : argsS i ([97, 98, 99].take (j + 1)) = argsS i ([97, 98, 99].take j) ++ [32, 114] ++ Lib.itoa (partOf i (letter j)) := by
  have h : j = 0 ∨ j = 1 ∨ j = 2 := by omega
  rcases h with rfl | rfl | rfl <;> simp [argsS, wordS, letter]
theorem args_len (i : Ins) (hm : mayB i = true) (j : Nat) : (argsS i ([97, 98, 99].take j)).length ≤ 12 := by
  obtain ⟨k, hk, hop, hs, ⟨a1, a2⟩, ⟨b1, b2⟩, ⟨c1, c2⟩, _⟩ := may_parts hm
  have ka := itoa_reg i.a a1 a2
  have kb := itoa_reg i.b b1 b2
  have kc := itoa_reg i.c c1 c2
  match j with
  | 0 => simp [argsS]
  | 1 => simp [argsS, wordS, partOf]; omega
  | 2 => simp [argsS, wordS, partOf]; omega
  | j + 3 =>
    have e : List.take (j + 3) [(97 : UInt8), 98, 99] = [97, 98, 99] := List.take_of_length_le (by simp)
    rw [e]
    simp [argsS, wordS, partOf]
    omega
theorem line_num (i : Ins) (s : Shp) (hs : shapeOf i.op = some s) (h : s.num = true) : lineOf i = s.name ++ argsS i ([97, 98, 99].take s.regs) ++ [32] ++ Lib.itoa i.n ++ [10] := by
  unfold lineOf bodyOf
  rw [hs]
  simp [formL, h, argsS, wordS, partOf]
theorem line_plain (i : Ins) (s : Shp) (hs : shapeOf i.op = some s) (h : s.num = false) : lineOf i = s.name ++ argsS i ([97, 98, 99].take s.regs) ++ [10] := by
  unfold lineOf bodyOf
  rw [hs]
  simp [formL, h, argsS]

/-- Where a line's writing stands: the shape's box, the registers', the instruction's. -/
structure LnAt (B : Nat) (w0 w : World) (i : Ins) (s : Shp) (g5 g6 : Nat) : Prop where
  below : Below B w0 w
  b3 : Bx w w0.heap.size (insC i).toArray 35
  b5 : Bx w g5 #[str s.name, .int .i64 s.regs, .bool s.num] 58
  b6 : Bx w g6 #[.int .i64 i.a, .int .i64 i.b, .int .i64 i.c] 61
theorem bx_ne {w : World} {g B n : Nat} {cs : Array Value} {t : TypeId} {v : Value} {xs : List Value} (h : Bx w g cs t) (ho : w.ownsRow B 5 1 v n xs) (ht : t ≠ 5) : v.ownBlock ≠ some g := by
  intro e
  rcases ho.2 with ⟨rfl, _⟩ | ⟨g', cap, cur, rfl, _, hh, _⟩
  · cases e
  · have e' : g' = g := by injection e
    subst e'
    have h' : w.heap[g']? = _ := h
    rw [h'] at hh
    injection hh with hh
    injection hh with _ hh
    exact ht hh
theorem Bx.grown {w w' : World} {g : Nat} {cs : Array Value} {t : TypeId} {r : Option Nat} (h : Bx w g cs t) (hg : w.grownBy w' r) (hr : r ≠ some g) : Bx w' g cs t :=
  (hg.block g h.lt (fun e => hr e.symm)).trans h
theorem Bx.others {w w' : World} {g : Nat} {cs : Array Value} {t : TypeId} (h : Bx w g cs t) (ho : Lib.OthersKept 5 none w w') (ht : t ≠ 5) : Bx w' g cs t :=
  ho g _ h (by intro e; cases e) (by intro c fz e; injection e with _ e; exact ht e)
section
variable {B g5 g6 : Nat} {w0 w w' : World} {i : Ins} {s : Shp}
theorem LnAt.grown (h : LnAt B w0 w i s g5 g6) {n : Nat} {v : Value} {xs : List Value} (ho : w.ownsRow B 5 1 v n xs) (hB : B ≤ w.heap.size) (hg : w.grownBy w' v.ownBlock) : LnAt B w0 w' i s g5 g6 :=
  ⟨h.below.grown hg hB (fun k hk => (ho.lt k hk).1), h.b3.grown hg (bx_ne h.b3 ho (by decide)), h.b5.grown hg (bx_ne h.b5 ho (by decide)), h.b6.grown hg (bx_ne h.b6 ho (by decide))⟩
theorem LnAt.call (h : LnAt B w0 w i s g5 g6) (hb : Below B w w') (ho : Lib.OthersKept 5 none w w') : LnAt B w0 w' i s g5 g6 :=
  ⟨h.below.trans hb, h.b3.others ho (by decide), h.b5.others ho (by decide), h.b6.others ho (by decide)⟩
theorem LnAt.alloc (h : LnAt B w0 w i s g5 g6) (hB : B ≤ w.heap.size) (o : Obj) : LnAt B w0 (w.alloc o) i s g5 g6 :=
  ⟨h.below.alloc hB o, h.b3.alloc o, h.b5.alloc o, h.b6.alloc o⟩
end
theorem appendInt_any (B n : Nat) (i : Int) (hi : I64 i) (v : Value) (xs : List Value) (w : World) (hown : w.ownsRow B 5 1 v n xs) (hB : B ≤ w.heap.size) (hlim : n + 21 ≤ 140737488355328) (he : EnvB B w) :
    Calls Tryd.prog 45 #[v, .int .i64 i, .int .i64 10] w fun e w' => ∃ A' c', e = .returned (.slice A' (n + (Lib.itoa i).length) c') ∧ w'.ownsRow B 5 1 (.slice A' (n + (Lib.itoa i).length) c') (n + (Lib.itoa i).length) (xs ++ cells (Lib.itoa i)) ∧ Below B w w' ∧ Lib.OthersKept 5 none w w' :=
  (Tryd.strconv_AppendInt_10 B n i hi.1 hi.2 v xs w hown hB hlim he.tab).mono fun e w' ⟨v', h1, h2, h3, h4⟩ => by
    obtain ⟨A', c', rfl⟩ := own_slice h2
    exact ⟨A', c', h1, h2, h3, h4⟩

theorem registers_at (op a b c n : Int) (w : World) :
    Calls Tryd.prog 32 #[.agg #[.int .i64 op, .int .i64 a, .int .i64 b, .int .i64 c, .int .i64 n]] w fun e w' => e = .returned (.agg #[.int .i64 a, .int .i64 b, .int .i64 c]) ∧ w' = (w.alloc (.cells #[.int .i64 op, .int .i64 a, .int .i64 b, .int .i64 c, .int .i64 n] 35)).alloc (.cells #[.int .i64 a, .int .i64 b, .int .i64 c] 61) := by
  go_enter Tryd.func32, Tryd.ntmps32
  go_wp2_with fail
  exact bodyPost_ret (v := .agg #[.int .i64 a, .int .i64 b, .int .i64 c]) (by simp [results, Tryd.results32, go_sem]) rfl ⟨rfl, rfl⟩
theorem slice_regs (g r : Nat) (hr : r ≤ 3) (w' : World) : (Instr.sliceAt 61 (.pointer (some ⟨g, 0, none⟩)) none (some (.int .i64 (r : Int))) none).run Tryd.prog w' = .ok (.slice (some ⟨g, 0, none⟩) r 3) w' := by
  have hz : (sizeOf (Tryd.prog.elem 61)).run Tryd.prog w' = .ok 1 w' := by kernel_rfl
  have hl : Tryd.prog.arrayLen 61 = 3 := by kernel_rfl
  rw [run_sliceAt_array_h (w := w') 61 ⟨g, 0, none⟩ (by kernel_rfl) .i64 (r : Int) (by omega) (by rw [hl]; omega), hz]
  simp [Result.andThen, slicedAt, hl, Addr.add]
theorem src_one (w : World) (x : UInt8) : Src (w.alloc (.cells #[.int .u8 (x.toNat : Int)] 5)) (fun _ => True) (some ⟨w.heap.size, 0, none⟩) 1 1 (cells [x]) := by
  refine ⟨rfl, (by intro h; cases h), Nat.le_refl _, (by intro _ _ _; trivial), ?_⟩
  intro ad h j u hu
  cases h
  have hj : j = 0 := by have := (List.getElem?_eq_some_iff.1 hu).1; simp [cells] at this; omega
  subst hj
  rw [plainAdd]
  exact ((Bx.new w #[.int .u8 (x.toNat : Int)] 5).c 0).trans hu
theorem Bx.newAt (w : World) (cs : Array Value) (t : TypeId) (g : Nat) (h : g = w.heap.size) : Bx (w.alloc (.cells cs t)) g cs t := h ▸ Bx.new w cs t
theorem cell_drew {w : World} {a : Addr} {u : Value} (h : w.cell? a = some u) : w.drew.cell? a = some u := h
theorem bel {w w' : World} (h : Below w.heap.size w w') (o : Obj) : Below w.heap.size w (w'.alloc o) := h.alloc h.size o

set_option maxRecDepth 100000 in
set_option maxHeartbeats 4000000 in
theorem appendLine_any (B n : Nat) (A0 : Option Addr) (c0 : Nat) (xs : List Value) (i : Ins) (w : World) (hown : w.ownsRow B 5 1 (.slice A0 n c0) n xs) (hB : B ≤ w.heap.size) (hm : mayB i = true) (hn : n + 60 ≤ 140737488355328) (he : EnvB B w) :
    Calls Tryd.prog 29 #[.slice A0 n c0, insV i] w fun e w' => ∃ A' c', e = .returned (.slice A' (n + (lineOf i).length) c') ∧ w'.ownsRow B 5 1 (.slice A' (n + (lineOf i).length) c') (n + (lineOf i).length) (xs ++ cells (lineOf i)) ∧ Below B w w' := by
  obtain ⟨i0, hi, hz0, hz1, hz2⟩ := info_parts Tryd.info_u8
  obtain ⟨k, hk, hop, hs, ⟨a1, a2⟩, ⟨b1, b2⟩, ⟨d1, d2⟩, ⟨n1, n2⟩, _⟩ := may_parts hm
  have HAL := Lib.hid (args_len i hm)
  have hr := shapes_regs k hk
  have hnl := names_len k hk
  have HLN := Lib.hid (line_num i _ hs)
  have HLP := Lib.hid (line_plain i _ hs)
  obtain ⟨q0, q1, q2⟩ := (he w (Below.refl _ _)).sh.at_ k hk
  generalize shapes[k]'hk = s at *
  have HAT := Lib.hid (fun j hj => reg_at i j hj)
  have HMO := Lib.hid (fun j hj => args_more i j hj)
  have HRG := Lib.hid (registers_any i)
  have HIR := Lib.hid (show ∀ j, I64 (partOf i (letter j)) by
    intro j
    unfold partOf I64
    split
    · omega
    · split
      · omega
      · split <;> omega)
  have HNN := Lib.hid (itoa_num i.n n1 n2)
  have HIN := Lib.hid (show I64 i.n from ⟨by omega, by omega⟩)
  have HOW := Lib.hid hown
  have HE := Lib.hid he
  generalize hLO : lineOf i = LO at *
  have HLO := Lib.hid hLO
  clear hown he hm hs hLO a1 a2 b1 b2 d1 d2 n1 n2
  have hk23 : (k : Int) < 23 := by omega
  have hk0 : (0 : Int) ≤ (k : Int) := by omega
  have hkn : ((k : Int)).toNat = k := by omega
  obtain ⟨op, a, b, c, nn⟩ := i
  simp only at hop
  subst hop
  have e0 := cell_alloc q0 (.cells #[.int .i64 (k : Int), .int .i64 a, .int .i64 b, .int .i64 c, .int .i64 nn] 35)
  have e1 := cell_alloc q1 (.cells #[.int .i64 (k : Int), .int .i64 a, .int .i64 b, .int .i64 c, .int .i64 nn] 35)
  have e2 := cell_alloc q2 (.cells #[.int .i64 (k : Int), .int .i64 a, .int .i64 b, .int .i64 c, .int .i64 nn] 35)
  have hb1 : Below w.heap.size w (w.alloc (.cells #[.int .i64 (k : Int), .int .i64 a, .int .i64 b, .int .i64 c, .int .i64 nn] 35)) := (Below.refl _ _).alloc (Nat.le_refl _) _
  have HX3 := Lib.hid (Bx.new w #[.int .i64 (k : Int), .int .i64 a, .int .i64 b, .int .i64 c, .int .i64 nn] 35)
  have HB1 := Lib.hid hb1
  clear hb1 q0 q1 q2
  go_enter Tryd.func29, Tryd.ntmps29
  go_upto_region 1 with (fail)
  generalize hw1 : w.alloc (.cells #[.int .i64 (k : Int), .int .i64 a, .int .i64 b, .int .i64 c, .int .i64 nn] 35) = w1 at *
  have h0 := HX3.out.c 0
  have h1 := HX3.out.c 1
  have h2 := HX3.out.c 2
  have h3 := HX3.out.c 3
  have h4 := HX3.out.c 4
  clear hw1
  have HKE := Lib.hid (show ∀ X, Below w1.heap.size w1 X → (X.cell? ⟨0, k * 3, none⟩ = some (str s.name) ∧ X.cell? ⟨0, k * 3 + 1, none⟩ = some (.int .i64 s.regs) ∧ X.cell? ⟨0, k * 3 + 2, none⟩ = some (.bool s.num) ∧ X.cell? ⟨w.heap.size, 0, none⟩ = some (.int .i64 (k : Int)) ∧ X.cell? ⟨w.heap.size, 1, none⟩ = some (.int .i64 a) ∧ X.cell? ⟨w.heap.size, 2, none⟩ = some (.int .i64 b) ∧ X.cell? ⟨w.heap.size, 3, none⟩ = some (.int .i64 c) ∧ X.cell? ⟨w.heap.size, 4, none⟩ = some (.int .i64 nn))
    from fun X hX => ⟨cell_below hX e0, cell_below hX e1, cell_below hX e2, cell_below hX h0, cell_below hX h1, cell_below hX h2, cell_below hX h3, cell_below hX h4⟩)
  go_cut [5, 6] from 9 (fun s5 s6 wx => ∃ g5 g6 : Nat, s5 = .pointer (some ⟨g5, 0, none⟩) ∧ s6 = .pointer (some ⟨g6, 0, none⟩) ∧ Below w1.heap.size w1 wx ∧ Bx wx g5 #[str s.name, .int .i64 s.regs, .bool s.num] 58 ∧ Bx wx g6 #[.int .i64 a, .int .i64 b, .int .i64 c] 61)
  case first =>
    clear HAL HAT HMO HIR HIN HLN HLP HLO HOW HE HRG
    go_region_held3 (fun w' => w'.cell? ⟨0, k * 3, none⟩ = some (str s.name) ∧ w'.cell? ⟨0, k * 3 + 1, none⟩ = some (.int .i64 s.regs) ∧ w'.cell? ⟨0, k * 3 + 2, none⟩ = some (.bool s.num) ∧ w'.cell? ⟨w.heap.size, 0, none⟩ = some (.int .i64 (k : Int)) ∧ w'.cell? ⟨w.heap.size, 1, none⟩ = some (.int .i64 a) ∧ w'.cell? ⟨w.heap.size, 2, none⟩ = some (.int .i64 b) ∧ w'.cell? ⟨w.heap.size, 3, none⟩ = some (.int .i64 c) ∧ w'.cell? ⟨w.heap.size, 4, none⟩ = some (.int .i64 nn)) (first | (exact HKE.out _ (by repeat (first | exact Below.refl _ _ | (refine below_draw ?_) | (refine bel ?_ _)))) | go_keep) (first
      | (go_at_call 32; (with_reducible refine (registers_at _ _ _ _ _ _).mono ?_); rintro e w9 ⟨rfl, rfl⟩))
    all_goals
      go_wp2_with fail
      go_meet
      case rel => exact ⟨_, _, rfl, rfl, (by repeat (first | exact Below.refl _ _ | (refine below_draw ?_) | (refine bel ?_ _))), (by first | (refine (Bx.newAt _ _ _ _ ?_).draw; simp; done) | (refine ((Bx.newAt _ _ _ _ ?_).alloc _).draw; simp; done) | (refine (((Bx.newAt _ _ _ _ ?_).alloc _).alloc _).draw; simp; done) | (refine ((((Bx.newAt _ _ _ _ ?_).alloc _).alloc _).alloc _).draw; simp; done)), (by first | (refine (Bx.newAt _ _ _ _ ?_).draw; simp; done) | (refine ((Bx.newAt _ _ _ _ ?_).alloc _).draw; simp; done) | (refine (((Bx.newAt _ _ _ _ ?_).alloc _).alloc _).draw; simp; done) | (refine ((((Bx.newAt _ _ _ _ ?_).alloc _).alloc _).alloc _).draw; simp; done))⟩
  case rest =>
    obtain ⟨g5, g6, rfl, rfl, hbc, hx5, hx6⟩ := hcut
    have hbw : Below w.heap.size w wc := HB1.out.trans (hbc.mono HB1.out.size)
    have HL := Lib.hid (LnAt.mk (B := B) (w0 := w) (w := wc) (i := ⟨k, a, b, c, nn⟩) (s := s) (g5 := g5) (g6 := g6) (hbw.mono hB) (HX3.out.below hbc) hx5 hx6)
    have HO := Lib.hid (HOW.out.kept (row := none) ⟨hbw.os, hbw.tape, hbw.output, hbw.size, fun k hk _ => hbw.block k hk⟩ (by cases A0 <;> simp [Value.ownBlock]))
    have hBc : B ≤ wc.heap.size := Nat.le_trans hB hbw.size
    have HBC := Lib.hid hBc
    have HBB := Lib.hid hB
    have x0 := HL.out.b5.c 0
    have x1 := HL.out.b5.c 1
    have x2 := HL.out.b5.c 2
    have hsz : (ByteArray.mk s.name.toArray).size = s.name.length := by simp [ByteArray.size]
    clear hbc hx5 hx6 hbw HB1 HX3 HKE HOW h0 h1 h2 h3 h4 e0 e1 e2 HRG hB hBc
    generalize hLL : s.name = nm at *
    have HNM := Lib.hid hLL
    clear hLL
    have hsl := slice_regs g6 s.regs hr
    go_wp2_with (at_builtin; refine Lib.wpList_append_own_string _ rfl _ _ 24 9 rfl B 5 i0 Tryd.underlying24 Tryd.underlying9 hi hz0 hz1 hz2 (.slice A0 n c0) n xs rfl HO.out ⟨nm.toArray⟩ rfl (by rw [hsz]; simp only [maxLen]; omega) (by rw [hsz]; omega) HBC.out ?_; intro v' w2 hown hg _; obtain ⟨A2, c2, rfl⟩ := own_slice hown; have HO2 := Lib.hid hown; have HL2 := Lib.hid (HL.out.grown HO.out HBC.out hg); have HB2 := Lib.hid (Nat.le_trans HBC.out hg.size); have y1 := HL2.out.b5.c 1; clear hown hg)
    clear hsl y1 HL HO x0 x1 x2 HBC
    generalize hRR : s.regs = R at *
    have HRR := Lib.hid hRR
    go_loopw [0, 23] (fun t0 t23 wr => ∃ (j : Nat) (L : Str) (A' : Option Addr) (c' : Nat), j ≤ R ∧ t23 = .int .i64 j ∧ t0 = .slice A' (n + L.length) c' ∧ L = nm ++ argsS ⟨k, a, b, c, nn⟩ ([97, 98, 99].take j) ∧ wr.ownsRow B 5 1 (.slice A' (n + L.length) c') (n + L.length) (xs ++ cells L) ∧ LnAt B w wr ⟨k, a, b, c, nn⟩ s g5 g6 ∧ B ≤ wr.heap.size) (fun _ t23 _ => R - (intOf t23).toNat)
    case atStart => exact ⟨0, nm, A2, c2, Nat.zero_le _, rfl, rfl, by simp [argsS], by rw [← str_cells]; exact HO2.out, HL2.out, HB2.out⟩
    case round =>
      obtain ⟨j, L, A', c', hj, rfl, rfl, hL, ho, hln, hbs⟩ := hrel
      have HOW := Lib.hid ho
      have HLN2 := Lib.hid hln
      have HBS := Lib.hid hbs
      have hLl : L.length ≤ 17 := by
        rw [hL, List.length_append]
        have := HAL.out j
        omega
      have HLL := Lib.hid hL
      clear ho hln hbs hL HO2 HL2 HB2
      by_cases hjr : j < R
      · have y6 : wr.cell? ⟨g6, j, none⟩ = some (.int .i64 (partOf ⟨k, a, b, c, nn⟩ (letter j))) := (HLN2.out.b6.c j).trans (HAT.out j (by omega))
        have HMJ := Lib.hid (HMO.out j (by omega))
        have HIJ := Lib.hid (HIR.out j)
        generalize partOf ⟨(k : Int), a, b, c, nn⟩ (letter j) = pv at *
        go_wp2_with (at_builtin; refine Lib.wpList_append_own_string _ rfl _ _ 24 9 rfl B 5 i0 Tryd.underlying24 Tryd.underlying9 hi hz0 hz1 hz2 (.slice A' (n + L.length) c') (n + L.length) (xs ++ cells L) rfl HOW.out ⟨#[32, 114]⟩ rfl (by show n + L.length + 2 ≤ maxLen; simp only [maxLen]; omega) (by show n + L.length + 2 ≤ _; omega) HBS.out ?_; intro v' w2 hown hg _; obtain ⟨A2, c2, rfl⟩ := own_slice hown; have HO2 := Lib.hid (show w2.ownsRow B 5 1 (.slice A2 (n + L.length + 2) c2) (n + L.length + 2) ((xs ++ cells L) ++ cells [32, 114]) from hown); have HL2 := Lib.hid (HLN2.out.grown HOW.out HBS.out hg); have HB2 := Lib.hid (Nat.le_trans HBS.out hg.size); clear hown hg)
        refine (appendInt_any B (n + L.length + 2) pv HIJ.out (.slice A2 (n + L.length + 2) c2) _ w2 HO2.out HB2.out (by omega) (HE.out.on HL2.out.below)).mono ?_
        rintro e w3 ⟨A3, c3, rfl, ho3, hb3, hk3⟩
        have HL3 := Lib.hid (HL2.out.call hb3 hk3)
        have HO3 := Lib.hid ho3
        have HB3 := Lib.hid (Nat.le_trans HB2.out hb3.size)
        clear ho3 hb3 hk3 y6 HOW HLN2 HO2 HL2
        go_wp2_with fail
        have hlen : n + L.length + 2 + (Lib.itoa pv).length = n + (L ++ [32, 114] ++ Lib.itoa pv).length := by simp; omega
        refine ⟨⟨j + 1, L ++ [32, 114] ++ Lib.itoa pv, A3, c3, by omega, by go_num, by rw [hlen], by rw [HMJ.out, HLL.out]; simp, ?_, HL3.out, HB3.out⟩, by simp [intOf]; omega⟩
        have := HO3.out
        rw [hlen] at this
        rw [cells_app, cells_app, ← List.append_assoc, ← List.append_assoc]
        exact this
      · obtain rfl : j = R := by omega
        have x2 := HLN2.out.b5.c 2
        simp only [List.getElem?_toArray, List.getElem?_cons_succ, List.getElem?_cons_zero] at x2
        have m1 : n + L.length + 1 ≤ maxLen := by simp only [maxLen]; omega
        have m2 : (n + L.length + 1) * 1 ≤ 140737488355328 := by omega
        cases hnum : s.num
        · have HLO2 := Lib.hid (show LO = L ++ [10] by rw [HLL.out]; exact HLP.out hnum)
          rw [hnum] at x2
          have HOA := Lib.hid (HOW.out.alloc (.cells #[.int .u8 10] 5))
          have HLA := Lib.hid (HLN2.out.alloc HBS.out (.cells #[.int .u8 10] 5))
          have HSA := Lib.hid (src_one wr 10)
          have HBA := Lib.hid (show B ≤ (wr.alloc (.cells #[.int .u8 10] 5)).heap.size by have := HBS.out; rw [World.size_alloc]; omega)
          clear HLN HLP HMO HAT HIR HIN HE HLO HLN2 HBS
          go_wp2_with (at_builtin; refine wpList_append_src rfl (.tmp 42) (.tmp 43) 24 rfl B 5 i0 _ 1 Tryd.underlying24 hi hz0 hz1 hz2 rfl (.slice A' (n + L.length) c') (n + L.length) (xs ++ cells L) rfl HOA.out (fun _ => True) _ 1 1 (cells [10]) rfl HSA.out (cells_one _) m1 m2 HBA.out ?_; intro v' w1 hown hg _; obtain ⟨A4, c4, rfl⟩ := own_slice hown; have HO4 := Lib.hid hown; have HL4 := Lib.hid (HLA.out.grown HOA.out HBA.out hg); clear hown hg)
          go_ret
          have hlen : n + L.length + 1 = n + LO.length := by rw [HLO2.out]; simp; omega
          refine ⟨A4, c4, by rw [← hlen]; rfl, ?_, HL4.out.below⟩
          have := HO4.out
          rw [hlen] at this
          rw [HLO2.out] at this ⊢
          rw [cells_app, ← List.append_assoc]
          exact this
        · have HLO2 := Lib.hid (show LO = L ++ [32] ++ Lib.itoa nn ++ [10] by rw [HLL.out]; exact HLN.out hnum)
          rw [hnum] at x2
          have HOA := Lib.hid (HOW.out.alloc (.cells #[.int .u8 32] 5))
          have HLA := Lib.hid (HLN2.out.alloc HBS.out (.cells #[.int .u8 32] 5))
          have HSA := Lib.hid (src_one wr 32)
          have HBA := Lib.hid (show B ≤ (wr.alloc (.cells #[.int .u8 32] 5)).heap.size by have := HBS.out; rw [World.size_alloc]; omega)
          have HNL := Lib.hid (show (Lib.itoa nn).length ≤ 11 from HNN.out)
          clear HLN HLP HMO HAT HIR HLO HLN2 HBS
          go_wp2_with (at_builtin; refine wpList_append_src rfl (.tmp 35) (.tmp 36) 24 rfl B 5 i0 _ 1 Tryd.underlying24 hi hz0 hz1 hz2 rfl (.slice A' (n + L.length) c') (n + L.length) (xs ++ cells L) rfl HOA.out (fun _ => True) _ 1 1 (cells [32]) rfl HSA.out (cells_one _) m1 m2 HBA.out ?_; intro v' w1 hown hg _; obtain ⟨A4, c4, rfl⟩ := own_slice hown; have HO4 := Lib.hid hown; have HL4 := Lib.hid (HLA.out.grown HOA.out HBA.out hg); have HB4 := Lib.hid (Nat.le_trans HBA.out hg.size); have y4 := HL4.out.b3.c 4; clear hown hg)
          refine (appendInt_any B (n + L.length + 1) nn HIN.out (.slice A4 (n + L.length + 1) c4) _ w1 HO4.out HB4.out (by omega) (HE.out.on HL4.out.below)).mono ?_
          rintro e w5 ⟨A5, c5, rfl, ho5, hb5, hk5⟩
          have HL5 := Lib.hid (HL4.out.call hb5 hk5)
          have hnl := HNL.out
          have m1 : n + L.length + 1 + (Lib.itoa nn).length + 1 ≤ maxLen := by simp only [maxLen]; omega
          have m2 : (n + L.length + 1 + (Lib.itoa nn).length + 1) * 1 ≤ 140737488355328 := by omega
          have HB5 := Lib.hid (Nat.le_trans HB4.out hb5.size)
          have HOA5 := Lib.hid (ho5.alloc (.cells #[.int .u8 10] 5))
          have HLA5 := Lib.hid (HL5.out.alloc HB5.out (.cells #[.int .u8 10] 5))
          have HSA5 := Lib.hid (src_one w5 10)
          have HBA5 := Lib.hid (show B ≤ (w5.alloc (.cells #[.int .u8 10] 5)).heap.size by have := HB5.out; rw [World.size_alloc]; omega)
          clear ho5 hb5 hk5 HIN HE HO4 HL4 HOA HLA HSA HBA y4
          generalize hIT : Lib.itoa nn = it at *
          have HIT := Lib.hid hIT
          clear hIT
          go_wp2_with (at_builtin; refine wpList_append_src rfl (.tmp 42) (.tmp 43) 24 rfl B 5 i0 _ 1 Tryd.underlying24 hi hz0 hz1 hz2 rfl (.slice A5 (n + L.length + 1 + it.length) c5) (n + L.length + 1 + it.length) _ rfl HOA5.out (fun _ => True) _ 1 1 (cells [10]) rfl HSA5.out (cells_one _) m1 m2 HBA5.out ?_; intro v' w6 hown hg _; obtain ⟨A6, c6, rfl⟩ := own_slice hown; have HO6 := Lib.hid hown; have HL6 := Lib.hid (HLA5.out.grown HOA5.out HBA5.out hg); clear hown hg)
          go_ret
          have hlen : n + L.length + 1 + it.length + 1 = n + LO.length := by rw [HLO2.out]; simp; omega
          refine ⟨A6, c6, by rw [← hlen]; rfl, ?_, HL6.out.below⟩
          have := HO6.out
          rw [hlen] at this
          rw [HLO2.out] at this ⊢
          rw [cells_app, cells_app, cells_app, ← List.append_assoc, ← List.append_assoc, ← List.append_assoc]
          exact this
end Go.Proofs.YtoebboimdkogpaaDoor
