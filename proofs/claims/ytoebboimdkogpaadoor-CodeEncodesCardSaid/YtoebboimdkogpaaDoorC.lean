/-
  May: whether an instruction may be.
-/
import Derived.Test.YtoebboimdkogpaaDoorB
import Derived.Deep.RegionHeld3
namespace Go.Proofs.YtoebboimdkogpaaDoor
open Go.RowKit

/-- An instruction's box and its shape's. -/
def MayAt (w0 w : World) (i : Ins) (s : Shp) : Prop :=
  Below w0.heap.size w0 w ∧ Bx w w0.heap.size #[.int .i64 i.op, .int .i64 i.a, .int .i64 i.b, .int .i64 i.c, .int .i64 i.n] 35 ∧ Bx w (w0.heap.size + 1) #[str s.name, .int .i64 s.regs, .bool s.num] 58
theorem MayAt.on {w0 w w' : World} {i : Ins} {s : Shp} (h : MayAt w0 w i s) (hb : Below w.heap.size w w') : MayAt w0 w' i s :=
  ⟨h.1.trans (hb.mono h.1.size), h.2.1.below hb, h.2.2.below hb⟩

theorem MayAt.cells {w0 w : World} {i : Ins} {s : Shp} (h : MayAt w0 w i s) : w.cell? ⟨w0.heap.size, 0, none⟩ = some (.int .i64 i.op) ∧ w.cell? ⟨w0.heap.size, 1, none⟩ = some (.int .i64 i.a) ∧ w.cell? ⟨w0.heap.size, 2, none⟩ = some (.int .i64 i.b) ∧ w.cell? ⟨w0.heap.size, 3, none⟩ = some (.int .i64 i.c) ∧ w.cell? ⟨w0.heap.size, 4, none⟩ = some (.int .i64 i.n) ∧
    w.cell? ⟨w0.heap.size + 1, 0, none⟩ = some (str s.name) ∧ w.cell? ⟨w0.heap.size + 1, 1, none⟩ = some (.int .i64 s.regs) ∧ w.cell? ⟨w0.heap.size + 1, 2, none⟩ = some (.bool s.num) :=
  ⟨h.2.1.c 0, h.2.1.c 1, h.2.1.c 2, h.2.1.c 3, h.2.1.c 4, h.2.2.c 0, h.2.2.c 1, h.2.2.c 2⟩

set_option maxHeartbeats 4000000 in
set_option maxRecDepth 100000 in
theorem may_in (i : Ins) (k : Nat) (hk : k < 23) (hop : i.op = k) (w : World) (hs : Shps w) :
    Calls Tryd.prog 16 #[insV i] w fun e w' => e = .returned (.int .i64 (if mayB i then 0 else 40)) ∧ Below w.heap.size w w' := by
  have hm : mayB i = (regsOk (shapes[k]'hk).regs i.a i.b i.c && numOk (shapes[k]'hk).num i.n) := by
    rw [mayB, hop, shapeOf_in k hk]
  have hr := shapes_regs k hk
  obtain ⟨c0, c1, c2⟩ := hs.at_ k hk
  generalize hsq : shapes[k]'hk = s at *
  clear hsq
  obtain ⟨op, a, b, c, n⟩ := i
  simp only at hop
  subst hop
  have d0 := cell_alloc c0 (.cells #[.int .i64 (k : Int), .int .i64 a, .int .i64 b, .int .i64 c, .int .i64 n] 35)
  have d1 := cell_alloc c1 (.cells #[.int .i64 (k : Int), .int .i64 a, .int .i64 b, .int .i64 c, .int .i64 n] 35)
  have d2 := cell_alloc c2 (.cells #[.int .i64 (k : Int), .int .i64 a, .int .i64 b, .int .i64 c, .int .i64 n] 35)
  have h0 : (k : Int) < 23 := by omega
  have hM : MayAt w ((w.alloc (.cells #[.int .i64 (k : Int), .int .i64 a, .int .i64 b, .int .i64 c, .int .i64 n] 35)).alloc (.cells #[str s.name, .int .i64 s.regs, .bool s.num] 58)) ⟨k, a, b, c, n⟩ s :=
    ⟨((Below.refl w.heap.size w).alloc (Nat.le_refl _) _).alloc (by simp) _, (Bx.new w _ _).alloc _, by simpa using Bx.new (w.alloc (.cells #[.int .i64 (k : Int), .int .i64 a, .int .i64 b, .int .i64 c, .int .i64 n] 35)) #[str s.name, .int .i64 s.regs, .bool s.num] 58⟩
  have HD := Lib.hid (hM.on (drew_below _))
  have HC := Lib.hid (hM.on (drew_below _)).cells
  have HK1 := Lib.hid (fun (w1 : World) (h : MayAt w w1 ⟨k, a, b, c, n⟩ s) => (registers_any ⟨k, a, b, c, n⟩ w1).mono (R' := fun e w' => e = .returned (regsV a b c) ∧ MayAt w w' ⟨k, a, b, c, n⟩ s ∧ _) (fun e w' h2 => ⟨h2.1, h.on h2.2, (h.on h2.2).cells⟩))
  have HK2 := Lib.hid (fun (w1 : World) (h : MayAt w w1 ⟨k, a, b, c, n⟩ s) => (takesRegs_any s hr a b c w1).mono (R' := fun e w' => e = .returned (.bool (regsOk s.regs a b c)) ∧ MayAt w w' ⟨k, a, b, c, n⟩ s ∧ _) (fun e w' h2 => ⟨h2.1, h.on h2.2, (h.on h2.2).cells⟩))
  have HK3 := Lib.hid (fun (w1 : World) (h : MayAt w w1 ⟨k, a, b, c, n⟩ s) => (takesNum_any s n w1).mono (R' := fun e w' => e = .returned (.bool (numOk s.num n)) ∧ MayAt w w' ⟨k, a, b, c, n⟩ s ∧ _) (fun e w' h2 => ⟨h2.1, h.on h2.2, (h.on h2.2).cells⟩))
  have HM := Lib.hid hm
  clear hm hr hs
  simp only at HM
  generalize hRR : (if mayB ⟨(k : Int), a, b, c, n⟩ = true then (0 : Int) else 40) = RR
  have HRR := Lib.hid hRR
  clear hRR
  cases hq1 : regsOk s.regs a b c
  · rw [hq1] at HK2 HM
    have HM := Lib.hid (show RR = 40 by rw [← HRR.out, HM.out]; rfl)
    clear HRR
    have HC2 := Lib.hid hM.cells
    clear HK3 HC hM
    go_enter Tryd.func16, Tryd.ntmps16
    go_wp2_with fail
    generalize (w.alloc (.cells #[.int .i64 (k : Int), .int .i64 a, .int .i64 b, .int .i64 c, .int .i64 n] 35)).alloc (.cells #[str s.name, .int .i64 s.regs, .bool s.num] 58) = w2 at *
    obtain ⟨q0, q1, q2, q3, q4, q5, q6, q7⟩ := HC2.out
    clear d0 d1 d2 c0 c1 c2 HC2
    first | (go_region_with (first
      | (go_at_call 32; refine (HK1.out _ HD.out).mono ?_; rintro e w9 ⟨rfl, ht9, p0, p1, p2, p3, p4, p5, p6, p7⟩; have HT9 := Lib.hid ht9; clear ht9)
      | (go_at_call 31; refine (HK2.out _ HT9.out).mono ?_; rintro e w10 ⟨rfl, ht10, r0, r1, r2, r3, r4, r5, r6, r7⟩; have HT10 := Lib.hid ht10; clear ht10))) | (fail)
    all_goals
      go_wp2
      go_ret
      exact ⟨by rw [HM.out]; rfl, HT10.out.1⟩
  · clear hM
    rw [hq1] at HK2 HM
    cases hq2 : numOk s.num n
    all_goals
      rw [hq2] at HM HK3
      have HM := Lib.hid (show RR = _ by rw [← HRR.out, HM.out])
      clear HRR
      go_enter Tryd.func16, Tryd.ntmps16
      go_wp2_with fail
      generalize (w.alloc (.cells #[.int .i64 (k : Int), .int .i64 a, .int .i64 b, .int .i64 c, .int .i64 n] 35)).alloc (.cells #[str s.name, .int .i64 s.regs, .bool s.num] 58) = w2 at *
      obtain ⟨q0, q1, q2, q3, q4, q5, q6, q7⟩ := HC.out
      clear d0 d1 d2 c0 c1 c2 HC
      go_region_held3 (fun w' => w'.cell? ⟨w.heap.size, 0, none⟩ = some (.int .i64 (k : Int)) ∧ w'.cell? ⟨w.heap.size, 1, none⟩ = some (.int .i64 a) ∧ w'.cell? ⟨w.heap.size, 2, none⟩ = some (.int .i64 b) ∧ w'.cell? ⟨w.heap.size, 3, none⟩ = some (.int .i64 c) ∧ w'.cell? ⟨w.heap.size, 4, none⟩ = some (.int .i64 n) ∧ w'.cell? ⟨w.heap.size + 1, 0, none⟩ = some (str s.name) ∧ w'.cell? ⟨w.heap.size + 1, 1, none⟩ = some (.int .i64 s.regs) ∧ w'.cell? ⟨w.heap.size + 1, 2, none⟩ = some (.bool s.num)) (first | (exact ⟨by assumption, by assumption, by assumption, by assumption, by assumption, by assumption, by assumption, by assumption⟩) | go_keep) (first
        | (go_at_call 32; with_reducible refine (HK1.out _ HD.out).mono ?_; rintro e w9 ⟨rfl, ht9, p0, p1, p2, p3, p4, p5, p6, p7⟩; have HT9 := Lib.hid ht9; clear ht9)
        | (go_at_call 31; with_reducible refine (HK2.out _ HT9.out).mono ?_; rintro e w10 ⟨rfl, ht10, r0, r1, r2, r3, r4, r5, r6, r7⟩; have HT10 := Lib.hid ht10; clear ht10)
        | (go_at_call 33; with_reducible refine (HK3.out _ HT10.out).mono ?_; rintro e w11 ⟨rfl, ht11, s0, s1, s2, s3, s4, s5, s6, s7⟩; have HT11 := Lib.hid ht11; clear ht11))
    all_goals
      go_wp2
      go_ret
      exact ⟨by rw [HM.out]; rfl, HT11.out.1⟩
end Go.Proofs.YtoebboimdkogpaaDoor
