/-
  Returns and jumps of the machine.
  Jumps of the machine.
-/
import Derived.Test.YtfkhfjefddgkoaaDoorZD
namespace Go.Proofs.YtfkhfjefddgkoaaDoor
open Go.RowKit

set_option maxHeartbeats 4000000 in
theorem ret_any {w : World} {B g s : Nat} {F : Nat → Prop} {c : Cx} {ss : List Seg} (h : Lies w B s F ss) (hm : Mc w g c s) (hg : ¬ F g) (h15 : I64 (c.reg 15)) :
    Calls Tryd.prog 97 #[.pointer (some ⟨g, 0, none⟩)] w fun en w' => en = .returned (.int .i64 (retM ss c).1) ∧ Ran w w' B g s F (retM ss c).2 ss := by
  have hR0 := Ran.refl h hm hg
  have HR0 := Lib.hid hR0
  have HCM := Lib.hid (show retM ss c = (goesS ss (c.reg 15) 8 1, (c.put 15 (w64 (c.reg 15 + 8))).to (wordS ss (c.reg 15) 1)) from rfl)
  generalize retM ss c = cm at *
  have HWD := Lib.hid (show ∀ X, Below w.heap.size w X → Calls Tryd.prog 98 #[.pointer (some ⟨s, 0, none⟩), .int .i64 (c.reg 15)] X fun e w' => e = .returned (.tuple #[.int .i64 (wordS ss (c.reg 15) 1), .int .i64 (goesS ss (c.reg 15) 8 1)]) ∧ Below w.heap.size w w' from
    fun X hX => (Word_s h15 (h.below hX)).mono fun _ _ hh => ⟨hh.1, hX.trans (hh.2.mono hX.size)⟩)
  have HKE := Lib.hid (show ∀ X, Below w.heap.size w X → (X.cell? ⟨g, 17, none⟩ = some (.int .i64 (c.reg 15)) ∧ X.cell? ⟨g, 18, none⟩ = some (.pointer (some ⟨s, 0, none⟩))) from
    fun X hX => ⟨(hm.below hX).at_ 15 (by omega), (hm.below hX).space⟩)
  obtain ⟨q1, q2⟩ := HKE.out _ (Below.refl _ _)
  generalize wordS ss (c.reg 15) 1 = nx at *
  generalize goesS ss (c.reg 15) 8 1 = er at *
  clear h hm hg h15 hR0
  go_enter Tryd.func97, Tryd.ntmps97
  go_wp2_with fail
  go_region_held3 (fun X => X.cell? ⟨g, 17, none⟩ = some (.int .i64 (c.reg 15)) ∧ X.cell? ⟨g, 18, none⟩ = some (.pointer (some ⟨s, 0, none⟩))) (first | (exact ⟨by assumption, by assumption⟩) | go_keep) (first
    | (go_at_call 98; (with_reducible refine (HWD.out _ (by first | assumption | exact below_draw6 (by assumption) | exact Below.refl _ _ | exact drew_below _)).mono ?_); rintro e w2 ⟨rfl, hr⟩; obtain ⟨p1, p2⟩ := HKE.out _ hr; have HR2 := Lib.hid (HR0.out.quiet hr); clear hr))
  all_goals
    have f17 := HR2.out.mach.fro 17
    have f17d := HR2.out.mach.draw.fro 17
    have p1d := HR2.out.mach.draw.at_ 15 (by omega)
    simp only [Nat.reduceAdd] at p1d
    have hr3 := (HR2.out.set 15 (by omega) (w64 (c.reg 15 + 8))).quiet (drew_below _)
    go_wp2_with fail
    go_region
    generalize (w2.setCell ⟨g, 17, none⟩ (.int .i64 (w64 (c.reg 15 + 8)))).drew = w3 at *
    have f0 := hr3.mach.fro 0
    have p0 := hr3.mach.pc
    have hr4 := hr3.jump nx
    go_wp2_with fail
    go_ret
    exact ⟨by rw [HCM.out]; rfl, by rw [HCM.out]; exact hr4⟩
end Go.Proofs.YtfkhfjefddgkoaaDoor

namespace Go.Proofs.YtfkhfjefddgkoaaDoor
open Go.RowKit

set_option maxHeartbeats 8000000 in
theorem jump_any {w : World} {B g s : Nat} {F : Nat → Prop} {c : Cx} {ss : List Seg} (op n : Int) (a b k : Nat) (h : Lies w B s F ss) (hm : Mc w g c s) (hg : ¬ F g) (h15 : I64 (c.reg 15)) (ha : a < 16) (hj : isJump op = true) :
    Calls Tryd.prog 86 #[.pointer (some ⟨g, 0, none⟩), .agg (insA op a b k n)] w fun en w' => en = .returned (.int .i64 (jumpM ss c ⟨op, a, b, k, n⟩).1) ∧ Ran w w' B g s F (jumpM ss c ⟨op, a, b, k, n⟩).2.1 (jumpM ss c ⟨op, a, b, k, n⟩).2.2 := by
  have HI := Lib.hid (In6.new (op := op) (a := a) (b := b) (k := k) (n := n) h hm)
  have hgw := hm.lt
  generalize hw1 : w.alloc (.cells (insA op a b k n) 51) = w1 at *
  have ha0 : (0 : Int) ≤ (a : Int) := by omega
  have ha1 : (a : Int) < 16 := by omega
  have HRA := Lib.hid (fun (X : World) (hx : Mc X g c s) => hx.at_ a ha)
  have HR1 := Lib.hid (Ran.refl HI.out.lies HI.out.mach hg)
  have HP := Lib.hid (fun (X : World) (c2 : Cx) (s2 : List Seg) (hx : Ran w1 X B g s F c2 s2) => Ran.pre HI.out.below hx)
  have HCX := Lib.hid (fun to => show ∀ X, Ran w1 X B g s F c ss → Calls Tryd.prog 96 #[.pointer (some ⟨g, 0, none⟩), .int .i64 (w64 to)] X fun en w' => en = .returned (.int .i64 (callM ss c (w64 to)).1) ∧ Ran w1 w' B g s F (callM ss c (w64 to)).2.1 (callM ss c (w64 to)).2.2 from
    fun X hX => by
      obtain ⟨F1, l1, m1, n1, b1, k1⟩ := hX
      exact (call_any (w64 to) l1 m1 n1).mono fun _ _ hh => ⟨hh.1, Ran.join b1 k1 hh.2⟩)
  have HRT := Lib.hid (show ∀ X, Ran w1 X B g s F c ss → Calls Tryd.prog 97 #[.pointer (some ⟨g, 0, none⟩)] X fun en w' => en = .returned (.int .i64 (retM ss c).1) ∧ Ran w1 w' B g s F (retM ss c).2 ss from
    fun X hX => by
      obtain ⟨F1, l1, m1, n1, b1, k1⟩ := hX
      exact (ret_any l1 m1 n1 h15).mono fun _ _ hh => ⟨hh.1, Ran.join b1 k1 hh.2⟩)
  have HCA := Lib.hid (show ∀ X, Ran w1 X B g s F c ss → Calls Tryd.prog 96 #[.pointer (some ⟨g, 0, none⟩), .int .i64 (c.reg (a : Int))] X fun en w' => en = .returned (.int .i64 (callM ss c (c.reg (a : Int))).1) ∧ Ran w1 w' B g s F (callM ss c (c.reg (a : Int))).2.1 (callM ss c (c.reg (a : Int))).2.2 from
    fun X hX => by
      obtain ⟨F1, l1, m1, n1, b1, k1⟩ := hX
      exact (call_any (c.reg (a : Int)) l1 m1 n1).mono fun _ _ hh => ⟨hh.1, Ran.join b1 k1 hh.2⟩)
  clear h15
  obtain ⟨c0, c1, c2, c3, c4⟩ := HI.out.cells
  have p0 := HI.out.mach.pc
  have pa := HRA.out _ HI.out.mach
  clear h hm
  have HAF := Lib.hid (show ∀ X, Below w1.heap.size w1 X → (X.cell? ⟨w.heap.size, 0, none⟩ = some (.int .i64 op) ∧ X.cell? ⟨w.heap.size, 1, none⟩ = some (.int .i64 (a : Int)) ∧ X.cell? ⟨w.heap.size, 4, none⟩ = some (.int .i64 n) ∧ X.cell? ⟨g, 0, none⟩ = some (.int .i64 c.pc) ∧ X.frozen? ⟨g, 0, none⟩ = false ∧ Ran w1 X B g s F c ss) from
    fun X hX => ⟨(HI.out.on hX).cells.1, (HI.out.on hX).cells.2.1, (HI.out.on hX).cells.2.2.2.2, (HI.out.on hX).mach.pc, (HI.out.on hX).mach.fro 0, HR1.out.quiet hX⟩)
  by_cases h13 : op = 13
  · subst h13
    clear hj
    go_enter Tryd.func86, Tryd.ntmps86
    go_wp2_with fail
    go_quiet (fail)
    obtain ⟨q0, q1, q4, qp, qf, hr⟩ := HAF.out _ (below_drewN (Below.refl _ _) nq)
    generalize w1.drewN nq = w2 at *
    have HRJ := Lib.hid (HP.out _ _ _ (hr.jump (w64 (c.pc + n))))
    clear c0 c1 c2 c3 c4 p0 pa hr
    go_wp2_with fail
    go_ret
    exact ⟨rfl, HRJ.out⟩
  by_cases h17 : op = 17
  · subst h17
    clear hj
    go_enter Tryd.func86, Tryd.ntmps86
    go_wp2_with fail
    go_quiet (fail)
    obtain ⟨q0, q1, q4, qp, qf, hr⟩ := HAF.out _ (below_drewN (Below.refl _ _) nq)
    generalize w1.drewN nq = w2 at *
    have HRJ := Lib.hid (HP.out _ _ _ (hr.jump (c.reg (a : Int))))
    clear c0 c1 c2 c3 c4 p0 pa hr
    go_wp2_with fail
    go_ret
    exact ⟨rfl, HRJ.out⟩
  by_cases h14 : op = 14
  · subst h14
    clear hj
    by_cases hz : c.reg (a : Int) = 0
    · rw [hz] at pa
      have HM := Lib.hid (show jumpM ss c ⟨14, a, b, k, n⟩ = (0, c.to (w64 (c.pc + n)), ss) by simp [jumpM, hz])
      go_enter Tryd.func86, Tryd.ntmps86
      go_wp2_with fail
      go_quiet (fail)
      obtain ⟨q0, q1, q4, qp, qf, hr⟩ := HAF.out _ (below_drewN (Below.refl _ _) nq)
      generalize w1.drewN nq = w2 at *
      have HRJ := Lib.hid (HP.out _ _ _ (hr.jump (w64 (c.pc + n))))
      clear c0 c1 c2 c3 c4 p0 pa hr
      go_wp2_with fail
      go_ret
      rw [HM.out]
      exact ⟨rfl, HRJ.out⟩
    · have HM := Lib.hid (show jumpM ss c ⟨14, a, b, k, n⟩ = (0, c, ss) by simp [jumpM, hz])
      have hz2 : (c.reg (a : Int) == 0) = false := by simpa using hz
      clear hz
      go_enter Tryd.func86, Tryd.ntmps86
      go_wp2_with fail
      go_quiet (fail)
      obtain ⟨q0, q1, q4, qp, qf, hr⟩ := HAF.out _ (below_drewN (Below.refl _ _) nq)
      generalize w1.drewN nq = w2 at *
      have HRJ := Lib.hid (HP.out _ _ _ hr)
      clear c0 c1 c2 c3 c4 p0 pa hr
      go_wp2_with fail
      go_ret
      rw [HM.out]
      exact ⟨rfl, HRJ.out⟩
  by_cases h15 : op = 15
  · subst h15
    have HM := Lib.hid (show jumpM ss c ⟨15, a, b, k, n⟩ = callM ss c (w64 (c.pc + n)) by simp [jumpM])
    clear hj
    go_enter Tryd.func86, Tryd.ntmps86
    go_wp2_with fail
    go_quiet (fail)
    obtain ⟨q0, q1, q4, qp, qf, hr⟩ := HAF.out _ (below_drewN (Below.refl _ _) nq)
    generalize w1.drewN nq = w2 at *
    have HCC := Lib.hid (HCX.out (c.pc + n) _ hr)
    clear c0 c1 c2 c3 c4 p0 pa hr
    go_wp2_with fail
    refine (HCC.out).mono ?_
    rintro e w3 ⟨rfl, hr3⟩
    have HR3 := Lib.hid (HP.out _ _ _ hr3)
    clear hr3
    go_wp2_with fail
    go_ret
    rw [HM.out]
    exact ⟨rfl, HR3.out⟩
  by_cases h16 : op = 16
  · subst h16
    have HM := Lib.hid (show jumpM ss c ⟨16, a, b, k, n⟩ = callM ss c (c.reg (a : Int)) by simp [jumpM])
    clear hj
    go_enter Tryd.func86, Tryd.ntmps86
    go_wp2_with fail
    go_quiet (fail)
    obtain ⟨q0, q1, q4, qp, qf, hr⟩ := HAF.out _ (below_drewN (Below.refl _ _) nq)
    generalize w1.drewN nq = w2 at *
    have HCC := Lib.hid (HCA.out _ hr)
    clear c0 c1 c2 c3 c4 p0 pa hr
    go_wp2_with fail
    refine (HCC.out).mono ?_
    rintro e w3 ⟨rfl, hr3⟩
    have HR3 := Lib.hid (HP.out _ _ _ hr3)
    clear hr3
    go_wp2_with fail
    go_ret
    rw [HM.out]
    exact ⟨rfl, HR3.out⟩
  have h18 : op = 18 := by
    simp [isJump, h13, h14, h15, h16, h17] at hj
    exact hj
  subst h18
  have HM := Lib.hid (show jumpM ss c ⟨18, a, b, k, n⟩ = ((retM ss c).1, (retM ss c).2, ss) by simp [jumpM])
  clear hj
  go_enter Tryd.func86, Tryd.ntmps86
  go_wp2_with fail
  go_quiet (fail)
  obtain ⟨q0, q1, q4, qp, qf, hr⟩ := HAF.out _ (below_drewN (Below.refl _ _) nq)
  generalize w1.drewN nq = w2 at *
  have HCC := Lib.hid (HRT.out _ hr)
  clear c0 c1 c2 c3 c4 p0 pa hr
  go_wp2_with fail
  refine (HCC.out).mono ?_
  rintro e w3 ⟨rfl, hr3⟩
  have HR3 := Lib.hid (HP.out _ _ _ hr3)
  clear hr3
  go_wp2_with fail
  go_ret
  rw [HM.out]
  exact ⟨rfl, HR3.out⟩
end Go.Proofs.YtfkhfjefddgkoaaDoor
