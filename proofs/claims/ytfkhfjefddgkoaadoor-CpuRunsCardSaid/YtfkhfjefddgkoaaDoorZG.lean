/-
  An instruction is executed.
-/
import Derived.Test.YtfkhfjefddgkoaaDoorZF
import Derived.Deep.Cut
import Derived.Laws.ResultCell
namespace Go.Proofs.YtfkhfjefddgkoaaDoor
open Go.RowKit

/-- As Ran, with boxes of one's own that are older than what the space took. -/
def Rn (w w2 w' : World) (B g s : Nat) (F : Nat → Prop) (c : Cx) (ss : List Seg) : Prop :=
  ∃ F', Lies w' B s F' ss ∧ Mc w' g c s ∧ ¬ F' g ∧ Beside w w' (fun k => F k ∨ k = g) ∧ ∀ k, F' k → F k ∨ w2.heap.size ≤ k
section
variable {w w2 w' : World} {B g s : Nat} {F : Nat → Prop} {c : Cx} {ss : List Seg}
theorem Rn.of (hb : Below w.heap.size w w2) (h : Ran w2 w' B g s F c ss) : Rn w w2 w' B g s F c ss := by
  obtain ⟨F2, l2, m2, n2, b2, k2⟩ := h
  exact ⟨F2, l2, m2, n2, ⟨b2.os.trans hb.os, b2.tape.trans hb.tape, b2.output.trans hb.output, Nat.le_trans hb.size b2.size, fun k hk hp => (b2.block k (Nat.lt_of_lt_of_le hk hb.size) hp).trans (hb.block k hk)⟩, k2⟩
theorem Rn.ran (hb : Below w.heap.size w w2) (h : Rn w w2 w' B g s F c ss) : Ran w w' B g s F c ss := by
  obtain ⟨F2, l2, m2, n2, b2, k2⟩ := h
  exact ⟨F2, l2, m2, n2, b2, fun k hk => (k2 k hk).imp id fun h => Nat.le_trans hb.size h⟩
theorem Rn.box {b : Nat} (h : Rn w w2 w' B g s F c ss) (i : Nat) (v : Value) (h2 : b < w2.heap.size) (h0 : w.heap.size ≤ b) (hF : ¬ F b) (hg : b ≠ g) : Rn w w2 (w'.setCell ⟨b, i, none⟩ v) B g s F c ss := by
  obtain ⟨F2, l2, m2, n2, b2, k2⟩ := h
  have hn : ¬ F2 b := fun hf => (k2 b hf).elim hF fun h => by omega
  refine ⟨F2, l2.beside (beside_cell w' b i v) (fun _ hk e => hn (e ▸ hk)), m2.beside (beside_cell w' b i v) (fun e => hg e.symm), n2, ⟨b2.os, b2.tape, b2.output, Nat.le_trans b2.size (beside_cell w' b i v).size, fun k hk hp => ((beside_cell w' b i v).block k (Nat.lt_of_lt_of_le hk b2.size) fun e => ?_).trans (b2.block k hk hp)⟩, k2⟩
  omega
theorem Rn.quiet {w3 : World} (h : Rn w w2 w' B g s F c ss) (hb : Below w'.heap.size w' w3) : Rn w w2 w3 B g s F c ss := by
  obtain ⟨F2, l2, m2, n2, b2, k2⟩ := h
  exact ⟨F2, l2.below hb, m2.below hb, n2, ⟨hb.os.trans b2.os, hb.tape.trans b2.tape, hb.output.trans b2.output, Nat.le_trans b2.size hb.size, fun k hk hp => (hb.block k (Nat.lt_of_lt_of_le hk b2.size)).trans (b2.block k hk hp)⟩, k2⟩
theorem Ran.keep {b : Nat} (h : Ran w2 w' B g s F c ss) (h2 : b < w2.heap.size) (hF : ¬ F b) (hg : b ≠ g) : w'.heap[b]? = w2.heap[b]? := by
  obtain ⟨F2, l2, m2, n2, b2, k2⟩ := h
  exact b2.block b h2 fun e => e.elim hF hg
end

set_option maxHeartbeats 8000000 in
theorem execute_any {w : World} {B g s : Nat} {F : Nat → Prop} {c : Cx} {ss : List Seg} (op n : Int) (a b k : Nat) (h : Lies w B s F ss) (hm : Mc w g c s) (hg : ¬ F g) (h15 : I64 (c.reg 15)) (ha : a < 16) (hb : b < 16) (hk : k < 16) :
    Calls Tryd.prog 66 #[.pointer (some ⟨g, 0, none⟩), .agg (insA op a b k n)] w fun en w' => en = .returned (.tuple #[.agg (evA (execM ss c ⟨op, a, b, k, n⟩).1), .int .i64 (execM ss c ⟨op, a, b, k, n⟩).2.1]) ∧ Ran w w' B g s F (execM ss c ⟨op, a, b, k, n⟩).2.2.1 (execM ss c ⟨op, a, b, k, n⟩).2.2.2 := by
  have HI := Lib.hid (In6.new (op := op) (a := a) (b := b) (k := k) (n := n) h hm)
  have hgw := hm.lt
  generalize hw1 : w.alloc (.cells (insA op a b k n) 51) = w1 at *
  have ha0 : (0 : Int) ≤ (a : Int) := by omega
  have ha1 : (a : Int) < 16 := by omega
  have hb0 : (0 : Int) ≤ (b : Int) := by omega
  have hb1 : (b : Int) < 16 := by omega
  have HR1 := Lib.hid (Ran.refl HI.out.lies HI.out.mach hg)
  have HP := Lib.hid (fun (X : World) (c2 : Cx) (s2 : List Seg) (hx : Ran w1 X B g s F c2 s2) => Ran.pre HI.out.below hx)
  go_enter Tryd.func66, Tryd.ntmps66
  go_upto_region 2 with (fail)
  have hb2 : Below w1.heap.size w1 ((w1.alloc (.cells #[.int .i64 0, .int .i64 0, .int .i64 0, .int .i64 0, .int .i64 0] 37)).alloc (.cells #[.int .i64 0, .int .i64 0, .int .i64 0, .int .i64 0, .int .i64 0] 37)) := ((Below.refl _ _).alloc (Nat.le_refl _) _).alloc (by simp) _
  have hx4 : Bx ((w1.alloc (.cells #[.int .i64 0, .int .i64 0, .int .i64 0, .int .i64 0, .int .i64 0] 37)).alloc (.cells #[.int .i64 0, .int .i64 0, .int .i64 0, .int .i64 0, .int .i64 0] 37)) w1.heap.size #[.int .i64 0, .int .i64 0, .int .i64 0, .int .i64 0, .int .i64 0] 37 := (Bx.new w1 _ _).alloc _
  have hx6 : Bx ((w1.alloc (.cells #[.int .i64 0, .int .i64 0, .int .i64 0, .int .i64 0, .int .i64 0] 37)).alloc (.cells #[.int .i64 0, .int .i64 0, .int .i64 0, .int .i64 0, .int .i64 0] 37)) (w1.heap.size + 1) #[.int .i64 0, .int .i64 0, .int .i64 0, .int .i64 0, .int .i64 0] 37 := by
    have := Bx.new (w1.alloc (.cells #[.int .i64 0, .int .i64 0, .int .i64 0, .int .i64 0, .int .i64 0] 37)) #[.int .i64 0, .int .i64 0, .int .i64 0, .int .i64 0, .int .i64 0] 37
    simpa using this
  generalize (w1.alloc (.cells #[.int .i64 0, .int .i64 0, .int .i64 0, .int .i64 0, .int .i64 0] 37)).alloc (.cells #[.int .i64 0, .int .i64 0, .int .i64 0, .int .i64 0, .int .i64 0] 37) = w2 at *
  have hF4 : ¬ F w1.heap.size := fun hf => Nat.lt_irrefl _ (HI.out.lies.lt hf).2
  have hF6 : ¬ F (w1.heap.size + 1) := fun hf => Nat.lt_irrefl _ (Nat.lt_trans (Nat.lt_succ_self _) (HI.out.lies.lt hf).2)
  have hg4 : w1.heap.size ≠ g := Nat.ne_of_gt HI.out.mach.lt
  have hg6 : w1.heap.size + 1 ≠ g := Nat.ne_of_gt (Nat.lt_succ_of_lt HI.out.mach.lt)
  have hne : w1.heap.size ≠ w1.heap.size + 1 := by omega
  have hd := HI.out.on hb2
  have hbi : ¬ F w.heap.size := fun hf => Nat.lt_irrefl _ (h.lt hf).2
  have hig : w.heap.size ≠ g := Nat.ne_of_gt hm.lt
  have hi4 : w.heap.size ≠ w1.heap.size := Nat.ne_of_lt HI.out.box.lt
  have hi6 : w.heap.size ≠ w1.heap.size + 1 := Nat.ne_of_lt (Nat.lt_succ_of_lt HI.out.box.lt)
  have h04 : w.heap.size ≤ w1.heap.size := HI.out.below.size
  have h06 : w.heap.size ≤ w1.heap.size + 1 := Nat.le_succ_of_le HI.out.below.size
  generalize w1.heap.size = b4 at *
  generalize b4 + 1 = b6 at *
  have hz4 : b4 < w2.heap.size := hx4.lt
  have hz6 : b6 < w2.heap.size := hx6.lt
  have HB4 := Lib.hid (fun (X : World) (i : Nat) (v : Value) (c2 : Cx) (s2 : List Seg) (hx : Rn w w2 X B g s F c2 s2) => hx.box i v hz4 h04 hF4 hg4)
  have HB6 := Lib.hid (fun (X : World) (i : Nat) (v : Value) (c2 : Cx) (s2 : List Seg) (hx : Rn w w2 X B g s F c2 s2) => hx.box i v hz6 h06 hF6 hg6)
  have HEN := Lib.hid (fun (X : World) (c2 : Cx) (s2 : List Seg) (hx : Rn w w2 X B g s F c2 s2) => Rn.ran hd.below hx)
  have HOF := Lib.hid (fun (X : World) (c2 : Cx) (s2 : List Seg) (hx : Ran w2 X B g s F c2 s2) => Rn.of hd.below hx)
  have HDR := Lib.hid (fun (X : World) (c2 : Cx) (s2 : List Seg) (hx : Rn w w2 X B g s F c2 s2) => Rn.quiet hx (drew_below X))
  have HR2 := Lib.hid (Ran.refl hd.lies hd.mach hg)
  have HKB := Lib.hid (show ∀ X c2 s2, Ran w2 X B g s F c2 s2 → (Bx X b4 #[.int .i64 0, .int .i64 0, .int .i64 0, .int .i64 0, .int .i64 0] 37 ∧ Bx X b6 #[.int .i64 0, .int .i64 0, .int .i64 0, .int .i64 0, .int .i64 0] 37 ∧ Bx X w.heap.size (insA op a b k n) 51) from
    fun X c2 s2 hX => ⟨(hX.keep hz4 hF4 hg4).trans hx4, (hX.keep hz6 hF6 hg6).trans hx6, (hX.keep hd.box.lt hbi hig).trans hd.box⟩)
  have HKE := Lib.hid (show ∀ X s2, Ran w2 X B g s F c s2 → (X.cell? ⟨w.heap.size, 1, none⟩ = some (.int .i64 (a : Int)) ∧ X.cell? ⟨w.heap.size, 2, none⟩ = some (.int .i64 (b : Int)) ∧ X.cell? ⟨w.heap.size, 4, none⟩ = some (.int .i64 n) ∧ X.cell? ⟨g, 2 + a, none⟩ = some (.int .i64 (c.reg (a : Int))) ∧ X.cell? ⟨g, 2 + b, none⟩ = some (.int .i64 (c.reg (b : Int))) ∧ X.cell? ⟨g, 18, none⟩ = some (.pointer (some ⟨s, 0, none⟩))) from
    fun X s2 hX => ⟨(HKB.out _ _ _ hX).2.2.c 1, (HKB.out _ _ _ hX).2.2.c 2, (HKB.out _ _ _ hX).2.2.c 4, hX.mach.at_ a ha, hX.mach.at_ b hb, hX.mach.space⟩)
  have HSW := Lib.hid (fun (i v : Int) => show ∀ X, Below w2.heap.size w2 X → Calls Tryd.prog 59 #[.pointer (some ⟨s, 0, none⟩), .int .i64 (IntKind.i64.wrap i), .int .i64 v] X fun en w' => en = .returned (.int .i64 (storeS ss (w64 i) (digs v 8) 2).1) ∧ Ran w2 w' B g s F c (storeS ss (w64 i) (digs v 8) 2).2 from
    fun X hX => by rw [w64_kind]; exact (SetWord_s v (w64_i64 i) (hd.lies.below hX)).mono fun _ _ hh => ⟨hh.1, Ran.pre hX (Ran.went (hd.mach.below hX) hg hh.2)⟩)
  have HJU := Lib.hid (show isJump op = true → ∀ X, Below w2.heap.size w2 X → Calls Tryd.prog 86 #[.pointer (some ⟨g, 0, none⟩), .agg (insA op a b k n)] X fun en w' => en = .returned (.int .i64 (jumpM ss c ⟨op, a, b, k, n⟩).1) ∧ Ran w2 w' B g s F (jumpM ss c ⟨op, a, b, k, n⟩).2.1 (jumpM ss c ⟨op, a, b, k, n⟩).2.2 from
    fun hj X hX => (jump_any op n a b k (hd.lies.below hX) (hd.mach.below hX) hg h15 ha hj).mono fun _ _ hh => ⟨hh.1, Ran.pre hX hh.2⟩)
  have HVA := Lib.hid (show ∀ X, Below w2.heap.size w2 X → Calls Tryd.prog 87 #[.pointer (some ⟨g, 0, none⟩), .agg (insA op a b k n)] X fun en w' => en = .returned (.tuple #[.int .i64 (valueM ss c ⟨op, a, b, k, n⟩).1, .int .i64 (valueM ss c ⟨op, a, b, k, n⟩).2]) ∧ Below w2.heap.size w2 w' from
    fun X hX => (value_any op n a b k (hd.lies.below hX) (hd.mach.below hX) hb hk).mono fun _ _ hh => ⟨hh.1, hX.trans (hh.2.mono hX.size)⟩)
  clear HP HR1 HI hw1 hb2
  obtain ⟨c0, c1, c2, c3, c4⟩ := hd.cells
  have pa := hd.mach.at_ a ha
  have pb := hd.mach.at_ b hb
  have ps := hd.mach.space
  have e0 := hx4.c 0
  have e1 := hx4.c 1
  have e2 := hx4.c 2
  have e3 := hx4.c 3
  have e4 := hx4.c 4
  have d0 := hx6.c 0
  have d1 := hx6.c 1
  have d2 := hx6.c 2
  have d3 := hx6.c 3
  have d4 := hx6.c 4
  have u0 := hx4.f 0
  have u1 := hx4.f 1
  have u2 := hx4.f 2
  have u3 := hx4.f 3
  have u4 := hx4.f 4
  have v0 := hx6.f 0
  have v1 := hx6.f 1
  have v2 := hx6.f 2
  have v3 := hx6.f 3
  have v4 := hx6.f 4
  simp only [List.getElem?_toArray, List.getElem?_cons_succ, List.getElem?_cons_zero] at e0 e1 e2 e3 e4 d0 d1 d2 d3 d4
  by_cases h21 : op = 21
  · subst h21
    have HM := Lib.hid (show execM ss c ⟨21, a, b, k, n⟩ = (⟨3, 0, a, b, 0⟩, 0, c, ss) by simp [execM])
    go_wp2_with fail
    go_wp2_with fail
    (try simp only [Exit.inBlock, Exit.then])
    rw [HM.out]
    refine bodyPost_ret (v := .tuple #[.agg (evA ⟨3, 0, a, b, 0⟩), .int .i64 0]) ?_ rfl ⟨rfl, ?_⟩
    · rw [results_cell_tmp rfl]
      go_simp
    · (with_reducible refine HEN.out _ _ _ ?_)
      repeat (first | (with_reducible refine HB4.out _ _ _ _ _ ?_) | (with_reducible refine HB6.out _ _ _ _ _ ?_))
      with_reducible exact HOF.out _ _ _ HR2.out
  by_cases h22 : op = 22
  · subst h22
    have HM := Lib.hid (show execM ss c ⟨22, a, b, k, n⟩ = (⟨4, n, 0, 0, 0⟩, 0, c, ss) by simp [execM])
    go_wp2_with fail
    go_wp2_with fail
    (try simp only [Exit.inBlock, Exit.then])
    rw [HM.out]
    refine bodyPost_ret (v := .tuple #[.agg (evA ⟨4, n, 0, 0, 0⟩), .int .i64 0]) ?_ rfl ⟨rfl, ?_⟩
    · rw [results_cell_tmp rfl]
      go_simp
    · (with_reducible refine HEN.out _ _ _ ?_)
      repeat (first | (with_reducible refine HB4.out _ _ _ _ _ ?_) | (with_reducible refine HB6.out _ _ _ _ _ ?_))
      with_reducible exact HOF.out _ _ _ HR2.out
  by_cases h19 : op = 19
  · subst h19
    have HM := Lib.hid (show execM ss c ⟨19, a, b, k, n⟩ = (⟨2, c.reg a, 0, 0, 0⟩, 0, c, ss) by simp [execM])
    go_wp2_with fail
    go_region
    go_wp2_with fail
    (try simp only [Exit.inBlock, Exit.then])
    rw [HM.out]
    refine bodyPost_ret (v := .tuple #[.agg (evA ⟨2, c.reg a, 0, 0, 0⟩), .int .i64 0]) ?_ rfl ⟨rfl, ?_⟩
    · rw [results_cell_tmp rfl]
      go_simp
    · (with_reducible refine HEN.out _ _ _ ?_)
      repeat (first | (with_reducible refine HB4.out _ _ _ _ _ ?_) | (with_reducible refine HB6.out _ _ _ _ _ ?_) | (with_reducible refine HDR.out _ _ _ ?_))
      with_reducible exact HOF.out _ _ _ HR2.out
  by_cases h10 : op = 10
  · subst h10
    have HM := Lib.hid (show execM ss c ⟨10, a, b, k, n⟩ = (⟨0, 0, 0, 0, 0⟩, (storeS ss (w64 (c.reg b + n)) (digs (c.reg a) 8) 2).1, c, (storeS ss (w64 (c.reg b + n)) (digs (c.reg a) 8) 2).2) by simp [execM])
    clear c1 c2 c3 c4 pa pb ps e0 e1 e2 e3 e4 d0 d1 d2 d3 d4 u0 u1 u2 u3 u4 v0 v1 v2 v3 v4
    obtain ⟨q1, q2, q3, q4, q5, q6⟩ := HKE.out _ _ HR2.out
    go_wp2_with fail
    go_region_held3 (fun X => X.cell? ⟨w.heap.size, 1, none⟩ = some (.int .i64 (a : Int)) ∧ X.cell? ⟨w.heap.size, 2, none⟩ = some (.int .i64 (b : Int)) ∧ X.cell? ⟨w.heap.size, 4, none⟩ = some (.int .i64 n) ∧ X.cell? ⟨g, 2 + a, none⟩ = some (.int .i64 (c.reg (a : Int))) ∧ X.cell? ⟨g, 2 + b, none⟩ = some (.int .i64 (c.reg (b : Int))) ∧ X.cell? ⟨g, 18, none⟩ = some (.pointer (some ⟨s, 0, none⟩))) (first | (exact ⟨by assumption, by assumption, by assumption, by assumption, by assumption, by assumption⟩) | go_keep) (first
      | (go_at_call 59; (with_reducible refine (HSW.out _ _ _ (by first | assumption | exact below_draw6 (by assumption) | exact Below.refl _ _ | exact drew_below _)).mono ?_); rintro e w3 ⟨rfl, hr⟩; obtain ⟨q1, q2, q3, q4, q5, q6⟩ := HKE.out _ _ hr; have HR3 := Lib.hid hr; clear hr))
    all_goals
      obtain ⟨y4, y6, _⟩ := HKB.out _ _ _ HR3.out
      have d0 := y6.c 0
      have d1 := y6.c 1
      have d2 := y6.c 2
      have d3 := y6.c 3
      have d4 := y6.c 4
      have e0 := y4.c 0
      have e1 := y4.c 1
      have e2 := y4.c 2
      have e3 := y4.c 3
      have e4 := y4.c 4
      have u0 := y4.f 0
      have u1 := y4.f 1
      have u2 := y4.f 2
      have u3 := y4.f 3
      have u4 := y4.f 4
      simp only [List.getElem?_toArray, List.getElem?_cons_succ, List.getElem?_cons_zero] at e0 e1 e2 e3 e4 d0 d1 d2 d3 d4
      clear y4 y6
      go_wp2_with fail
      (try simp only [Exit.inBlock, Exit.then])
      rw [HM.out]
      refine bodyPost_ret (v := .tuple #[.agg (evA ⟨0, 0, 0, 0, 0⟩), .int .i64 (storeS ss (w64 (c.reg b + n)) (digs (c.reg a) 8) 2).1]) ?_ rfl ⟨rfl, ?_⟩
      · rw [results_cell_tmp rfl]
        go_simp
      · (with_reducible refine HEN.out _ _ _ ?_)
        repeat (first | (with_reducible refine HB4.out _ _ _ _ _ ?_) | (with_reducible refine HB6.out _ _ _ _ _ ?_) | (with_reducible refine HDR.out _ _ _ ?_))
        with_reducible exact HOF.out _ _ _ HR3.out
  by_cases hj : isJump op = true
  · have HM := Lib.hid (show execM ss c ⟨op, a, b, k, n⟩ = (⟨0, 0, 0, 0, 0⟩, (jumpM ss c ⟨op, a, b, k, n⟩).1, (jumpM ss c ⟨op, a, b, k, n⟩).2.1, (jumpM ss c ⟨op, a, b, k, n⟩).2.2) by simp [execM, h10, h19, h21, h22, hj])
    have HJV := Lib.hid (HJU.out hj)
    have h6 : op = 13 ∨ op = 14 ∨ op = 15 ∨ op = 16 ∨ op = 17 ∨ op = 18 := by simpa [isJump, or_assoc] using hj
    generalize jumpM ss c ⟨op, a, b, k, n⟩ = jm at *
    clear HJU HVA HSW HKE hj h10 h19 h21 h22 pa pb ps e0 e1 e2 e3 e4 d0 d1 d2 d3 d4 u0 u1 u2 u3 u4 v0 v1 v2 v3 v4
    rcases h6 with rfl | rfl | rfl | rfl | rfl | rfl
    all_goals
      go_wp2_with fail
      refine (HJV.out _ (Below.refl _ _)).mono ?_
      rintro e w3 ⟨rfl, hr⟩
      have HR3 := Lib.hid hr
      clear hr c0 c1 c2 c3 c4
      obtain ⟨y4, y6, _⟩ := HKB.out _ _ _ HR3.out
      have d0 := y6.c 0
      have d1 := y6.c 1
      have d2 := y6.c 2
      have d3 := y6.c 3
      have d4 := y6.c 4
      have e0 := y4.c 0
      have e1 := y4.c 1
      have e2 := y4.c 2
      have e3 := y4.c 3
      have e4 := y4.c 4
      have u0 := y4.f 0
      have u1 := y4.f 1
      have u2 := y4.f 2
      have u3 := y4.f 3
      have u4 := y4.f 4
      simp only [List.getElem?_toArray, List.getElem?_cons_succ, List.getElem?_cons_zero] at e0 e1 e2 e3 e4 d0 d1 d2 d3 d4
      clear y4 y6
      go_wp2_with fail
      (try simp only [Exit.inBlock, Exit.then])
      rw [HM.out]
      refine bodyPost_ret (v := .tuple #[.agg (evA ⟨0, 0, 0, 0, 0⟩), .int .i64 jm.1]) ?_ rfl ⟨rfl, ?_⟩
      · rw [results_cell_tmp rfl]
        go_simp
      · (with_reducible refine HEN.out _ _ _ ?_)
        repeat (first | (with_reducible refine HB4.out _ _ _ _ _ ?_) | (with_reducible refine HB6.out _ _ _ _ _ ?_) | (with_reducible refine HDR.out _ _ _ ?_))
        with_reducible exact HOF.out _ _ _ HR3.out
  have g10 : (op == 10) = false := by simpa using h10
  have g19 : (op == 19) = false := by simpa using h19
  have g21 : (op == 21) = false := by simpa using h21
  have g22 : (op == 22) = false := by simpa using h22
  have HM := Lib.hid (show execM ss c ⟨op, a, b, k, n⟩ = (⟨0, 0, 0, 0, 0⟩, (valueM ss c ⟨op, a, b, k, n⟩).2, c.put a (valueM ss c ⟨op, a, b, k, n⟩).1, ss) by simp [execM, h10, h19, h21, h22, hj])
  have g13 : (op == 13) = false := by
    cases h : (op == 13) with
    | false => rfl
    | true => exact (hj (by simp [isJump, h])).elim
  have g14 : (op == 14) = false := by
    cases h : (op == 14) with
    | false => rfl
    | true => exact (hj (by simp [isJump, h])).elim
  have g15 : (op == 15) = false := by
    cases h : (op == 15) with
    | false => rfl
    | true => exact (hj (by simp [isJump, h])).elim
  have g16 : (op == 16) = false := by
    cases h : (op == 16) with
    | false => rfl
    | true => exact (hj (by simp [isJump, h])).elim
  have g17 : (op == 17) = false := by
    cases h : (op == 17) with
    | false => rfl
    | true => exact (hj (by simp [isJump, h])).elim
  have g18 : (op == 18) = false := by
    cases h : (op == 18) with
    | false => rfl
    | true => exact (hj (by simp [isJump, h])).elim
  have HKV := Lib.hid (show ∀ X, Below w2.heap.size w2 X → (X.cell? ⟨w.heap.size, 0, none⟩ = some (.int .i64 op) ∧ X.cell? ⟨w.heap.size, 1, none⟩ = some (.int .i64 (a : Int)) ∧ X.cell? ⟨w.heap.size, 2, none⟩ = some (.int .i64 (b : Int)) ∧ X.cell? ⟨w.heap.size, 3, none⟩ = some (.int .i64 (k : Int)) ∧ X.cell? ⟨w.heap.size, 4, none⟩ = some (.int .i64 n) ∧ X.cell? ⟨g, 2 + a, none⟩ = some (.int .i64 (c.reg (a : Int))) ∧ X.frozen? ⟨g, 2 + a, none⟩ = false) from
    fun X hX => ⟨(hd.on hX).cells.1, (hd.on hX).cells.2.1, (hd.on hX).cells.2.2.1, (hd.on hX).cells.2.2.2.1, (hd.on hX).cells.2.2.2.2, (hd.mach.below hX).at_ a ha, (hd.mach.below hX).fro (2 + a)⟩)
  generalize valueM ss c ⟨op, a, b, k, n⟩ = vm at *
  clear HKE HJU HSW hj h10 h19 h21 h22 pa pb ps e0 e1 e2 e3 e4 d0 d1 d2 d3 d4 u0 u1 u2 u3 u4 v0 v1 v2 v3 v4 c0 c1 c2 c3 c4
  obtain ⟨c0, c1, c2, c3, c4, pa, fa⟩ := HKV.out _ (Below.refl _ _)
  go_wp2_with fail
  go_region_with (go_at_call 87; (with_reducible refine (HVA.out _ (by first | assumption | exact below_draw6 (by assumption) | exact Below.refl _ _ | exact drew_below _)).mono ?_); rintro e w3 ⟨rfl, hbp⟩; clear c0 c1 c2 c3 c4 pa fa; obtain ⟨c0, c1, c2, c3, c4, pa, fa⟩ := HKV.out _ hbp)
  all_goals
    have HR3 := Lib.hid ((HR2.out.quiet hbp).set a ha vm.1)
    generalize w3.setCell ⟨g, 2 + a, none⟩ (.int .i64 vm.1) = w4 at *
    clear c0 c1 c2 c3 c4 pa fa hbp
    obtain ⟨y4, y6, _⟩ := HKB.out _ _ _ HR3.out
    have d0 := y6.c 0
    have d1 := y6.c 1
    have d2 := y6.c 2
    have d3 := y6.c 3
    have d4 := y6.c 4
    have e0 := y4.c 0
    have e1 := y4.c 1
    have e2 := y4.c 2
    have e3 := y4.c 3
    have e4 := y4.c 4
    have u0 := y4.f 0
    have u1 := y4.f 1
    have u2 := y4.f 2
    have u3 := y4.f 3
    have u4 := y4.f 4
    simp only [List.getElem?_toArray, List.getElem?_cons_succ, List.getElem?_cons_zero] at e0 e1 e2 e3 e4 d0 d1 d2 d3 d4
    clear y4 y6
    go_wp2_with fail
    (try simp only [Exit.inBlock, Exit.then])
    rw [HM.out]
    refine bodyPost_ret (v := .tuple #[.agg (evA ⟨0, 0, 0, 0, 0⟩), .int .i64 vm.2]) ?_ rfl ⟨rfl, ?_⟩
    · rw [results_cell_tmp rfl]
      go_simp
    · (with_reducible refine HEN.out _ _ _ ?_)
      repeat (first | (with_reducible refine HB4.out _ _ _ _ _ ?_) | (with_reducible refine HB6.out _ _ _ _ _ ?_) | (with_reducible refine HDR.out _ _ _ ?_))
      with_reducible exact HOF.out _ _ _ HR3.out
end Go.Proofs.YtfkhfjefddgkoaaDoor
