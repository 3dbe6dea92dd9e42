/-
  The document's step: plain facts, and a memory beside a step's boxes.
-/
import Derived.Test.YtfkhfjefddgkoaaDoorZRe
import Derived.Test.YtfkhfjefddgkoaaDoorZPd
namespace Go.Proofs.YtfkhfjefddgkoaaDoor
open Go.RowKit

section
variable {ss : List Seg} {c : Cx} {i : Ins}
theorem step_none {e : Int} (hp : c.pc ≠ 0) (hi : instM ss c = (e, none)) : stepM ss c = (trapE e, c, ss) := by simp [stepM, hp, hi]
theorem step_some (hp : c.pc ≠ 0) (hi : instM ss c = (0, some i)) {ev : Ev} {e : Int} {d : Cx} {s2 : List Seg} (hx : execM ss (c.to (w64 (c.pc + 8))) i = (ev, e, d, s2)) : stepM ss c = if e = 0 then (ev, d, s2) else (trapE e, c, s2) := by
  simp [stepM, hp, hi, hx]
theorem exec_jump {c1 : Cx} (hj : isJump i.op = true) : execM ss c1 i = (ez, (jumpM ss c1 i).1, (jumpM ss c1 i).2.1, (jumpM ss c1 i).2.2) := by
  unfold execM
  rw [if_neg, if_neg, if_neg, if_neg, if_pos hj]
  all_goals (intro h; rw [h] at hj; cases hj)
theorem step_jump (hp : c.pc ≠ 0) (hi : instM ss c = (0, some i)) (hj : isJump i.op = true) : stepM ss c = ((jumpD ss (c.to (w64 (c.pc + 8))) c i).2.1, (jumpD ss (c.to (w64 (c.pc + 8))) c i).1, (jumpD ss (c.to (w64 (c.pc + 8))) c i).2.2.2) := by
  rw [step_some hp hi (exec_jump hj)]
  unfold jumpD outD
  rw [if_pos hj]
  by_cases h : (jumpM ss (c.to (w64 (c.pc + 8))) i).1 = 0
  · rw [if_pos h, if_pos h]
  · rw [if_neg h, if_neg h]
theorem jump_yes {c1 : Cx} (hj : isJump i.op = true) : (jumpD ss c1 c i).2.2.1 = true := by unfold jumpD; rw [if_pos hj]
theorem jump_no {c1 : Cx} (hj : isJump i.op = false) : jumpD ss c1 c i = (c1, ez, false, ss) := by unfold jumpD; rw [if_neg (by rw [hj]; decide)]
theorem step_ask (hp : c.pc ≠ 0) (hi : instM ss c = (0, some i)) (ha : (askD (c.to (w64 (c.pc + 8))) i).2 = true) : stepM ss c = ((askD (c.to (w64 (c.pc + 8))) i).1, c.to (w64 (c.pc + 8)), ss) := by
  have hx : execM ss (c.to (w64 (c.pc + 8))) i = ((askD (c.to (w64 (c.pc + 8))) i).1, 0, c.to (w64 (c.pc + 8)), ss) := by
    unfold askD at ha ⊢
    unfold execM
    split
    · rfl
    rename_i h1
    rw [if_neg h1] at ha
    split
    · rfl
    rename_i h2
    rw [if_neg h2] at ha
    split
    · rfl
    rename_i h3
    rw [if_neg h3] at ha
    cases ha
  rw [step_some hp hi hx]
  rfl
theorem ask_no {c1 : Cx} (ha : (askD c1 i).2 = false) : (i.op ≠ 19 ∧ i.op ≠ 21 ∧ i.op ≠ 22) ∧ askD c1 i = (ez, false) := by
  unfold askD at ha ⊢
  split
  · rename_i h; rw [if_pos h] at ha; cases ha
  rename_i h1
  rw [if_neg h1] at ha
  split
  · rename_i h; rw [if_pos h] at ha; cases ha
  rename_i h2
  rw [if_neg h2] at ha
  split
  · rename_i h; rw [if_pos h] at ha; cases ha
  rename_i h3
  exact ⟨⟨h1, h2, h3⟩, rfl⟩
theorem step_store (hp : c.pc ≠ 0) (hi : instM ss c = (0, some i)) (h10 : i.op = 10) {c1 : Cx} (hc : c.to (w64 (c.pc + 8)) = c1) :
    stepM ss c = if (storeS ss (w64 (c1.reg i.b + i.n)) (digs (c1.reg i.a) 8) 2).1 = 0 then (ez, c1, (storeS ss (w64 (c1.reg i.b + i.n)) (digs (c1.reg i.a) 8) 2).2) else (trapE (storeS ss (w64 (c1.reg i.b + i.n)) (digs (c1.reg i.a) 8) 2).1, c, (storeS ss (w64 (c1.reg i.b + i.n)) (digs (c1.reg i.a) 8) 2).2) := by
  refine step_some hp hi ?_
  rw [hc]
  unfold execM
  rw [if_neg (by omega), if_neg (by omega), if_neg (by omega), if_pos h10]
theorem step_value (hp : c.pc ≠ 0) (hi : instM ss c = (0, some i)) (h19 : i.op ≠ 19) (h21 : i.op ≠ 21) (h22 : i.op ≠ 22) (h10 : i.op ≠ 10) (hj : isJump i.op = false) {c1 : Cx} (hc : c.to (w64 (c.pc + 8)) = c1) {v e : Int} (hv : valueM ss c1 i = (v, e)) :
    stepM ss c = if e = 0 then (ez, c1.put i.a v, ss) else (trapE e, c, ss) := by
  refine step_some hp hi ?_
  rw [hc]
  unfold execM
  rw [if_neg h19, if_neg h21, if_neg h22, if_neg h10, if_neg (by rw [hj]; decide), hv]
end
section
variable {w1 wz wy : World} {B g : Nat} {F P : Nat → Prop} {ss S : List Seg}
theorem Wd.moreR (h : Wd w1 wz B g F S P) (hb : Below wz.heap.size wz wy) : Wd w1 wy B g F S (fun k => P k ∨ (wz.heap.size ≤ k ∧ k < wy.heap.size)) := by
  have h2 := h.quiet hb
  obtain ⟨F', m, p, b, kk⟩ := h
  refine ⟨F', m.below hb, fun k hk => ?_, h2.beside, kk⟩
  rcases hk with hk | hk
  · exact ⟨(p k hk).1, Nat.lt_of_lt_of_le (p k hk).2.1 hb.size, (p k hk).2.2⟩
  · exact ⟨fun hf => by have := (m.lt hf).2; omega, hk.2, Nat.le_trans b.size hk.1⟩
theorem Wd.went2 {s2 : List Seg} (h : Wd w1 wz B g F ss P) {f : Nat} {args : Array Value} {v : Value} (hc : ∀ F', Mies wz B g F' ss → Calls Tryd.prog f args wz fun en w' => en = .returned v ∧ WentM wz w' B g F' s2) :
    Calls Tryd.prog f args wz fun en w' => en = .returned v ∧ Wd w1 w' B g F s2 P ∧ Kept P wz w' := by
  obtain ⟨F', m, p, b, kk⟩ := h
  refine (hc F' m).mono fun en w' ⟨he, h2⟩ => ?_
  obtain ⟨F2, m2, b2, k2⟩ := h2
  refine ⟨he, ⟨F2, m2, fun k hk => ⟨fun hf => ?_, Nat.lt_of_lt_of_le (p k hk).2.1 b2.size, (p k hk).2.2⟩, ⟨b2.os.trans b.os, b2.tape.trans b.tape, b2.output.trans b.output, Nat.le_trans b.size b2.size, fun k hk hn => (b2.block k (Nat.lt_of_lt_of_le hk b.size) fun hf => ?_).trans (b.block k hk hn)⟩, fun k hf => ?_⟩, fun k hk => b2.block k (p k hk).2.1 (p k hk).1⟩
  · rcases k2 k hf with h | h
    · exact (p k hk).1 h
    · have := (p k hk).2.1
      omega
  · rcases kk k hf with h | h
    · exact hn h
    · omega
  · rcases k2 k hf with h | h
    · exact kk k h
    · exact .inr (Nat.le_trans b.size h)
theorem Wd.rows (h : Wd w1 wz B g F S P) {e f : Nat} (he : P e) (hf : P f) (hb : Beside wz wy (fun k => k = e ∨ k = f)) : Wd w1 wy B g F S P := by
  obtain ⟨F', m, p, b, kk⟩ := h
  have hp := p e he
  have hq := p f hf
  refine ⟨F', m.beside hb fun k hk e' => ?_, fun k hk => ⟨(p k hk).1, Nat.lt_of_lt_of_le (p k hk).2.1 hb.size, (p k hk).2.2⟩, ⟨hb.os.trans b.os, hb.tape.trans b.tape, hb.output.trans b.output, Nat.le_trans b.size hb.size, fun k hk hn => (hb.block k (Nat.lt_of_lt_of_le hk b.size) (by omega)).trans (b.block k hk hn)⟩, kk⟩
  rcases e' with rfl | rfl
  · exact hp.1 hk
  · exact hq.1 hk
theorem ctxIn.kept {w w' : World} {b : Nat} {Q : Nat → Prop} (h : ctxIn w b) (hk : Kept Q w w') (hq : Q b) : ctxIn w' b := by
  obtain ⟨cs, h1, h2⟩ := h
  exact ⟨cs, (hk b hq).trans h1, h2⟩
theorem evIn.kept {w w' : World} {b : Nat} {Q : Nat → Prop} (h : evIn w b) (hk : Kept Q w w') (hq : Q b) : evIn w' b := by
  obtain ⟨e, h1⟩ := h
  exact ⟨e, (hk b hq).trans h1⟩
theorem Cb.kept {w w' : World} {b : Nat} {c : Cx} {Q : Nat → Prop} (h : Cb w b c) (hk : Kept Q w w') (hq : Q b) : Cb w' b c := h.keep (hk b hq)
theorem ctxIn.below {w w' : World} {b : Nat} (h : ctxIn w b) (hb : Below w.heap.size w w') : ctxIn w' b := h.beside (Beside.of_below hb (fun _ => False)) (fun h => h)
theorem evIn.below {w w' : World} {b : Nat} (h : evIn w b) (hb : Below w.heap.size w w') : evIn w' b := h.beside (Beside.of_below hb (fun _ => False)) (fun h => h)
end
end Go.Proofs.YtfkhfjefddgkoaaDoor
