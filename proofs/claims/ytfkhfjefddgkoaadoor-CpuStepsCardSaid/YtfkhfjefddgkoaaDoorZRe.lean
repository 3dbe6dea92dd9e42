/-
  The document's machine: jumps.
-/
import Derived.Test.YtfkhfjefddgkoaaDoorZRf
namespace Go.Proofs.YtfkhfjefddgkoaaDoor
open Go.RowKit

/-- What a jump comes to: the context, the event, whether it was one, the memory. -/
def jumpD (ss : List Seg) (c was : Cx) (i : Ins) : Cx × Ev × Bool × List Seg :=
  if isJump i.op = true then ((outD (jumpM ss c i).1 (jumpM ss c i).2.1 was).1, (outD (jumpM ss c i).1 (jumpM ss c i).2.1 was).2, true, (jumpM ss c i).2.2) else (c, ez, false, ss)
theorem al_six (w : World) (a b c d e f : Array Value) (t u v x y z : TypeId) : let W := al (al (al (al (al (al w a t) b u) c v) d x) e y) f z
    Bx W w.heap.size a t ∧ Bx W (w.heap.size + 1) b u ∧ Bx W (w.heap.size + 1 + 1) c v ∧ Bx W (w.heap.size + 1 + 1 + 1) d x ∧ Bx W (w.heap.size + 1 + 1 + 1 + 1) e y ∧ Bx W (w.heap.size + 1 + 1 + 1 + 1 + 1) f z ∧ Below w.heap.size w W := by
  obtain ⟨h1, h2, h3, h4, hb⟩ := al_four w a b c d t u v x
  have s4 : (al (al (al (al w a t) b u) c v) d x).heap.size = w.heap.size + 1 + 1 + 1 + 1 := by rw [al_size, al_size, al_size, al_size]
  generalize al (al (al (al w a t) b u) c v) d x = w4 at *
  obtain ⟨h5, h6, hb2⟩ := al_two w4 e f y z
  rw [s4] at h5 h6
  exact ⟨h1.below hb2, h2.below hb2, h3.below hb2, h4.below hb2, h5, h6, hb.trans (hb2.mono (by omega))⟩
section
variable (ss : List Seg) (c was : Cx) (a b k n : Int)
theorem jumpD_jmp : jumpD ss c was ⟨13, a, b, k, n⟩ = (c.to (w64 (c.pc + n)), ez, true, ss) := by simp [jumpD, jumpM, isJump, outD]
theorem jumpD_jz1 (hz : c.reg a = 0) : jumpD ss c was ⟨14, a, b, k, n⟩ = (c.to (w64 (c.pc + n)), ez, true, ss) := by simp [jumpD, jumpM, isJump, outD, hz]
theorem jumpD_jz0 (hz : ¬ c.reg a = 0) : jumpD ss c was ⟨14, a, b, k, n⟩ = (c, ez, true, ss) := by simp [jumpD, jumpM, isJump, outD, hz]
theorem jumpD_jmpr : jumpD ss c was ⟨17, a, b, k, n⟩ = (c.to (c.reg a), ez, true, ss) := by simp [jumpD, jumpM, isJump, outD]
theorem jumpD_call : jumpD ss c was ⟨15, a, b, k, n⟩ = ((outD (callM ss c (w64 (c.pc + n))).1 (callM ss c (w64 (c.pc + n))).2.1 was).1, (outD (callM ss c (w64 (c.pc + n))).1 (callM ss c (w64 (c.pc + n))).2.1 was).2, true, (callM ss c (w64 (c.pc + n))).2.2) := by simp [jumpD, jumpM, isJump]
theorem jumpD_callr : jumpD ss c was ⟨16, a, b, k, n⟩ = ((outD (callM ss c (c.reg a)).1 (callM ss c (c.reg a)).2.1 was).1, (outD (callM ss c (c.reg a)).1 (callM ss c (c.reg a)).2.1 was).2, true, (callM ss c (c.reg a)).2.2) := by simp [jumpD, jumpM, isJump]
theorem jumpM_ret : jumpM ss c ⟨18, a, b, k, n⟩ = ((retM ss c).1, (retM ss c).2, ss) := by simp [jumpM]
theorem jumpD_of (i : Ins) (h : isJump i.op = true) {e : Int} {d : Cx} {s2 : List Seg} (hj : jumpM ss c i = (e, d, s2)) : jumpD ss c was i = ((outD e d was).1, (outD e d was).2, true, s2) := by
  unfold jumpD
  rw [if_pos h, hj]
theorem retM_eq : retM ss c = (goesS ss (c.reg 15) 8 1, (c.put 15 (w64 (c.reg 15 + 8))).to (wordS ss (c.reg 15) 1)) := rfl
theorem to_put (a v t : Int) : (c.put a v).to t = (c.to t).put a v := rfl
theorem jumpD_ret1 (hg : goesS ss (c.reg 15) 8 1 = 0) : jumpD ss c was ⟨18, a, b, k, n⟩ = ((c.to (wordS ss (c.reg 15) 1)).put ((15 : Nat) : Int) (w64 (c.reg 15 + 8)), ez, true, ss) := by
  rw [jumpD_of ss c was ⟨18, a, b, k, n⟩ rfl (jumpM_ret ss c a b k n), retM_eq, hg, show ((15 : Nat) : Int) = 15 from rfl, ← to_put]
  rfl
theorem jumpD_ret0 (hg : ¬ goesS ss (c.reg 15) 8 1 = 0) : jumpD ss c was ⟨18, a, b, k, n⟩ = (was, trapE (goesS ss (c.reg 15) 8 1), true, ss) := by simp [jumpD, jumpM, isJump, outD, retM, hg]
theorem jumpD_none (op : Int) (h : isJump op = false) : jumpD ss c was ⟨op, a, b, k, n⟩ = (c, ez, false, ss) := by simp [jumpD, h]
end
/-- Where a jump stands: its boxes, and what became of the memory. -/
structure Jd (w w1 wz : World) (B g : Nat) (F : Nat → Prop) (S2 : List Seg) (d was : Cx) (i : Ins) : Prop where
  x : Cb wz w.heap.size d
  y : Cb wz (w.heap.size + 1) was
  i : Bx wz (w.heap.size + 1 + 1) (iA i) 51
  z : ctxIn wz (w.heap.size + 1 + 1 + 1)
  e : evIn wz (w.heap.size + 1 + 1 + 1 + 1)
  n : Bx wz (w.heap.size + 1 + 1 + 1 + 1 + 1) (evA ez) 37
  went : ∃ w2, WentM w1 w2 B g F S2 ∧ Beside w2 wz (fun k => k = w.heap.size)
section
variable {w w1 wz w5 : World} {B g : Nat} {F : Nat → Prop} {s1 S2 : List Seg} {d was : Cx} {i : Ins}
theorem Jd.cell (h : Jd w w1 wz B g F S2 d was i) (j : Nat) (v : Value) (d2 : Cx) (hx : Cb (wz.setCell ⟨w.heap.size, j, none⟩ v) w.heap.size d2) : Jd w w1 (wz.setCell ⟨w.heap.size, j, none⟩ v) B g F S2 d2 was i := by
  have b := beside_cell wz w.heap.size j v
  obtain ⟨w2, a1, a2⟩ := h.went
  exact ⟨hx, h.y.beside b (by omega), h.i.beside b (by omega), h.z.beside b (by omega), h.e.beside b (by omega), h.n.beside b (by omega), w2, a1,
    ⟨b.os.trans a2.os, b.tape.trans a2.tape, b.output.trans a2.output, Nat.le_trans a2.size b.size, fun k hk hn => (b.block k (Nat.lt_of_lt_of_le hk a2.size) hn).trans (a2.block k hk hn)⟩⟩
theorem Jd.jump (h : Jd w w1 wz B g F S2 d was i) (v : Int) : Jd w w1 (wz.setCell ⟨w.heap.size, 0, none⟩ (.int .i64 v)) B g F S2 (d.to v) was i := h.cell 0 _ _ (h.x.jump v)
theorem Jd.put (h : Jd w w1 wz B g F S2 d was i) (a : Nat) (v : Int) : Jd w w1 (wz.setCell ⟨w.heap.size, 2 + a, none⟩ (.int .i64 v)) B g F S2 (d.put (a : Int) v) was i := h.cell (2 + a) _ _ (h.x.set a v)
theorem Jd.below (h : Jd w w1 wz B g F S2 d was i) (hb : Below wz.heap.size wz w5) : Jd w w1 w5 B g F S2 d was i := by
  obtain ⟨w2, a1, a2⟩ := h.went
  have b : Beside wz w5 (fun _ => False) := Beside.of_below hb _
  exact ⟨h.x.below hb, h.y.below hb, h.i.below hb, h.z.beside b (fun h => h), h.e.beside b (fun h => h), h.n.below hb, w2, a1,
    ⟨hb.os.trans a2.os, hb.tape.trans a2.tape, hb.output.trans a2.output, Nat.le_trans a2.size hb.size, fun k hk hn => (hb.block k (Nat.lt_of_lt_of_le hk a2.size)).trans (a2.block k hk hn)⟩⟩
theorem Jd.called (h : Jd w w1 w1 B g F s1 d was i) (hnF : ∀ k, w.heap.size ≤ k → ¬ F k) (hw : WentM w1 w5 B g F S2) : Jd w w1 w5 B g F S2 d was i := by
  have b := hw.keeps
  exact ⟨h.x.beside b (hnF _ (Nat.le_refl _)), h.y.beside b (hnF _ (by omega)), h.i.beside b (hnF _ (by omega)), h.z.beside b (hnF _ (by omega)), h.e.beside b (hnF _ (by omega)), h.n.beside b (hnF _ (by omega)), w5, hw, Beside.refl _ _⟩
theorem Jd.last (h : Jd w w1 wz B g F S2 d was i) (hF : Mies w B g F s1) (hb : Below w.heap.size w w1) (hz : w.heap.size + 1 + 1 + 1 + 1 + 1 < w1.heap.size) (h5 : Beside wz w5 (fun k => k = w.heap.size + 1 + 1 + 1 ∨ k = w.heap.size + 1 + 1 + 1 + 1)) : WentM w w5 B g F S2 := by
  obtain ⟨w2, a1, a2⟩ := h.went
  exact went_laid (p := fun k => k = w.heap.size ∨ k = w.heap.size + 1 + 1 + 1 ∨ k = w.heap.size + 1 + 1 + 1 + 1) hF hb a1 ⟨h5.os.trans a2.os, h5.tape.trans a2.tape, h5.output.trans a2.output, Nat.le_trans a2.size h5.size, fun k hk hn => (h5.block k (Nat.lt_of_lt_of_le hk a2.size) (by omega)).trans (a2.block k hk (by omega))⟩ fun k hk => by omega
end
set_option maxRecDepth 100000 in
set_option maxHeartbeats 4000000 in
theorem jumped_any {w : World} {B g : Nat} {F : Nat → Prop} {c was : Cx} {ss : List Seg} (op n : Int) (a b k : Nat) (ha : a < 16) (h : Mies w B g F ss) (hl : c.rs.length = 16) (hw : was.rs.length = 16) (h15 : I64 (c.reg 15)) :
    Calls Tryd.prog 29 #[cxV c, cxV was, .pointer (some ⟨g, 0, none⟩), .agg (iA ⟨op, a, b, k, n⟩)] w fun en w' => en = .returned (.tuple #[cxV (jumpD ss c was ⟨op, a, b, k, n⟩).1, .agg (evA (jumpD ss c was ⟨op, a, b, k, n⟩).2.1), .bool (jumpD ss c was ⟨op, a, b, k, n⟩).2.2.1]) ∧ WentM w w' B g F (jumpD ss c was ⟨op, a, b, k, n⟩).2.2.2 := by
  go_enter Tryd.func29, Tryd.ntmps29
  go_upto_region 2 with (fail)
  obtain ⟨h0, h1, h2, h3, h4, h5, hb⟩ := al_six w (cxA c) (cxA was) (iA ⟨op, a, b, k, n⟩) z18 (evA ez) (evA ez) 26 26 51 26 37 37
  change Code.wp _ _ _ _ (al (al (al (al (al (al w (cxA c) 26) (cxA was) 26) (iA ⟨op, a, b, k, n⟩) 51) z18 26) (evA ez) 37) (evA ez) 37)
  have hm := h.below hb
  have hnF : ∀ k, w.heap.size ≤ k → ¬ F k := fun k hk hf => by have := (h.lt hf).2; omega
  generalize al (al (al (al (al (al w (cxA c) 26) (cxA was) 26) (iA ⟨op, a, b, k, n⟩) 51) z18 26) (evA ez) 37) (evA ez) 37 = w1 at *
  have HJ1 := Lib.hid (show Jd w w1 w1 B g F ss c was ⟨op, a, b, k, n⟩ from ⟨⟨h0, hl⟩, ⟨h1, hw⟩, h2, ⟨_, h3, rfl⟩, ⟨_, h4⟩, h5, w1, ⟨F, hm, Beside.refl _ _, fun _ hk => .inl hk⟩, Beside.refl _ _⟩)
  have HLA := Lib.hid (fun (wz w5 : World) (S2 : List Seg) (d : Cx) (hz : Jd w w1 wz B g F S2 d was ⟨op, a, b, k, n⟩) h5' => hz.last (w5 := w5) h hb h5.lt h5')
  have HMI := Lib.hid hm
  have HNF := Lib.hid hnF
  have HLN := Lib.hid hl
  have HLW := Lib.hid hw
  clear h0 h1 h2 h3 h4 h5 hb hm h hl hw hnF
  have q0 : w1.cell? ⟨w.heap.size + 1 + 1, 0, none⟩ = some (.int .i64 op) := HJ1.out.i.c 0
  have q1 : w1.cell? ⟨w.heap.size + 1 + 1, 1, none⟩ = some (.int .i64 (a : Int)) := HJ1.out.i.c 1
  have q4 : w1.cell? ⟨w.heap.size + 1 + 1, 4, none⟩ = some (.int .i64 n) := HJ1.out.i.c 4
  have r0 := HJ1.out.x.at_ a ha
  have r15 := HJ1.out.x.at_ 15 (by omega)
  have rp := HJ1.out.x.pc
  have fp := HJ1.out.x.fro 0
  simp only [Nat.reduceAdd] at r15
  rw [show ((15 : Nat) : Int) = 15 from rfl] at r15
  have p0 : (0 : Int) ≤ (a : Int) := by omega
  have p1 : (a : Int) < 16 := by omega
  by_cases h13 : op = 13
  · subst h13
    have HO := Lib.hid (show jumpD ss c was ⟨13, a, b, k, n⟩ = (c.to (w64 (c.pc + n)), ez, true, ss) from jumpD_jmp ..)
    go_upto_region 5 with (fail)
    have HJ2 := Lib.hid (HJ1.out.jump (w64 (c.pc + n)))
    change Code.wp _ _ _ _ (w1.setCell ⟨w.heap.size, 0, none⟩ (.int .i64 (w64 (c.pc + n))))
    generalize w1.setCell ⟨w.heap.size, 0, none⟩ (.int .i64 (w64 (c.pc + n))) = w2 at *
    clear q0 q1 q4 r0 r15 rp fp
    refine ret5 (c := c.to (w64 (c.pc + n))) (ev := ez) ⟨by decide, by decide, by decide, by decide, by decide, by decide, (by decide : 31 < 123), (by decide : 32 < 123), rfl, rfl, rfl⟩ (by decide) rfl HJ2.out.x.lc HJ2.out.n HJ2.out.z HJ2.out.e (by omega) (by omega) ?_
    intro w5 k1 k2 k3
    have K1 := Lib.hid k1
    have K2 := Lib.hid k2
    have HW := Lib.hid (HLA.out _ _ _ _ HJ2.out k3)
    clear k1 k2 k3
    go_wp2_with fail
    refine bodyPost_ret (v := .tuple #[cxV (c.to (w64 (c.pc + n))), .agg (evA (ez)), .bool true]) (back_cex rfl (by rfl) (by rfl) (by rfl) K1.out K2.out) rfl ?_
    rw [HO.out]
    exact ⟨rfl, HW.out⟩
  by_cases h14 : op = 14
  · subst h14
    by_cases hz : c.reg (a : Int) = 0
    · have HO := Lib.hid (show jumpD ss c was ⟨14, a, b, k, n⟩ = (c.to (w64 (c.pc + n)), ez, true, ss) from jumpD_jz1 (hz := hz) ..)
      rw [hz] at r0
      go_upto_region 9 with (fail)
      have HJ2 := Lib.hid (HJ1.out.jump (w64 (c.pc + n)))
      change Code.wp _ _ _ _ (w1.setCell ⟨w.heap.size, 0, none⟩ (.int .i64 (w64 (c.pc + n))))
      generalize w1.setCell ⟨w.heap.size, 0, none⟩ (.int .i64 (w64 (c.pc + n))) = w2 at *
      clear q0 q1 q4 r0 r15 rp fp
      refine ret5 (c := c.to (w64 (c.pc + n))) (ev := ez) ⟨by decide, by decide, by decide, by decide, by decide, by decide, (by decide : 47 < 123), (by decide : 48 < 123), rfl, rfl, rfl⟩ (by decide) rfl HJ2.out.x.lc HJ2.out.n HJ2.out.z HJ2.out.e (by omega) (by omega) ?_
      intro w5 k1 k2 k3
      have K1 := Lib.hid k1
      have K2 := Lib.hid k2
      have HW := Lib.hid (HLA.out _ _ _ _ HJ2.out k3)
      clear k1 k2 k3
      go_wp2_with fail
      refine bodyPost_ret (v := .tuple #[cxV (c.to (w64 (c.pc + n))), .agg (evA (ez)), .bool true]) (back_cex rfl (by rfl) (by rfl) (by rfl) K1.out K2.out) rfl ?_
      rw [HO.out]
      exact ⟨rfl, HW.out⟩
    · have HO := Lib.hid (show jumpD ss c was ⟨14, a, b, k, n⟩ = (c, ez, true, ss) from jumpD_jz0 (hz := hz) ..)
      have hz2 : (c.reg (a : Int) == 0) = false := by simpa using hz
      go_upto_region 9 with (fail)
      clear q0 q1 q4 r0 r15 rp fp hz2
      refine ret5 (c := c) (ev := ez) ⟨by decide, by decide, by decide, by decide, by decide, by decide, (by decide : 47 < 123), (by decide : 48 < 123), rfl, rfl, rfl⟩ (by decide) rfl HJ1.out.x.lc HJ1.out.n HJ1.out.z HJ1.out.e (by omega) (by omega) ?_
      intro w5 k1 k2 k3
      have K1 := Lib.hid k1
      have K2 := Lib.hid k2
      have HW := Lib.hid (HLA.out _ _ _ _ HJ1.out k3)
      clear k1 k2 k3
      go_wp2_with fail
      refine bodyPost_ret (v := .tuple #[cxV (c), .agg (evA (ez)), .bool true]) (back_cex rfl (by rfl) (by rfl) (by rfl) K1.out K2.out) rfl ?_
      rw [HO.out]
      exact ⟨rfl, HW.out⟩
  by_cases h17 : op = 17
  · subst h17
    have HO := Lib.hid (show jumpD ss c was ⟨17, a, b, k, n⟩ = (c.to (c.reg (a : Int)), ez, true, ss) from jumpD_jmpr ..)
    go_upto_region 18 with (fail)
    have HJ2 := Lib.hid (HJ1.out.jump (c.reg (a : Int)))
    change Code.wp _ _ _ _ (w1.setCell ⟨w.heap.size, 0, none⟩ (.int .i64 (c.reg (a : Int))))
    generalize w1.setCell ⟨w.heap.size, 0, none⟩ (.int .i64 (c.reg (a : Int))) = w2 at *
    clear q0 q1 q4 r0 r15 rp fp
    refine ret5 (c := c.to (c.reg (a : Int))) (ev := ez) ⟨by decide, by decide, by decide, by decide, by decide, by decide, (by decide : 89 < 123), (by decide : 90 < 123), rfl, rfl, rfl⟩ (by decide) rfl HJ2.out.x.lc HJ2.out.n HJ2.out.z HJ2.out.e (by omega) (by omega) ?_
    intro w5 k1 k2 k3
    have K1 := Lib.hid k1
    have K2 := Lib.hid k2
    have HW := Lib.hid (HLA.out _ _ _ _ HJ2.out k3)
    clear k1 k2 k3
    go_wp2_with fail
    refine bodyPost_ret (v := .tuple #[cxV (c.to (c.reg (a : Int))), .agg (evA (ez)), .bool true]) (back_cex rfl (by rfl) (by rfl) (by rfl) K1.out K2.out) rfl ?_
    rw [HO.out]
    exact ⟨rfl, HW.out⟩
  by_cases h18 : op = 18
  · subst h18
    have HWD := Lib.hid (Word_m h15 (p := 1) (by omega) HMI.out)
    by_cases hg : goesS ss (c.reg 15) 8 1 = 0
    · have HO := Lib.hid (show jumpD ss c was ⟨18, a, b, k, n⟩ = ((c.to (wordS ss (c.reg 15) 1)).put ((15 : Nat) : Int) (w64 (c.reg 15 + 8)), ez, true, ss) from jumpD_ret1 (hg := hg) ..)
      rw [hg] at HWD
      go_upto_region 21 with (first
        | (go_at_call 69; refine (HWD.out).mono ?_; rintro en w2 ⟨rfl, hb2⟩; have HJ2 := Lib.hid (HJ1.out.below hb2); clear hb2))
      clear q0 q1 q4 r0 r15 rp fp HWD
      generalize wordS ss (c.reg 15) 1 = v at *
      have rp := HJ2.out.x.pc
      have fp := HJ2.out.x.fro 0
      have fr := HJ2.out.x.fro 17
      have r15 := HJ2.out.x.at_ 15 (by omega)
      simp only [Nat.reduceAdd] at r15
      rw [show ((15 : Nat) : Int) = 15 from rfl] at r15
      go_upto_region 26 with (fail)
      have HJ3 := Lib.hid ((HJ2.out.jump v).put 15 (w64 (c.reg 15 + 8)))
      change Code.wp _ _ _ _ ((w2.setCell ⟨w.heap.size, 0, none⟩ (.int .i64 v)).setCell ⟨w.heap.size, 2 + 15, none⟩ (.int .i64 (w64 (c.reg 15 + 8))))
      generalize (w2.setCell ⟨w.heap.size, 0, none⟩ (.int .i64 v)).setCell ⟨w.heap.size, 2 + 15, none⟩ (.int .i64 (w64 (c.reg 15 + 8))) = w3 at *
      clear r15 rp fp fr
      refine ret5 (c := (c.to v).put ((15 : Nat) : Int) (w64 (c.reg 15 + 8))) (ev := ez) ⟨by decide, by decide, by decide, by decide, by decide, by decide, (by decide : 119 < 123), (by decide : 120 < 123), rfl, rfl, rfl⟩ (by decide) rfl HJ3.out.x.lc HJ3.out.n HJ3.out.z HJ3.out.e (by omega) (by omega) ?_
      intro w5 k1 k2 k3
      have K1 := Lib.hid k1
      have K2 := Lib.hid k2
      have HW := Lib.hid (HLA.out _ _ _ _ HJ3.out k3)
      clear k1 k2 k3
      go_wp2_with fail
      refine bodyPost_ret (v := .tuple #[cxV ((c.to v).put ((15 : Nat) : Int) (w64 (c.reg 15 + 8))), .agg (evA (ez)), .bool true]) (back_cex rfl (by rfl) (by rfl) (by rfl) K1.out K2.out) rfl ?_
      rw [HO.out]
      exact ⟨rfl, HW.out⟩
    · have HO := Lib.hid (show jumpD ss c was ⟨18, a, b, k, n⟩ = (was, trapE (goesS ss (c.reg 15) 8 1), true, ss) from jumpD_ret0 (hg := hg) ..)
      have hg2 : (goesS ss (c.reg 15) 8 1 == 0) = false := by simpa using hg
      have hg3 : (goesS ss (c.reg 15) 8 1 != 0) = true := by simpa using hg
      clear hg
      generalize her : goesS ss (c.reg 15) 8 1 = er at *
      generalize wordS ss (c.reg 15) 1 = v at *
      have HT := Lib.hid (fun X => trapped_any was HLW.out er X)
      go_upto_region 22 with (first
        | (go_at_call 69; refine (HWD.out).mono ?_; rintro en w2 ⟨rfl, hb2⟩; have HJ2 := Lib.hid (HJ1.out.below hb2); have HLY := Lib.hid HJ2.out.y.lc; clear hb2))
      clear q0 q1 q4 r0 r15 rp fp HWD
      go_upto_region 23 with (first
        | ((with_reducible refine load_c (by rfl) ?_ HLY.out ?_); (· rfl))
        | (go_at_call 28; refine (HT.out _).mono ?_; rintro en w3 ⟨rfl, hb3⟩; have HJ3 := Lib.hid (HJ2.out.below hb3); have HCI := Lib.hid (laid_two w3 was (trapE er) HLW.out).1; have HEI := Lib.hid (laid_two w3 was (trapE er) HLW.out).2.1; clear hb3 HT)
        | ((with_reducible refine store_c (c := was) (by rfl) ?_ ?_ HCI.out HLW.out ?_); (· rfl); (· rfl))
        | ((with_reducible refine store_e (e := trapE er) (by rfl) ?_ ?_ HEI.out ?_); (· rfl); (· rfl)))
      obtain ⟨_, _, hc4, he4, hb4⟩ := laid_two w3 was (trapE er) HLW.out
      change Code.wp _ _ _ _ ((((w3.alloc (.cells z18 26)).alloc (.cells (evA ⟨0, 0, 0, 0, 0⟩) 37)).setRow w3.heap.size (cxA was)).setRow (w3.heap.size + 1) (evA (trapE er)))
      have HJ4 := Lib.hid (HJ3.out.below hb4)
      have hz3 := HJ3.out.n.lt
      generalize (((w3.alloc (.cells z18 26)).alloc (.cells (evA ⟨0, 0, 0, 0, 0⟩) 37)).setRow w3.heap.size (cxA was)).setRow (w3.heap.size + 1) (evA (trapE er)) = w4 at *
      clear hb4 HCI HEI HJ3 HJ2
      refine ret5 (c := was) (ev := trapE er) ⟨by decide, by decide, by decide, by decide, by decide, by decide, (by decide : 109 < 123), (by decide : 110 < 123), rfl, rfl, rfl⟩ (by decide) rfl hc4.lc he4 HJ4.out.z HJ4.out.e (by omega) (by omega) ?_
      intro w5 k1 k2 k3
      have K1 := Lib.hid k1
      have K2 := Lib.hid k2
      have HW := Lib.hid (HLA.out _ _ _ _ HJ4.out k3)
      clear k1 k2 k3
      go_wp2_with fail
      refine bodyPost_ret (v := .tuple #[cxV (was), .agg (evA (trapE er)), .bool true]) (back_cex rfl (by rfl) (by rfl) (by rfl) K1.out K2.out) rfl ?_
      rw [HO.out]
      exact ⟨rfl, HW.out⟩
  by_cases h15' : op = 15
  · subst h15'
    have HO := Lib.hid (show jumpD ss c was ⟨15, a, b, k, n⟩ = ((outD (callM ss c (w64 (c.pc + n))).1 (callM ss c (w64 (c.pc + n))).2.1 was).1, (outD (callM ss c (w64 (c.pc + n))).1 (callM ss c (w64 (c.pc + n))).2.1 was).2, true, (callM ss c (w64 (c.pc + n))).2.2) from jumpD_call ..)
    have HCA := Lib.hid (called_any HMI.out HLN.out HLW.out (w64 (c.pc + n)))
    have HLD := Lib.hid (show (outD (callM ss c (w64 (c.pc + n))).1 (callM ss c (w64 (c.pc + n))).2.1 was).1.rs.length = 16 by unfold outD; split; exact (show ((c.put 15 (w64 (c.reg 15 - 8))).to (w64 (c.pc + n))).rs.length = 16 by simp [Cx.put, Cx.to, HLN.out]); exact HLW.out)
    generalize (callM ss c (w64 (c.pc + n))).2.2 = S2 at *
    generalize outD (callM ss c (w64 (c.pc + n))).1 (callM ss c (w64 (c.pc + n))).2.1 was = o at *
    obtain ⟨d, ev⟩ := o
    simp only at HCA HLD HO
    have HLX := Lib.hid HJ1.out.x.lc
    have HLY := Lib.hid HJ1.out.y.lc
    go_upto_region 12 with (first
      | ((with_reducible refine load_c (by rfl) ?_ HLX.out ?_); (· rfl))
      | ((with_reducible refine load_c (by rfl) ?_ HLY.out ?_); (· rfl))
      | (go_at_call 68; refine (HCA.out).mono ?_; rintro en w3 ⟨rfl, hw3⟩; have HJ3 := Lib.hid (HJ1.out.called HNF.out hw3); have HCI := Lib.hid (laid_two w3 d ev HLD.out).1; have HEI := Lib.hid (laid_two w3 d ev HLD.out).2.1; clear hw3 HCA)
      | ((with_reducible refine store_c (c := d) (by rfl) ?_ ?_ HCI.out HLD.out ?_); (· rfl); (· rfl))
      | ((with_reducible refine store_e (e := ev) (by rfl) ?_ ?_ HEI.out ?_); (· rfl); (· rfl)))
    clear q0 q1 q4 r0 r15 rp fp HLX HLY
    obtain ⟨_, _, hc4, he4, hb4⟩ := laid_two w3 d ev HLD.out
    change Code.wp _ _ _ _ ((((w3.alloc (.cells z18 26)).alloc (.cells (evA ⟨0, 0, 0, 0, 0⟩) 37)).setRow w3.heap.size (cxA d)).setRow (w3.heap.size + 1) (evA ev))
    have HJ4 := Lib.hid (HJ3.out.below hb4)
    have hz3 := HJ3.out.n.lt
    generalize (((w3.alloc (.cells z18 26)).alloc (.cells (evA ⟨0, 0, 0, 0, 0⟩) 37)).setRow w3.heap.size (cxA d)).setRow (w3.heap.size + 1) (evA ev) = w4 at *
    clear hb4 HCI HEI HJ3
    refine ret5 (c := d) (ev := ev) ⟨by decide, by decide, by decide, by decide, by decide, by decide, (by decide : 63 < 123), (by decide : 64 < 123), rfl, rfl, rfl⟩ (by decide) rfl hc4.lc he4 HJ4.out.z HJ4.out.e (by omega) (by omega) ?_
    intro w5 k1 k2 k3
    have K1 := Lib.hid k1
    have K2 := Lib.hid k2
    have HW := Lib.hid (HLA.out _ _ _ _ HJ4.out k3)
    clear k1 k2 k3
    go_wp2_with fail
    refine bodyPost_ret (v := .tuple #[cxV (d), .agg (evA (ev)), .bool true]) (back_cex rfl (by rfl) (by rfl) (by rfl) K1.out K2.out) rfl ?_
    rw [HO.out]
    exact ⟨rfl, HW.out⟩
  by_cases h16 : op = 16
  · subst h16
    have HO := Lib.hid (show jumpD ss c was ⟨16, a, b, k, n⟩ = ((outD (callM ss c (c.reg (a : Int))).1 (callM ss c (c.reg (a : Int))).2.1 was).1, (outD (callM ss c (c.reg (a : Int))).1 (callM ss c (c.reg (a : Int))).2.1 was).2, true, (callM ss c (c.reg (a : Int))).2.2) from jumpD_callr ..)
    have HLD := Lib.hid (show (outD (callM ss c (c.reg (a : Int))).1 (callM ss c (c.reg (a : Int))).2.1 was).1.rs.length = 16 by unfold outD; split; exact (show ((c.put 15 (w64 (c.reg 15 - 8))).to (c.reg (a : Int))).rs.length = 16 by simp [Cx.put, Cx.to, HLN.out]); exact HLW.out)
    have HCA := Lib.hid (fun (wz : World) (P : Nat → Prop) (h : Wd w1 wz B g F ss P) => h.call HLN.out HLW.out (c.reg (a : Int)))
    have HXC := Lib.hid (fun (X : World) (hX : Beside w1 X F) => (HJ1.out.x.beside hX (HNF.out _ (Nat.le_refl _))).lc)
    have HXW := Lib.hid (fun (X : World) (hX : Beside w1 X F) => (HJ1.out.y.beside hX (HNF.out _ (Nat.le_succ _))).lc)
    have HQ1 := Lib.hid (fun (X : World) (hX : Beside w1 X F) => show X.cell? ⟨w.heap.size + 1 + 1, 1, none⟩ = some (.int .i64 (a : Int)) from (HJ1.out.i.beside hX (HNF.out _ (by omega))).c 1)
    have HQ2 := Lib.hid (fun (X : World) (hX : Beside w1 X F) => (HJ1.out.x.beside hX (HNF.out _ (Nat.le_refl _))).at_ a ha)
    have HW0 := Lib.hid ((Wd.start HMI.out).quiet (drew_below w1))
    have HJE := Lib.hid (fun (X : World) (S2 : List Seg) (P : Nat → Prop) (hX : Wd w1 X B g F S2 P) => HJ1.out.called HNF.out hX.went)
    generalize (callM ss c (c.reg (a : Int))).2.2 = S2 at *
    generalize outD (callM ss c (c.reg (a : Int))).1 (callM ss c (c.reg (a : Int))).2.1 was = o at *
    obtain ⟨d, ev⟩ := o
    simp only at HCA HLD HO
    go_upto_region 14 with (fail)
    have hz3 := HJ1.out.n.lt
    clear q0 q1 q4 r0 r15 rp fp
    refine wp_region_held_drew (S := fun X => Beside w1 X F) (by kernel_rfl) HW0.out.beside (fun hHeld => ?_)
    refine wpAnyH_take (i := 0) (oi := ⟨some 68, .load 26 (.tmp 4), _, _, _, none⟩) (v := cxV c) rfl (by kernel_rfl) (by kernel_rfl) (by kernel_rfl) (fun _ _ _ h => h) (yields_c HLN.out (by rfl) rfl rfl HXC.out) hHeld ?_
    simp only [Act.put, List.setIfInBounds_toArray, List.set_cons_zero, List.set_cons_succ]
    refine wpAnyH_take (i := 1) (oi := ⟨some 69, .load 26 (.tmp 5), _, _, _, none⟩) (v := cxV was) rfl (by kernel_rfl) (by kernel_rfl) (by kernel_rfl) (fun _ _ _ h => h) (yields_c HLW.out (by rfl) rfl rfl HXW.out) hHeld ?_
    simp only [Act.put, List.setIfInBounds_toArray, List.set_cons_zero, List.set_cons_succ]
    refine wpAnyH_take (i := 2) (oi := ⟨some 70, .move (.tmp 2), _, _, _, none⟩) (v := .pointer (some ⟨g, 0, none⟩)) rfl (by kernel_rfl) (by kernel_rfl) (by kernel_rfl) (fun _ _ _ h => h) (Or.inl ⟨by rfl, fun X _ => by go_simp⟩) hHeld ?_
    simp only [Act.put, List.setIfInBounds_toArray, List.set_cons_zero, List.set_cons_succ]
    refine wpAnyH_take (i := 3) (oi := ⟨some 71, .fieldAddr 51 (.tmp 7) 1, _, _, _, none⟩) (v := .pointer (some ⟨w.heap.size + 1 + 1, 1, none⟩)) rfl (by kernel_rfl) (by kernel_rfl) (by kernel_rfl) (fun _ _ _ h => h) (Or.inl ⟨by rfl, fun X _ => by go_simp⟩) hHeld ?_
    simp only [Act.put, List.setIfInBounds_toArray, List.set_cons_zero, List.set_cons_succ]
    refine wpAnyH_take (i := 4) (oi := ⟨some 72, .load 3 (.tmp 71), _, _, _, none⟩) (v := .int .i64 (a : Int)) rfl (by kernel_rfl) (by kernel_rfl) (by kernel_rfl) (fun _ _ _ h => h) (Or.inl ⟨by rfl, fun X hX => by have q := HQ1.out X hX; clear hX; go_simp⟩) hHeld ?_
    simp only [Act.put, List.setIfInBounds_toArray, List.set_cons_zero, List.set_cons_succ]
    refine wpAnyH_take (i := 5) (oi := ⟨some 73, .fieldAddr 26 (.tmp 4) 2, _, _, _, none⟩) (v := .pointer (some ⟨w.heap.size, 2, none⟩)) rfl (by kernel_rfl) (by kernel_rfl) (by kernel_rfl) (fun _ _ _ h => h) (Or.inl ⟨by rfl, fun X _ => by go_simp⟩) hHeld ?_
    simp only [Act.put, List.setIfInBounds_toArray, List.set_cons_zero, List.set_cons_succ]
    refine wpAnyH_take (i := 6) (oi := ⟨some 74, .indexAddr 24 (.tmp 73) (.tmp 72), _, _, _, none⟩) (v := .pointer (some ⟨w.heap.size, 2 + a, none⟩)) rfl (by kernel_rfl) (by kernel_rfl) (by kernel_rfl) (fun _ _ _ h => h) (Or.inl ⟨by rfl, fun X _ => by go_simp⟩) hHeld ?_
    simp only [Act.put, List.setIfInBounds_toArray, List.set_cons_zero, List.set_cons_succ]
    refine wpAnyH_take (i := 7) (oi := ⟨some 75, .load 3 (.tmp 74), _, _, _, none⟩) (v := .int .i64 (c.reg (a : Int))) rfl (by kernel_rfl) (by kernel_rfl) (by kernel_rfl) (fun _ _ _ h => h) (Or.inl ⟨by rfl, fun X hX => by have q := HQ2.out X hX; clear hX; go_simp⟩) hHeld ?_
    simp only [Act.put, List.setIfInBounds_toArray, List.set_cons_zero, List.set_cons_succ]
    clear HXC HXW HQ1 HQ2 hHeld
    generalize w1.drew = v0 at *
    refine wpAnyH_ready (rs := [8, 12, 13]) (by kernel_rfl) (by simp) ?_
    refine AllReadyH.cons (o := ⟨some 76, .call { callee := .value (.func 68), args := #[.tmp 68, .tmp 69, .tmp 70, .tmp 75], argTypes := _ }, _, _, _, none⟩) rfl (fun K hK => ?_) ?_
    · rw [if_pos (by rfl)]
      go_simp
      refine (HCA.out v0 _ HW0.out).mono ?_
      rintro en v1 ⟨rfl, hw, hk⟩
      have HW1 := Lib.hid hw
      skip
      refine hK.out _ _ hw.beside (fun hHeld => ?_)
      clear hK K hw hk
      refine wpAnyH_take (i := 9) (oi := ⟨some 67, .move (.tmp 76), _, _, _, none⟩) (v := .tuple #[cxV d, .agg (evA ev)]) rfl (by kernel_rfl) (by kernel_rfl) (by kernel_rfl) (fun _ _ _ h => h) (Or.inl ⟨by rfl, fun X _ => by go_simp⟩) hHeld ?_
      simp only [Act.put, List.setIfInBounds_toArray, List.set_cons_zero, List.set_cons_succ]
      refine wpAnyH_take (i := 10) (oi := ⟨some 77, .extract (.tmp 67) 0, _, _, _, none⟩) (v := cxV d) rfl (by kernel_rfl) (by kernel_rfl) (by kernel_rfl) (fun _ _ _ h => h) (Or.inl ⟨by rfl, fun X _ => by go_simp⟩) hHeld ?_
      simp only [Act.put, List.setIfInBounds_toArray, List.set_cons_zero, List.set_cons_succ]
      refine wpAnyH_take (i := 11) (oi := ⟨some 78, .extract (.tmp 67) 1, _, _, _, none⟩) (v := .agg (evA ev)) rfl (by kernel_rfl) (by kernel_rfl) (by kernel_rfl) (fun _ _ _ h => h) (Or.inl ⟨by rfl, fun X _ => by go_simp⟩) hHeld ?_
      simp only [Act.put, List.setIfInBounds_toArray, List.set_cons_zero, List.set_cons_succ]
      refine wpAnyH_ready (rs := [12, 13]) (by kernel_rfl) (by simp) ?_
      refine AllReadyH.cons (o := ⟨some 14, .alloc 26, _, _, _, none⟩) rfl (fun K hK => ?_) ?_
      · rw [if_pos (by rfl)]
        go_simp
        have HW2 := Lib.hid (HW1.out.alloc (.cells z18 26))
        have hb := (Below.refl v1.heap.size v1).alloc (Nat.le_refl _) (.cells z18 26)
        have HC2 := Lib.hid (ctxIn.new v1)
        refine hK.out _ _ HW2.out.beside (fun hHeld => ?_)
        clear hK K hb
        generalize v1.alloc (.cells z18 26) = v2 at *
        generalize hbe : v1.heap.size = be at *
        refine wpAnyH_ready (rs := [13]) (by kernel_rfl) (by simp) ?_
        refine AllReadyH.cons (o := ⟨some 15, .alloc 37, _, _, _, none⟩) rfl (fun K hK => ?_) ?_
        · rw [if_pos (by rfl)]
          go_simp
          have HW3 := Lib.hid (HW2.out.alloc (.cells (evA ez) 37))
          have hb := (Below.refl v2.heap.size v2).alloc (Nat.le_refl _) (.cells (evA ez) 37)
          have HE3 := Lib.hid (show evIn (v2.alloc (.cells (evA ez) 37)) v2.heap.size from ⟨_, Bx.new _ _ _⟩)
          have HC3 := Lib.hid (HC2.out.beside (Beside.of_below hb (fun _ => False)) (fun h => h))
          have hlt3 : (be) < v2.heap.size := by obtain ⟨_, h, _⟩ := HC2.out; exact h.lt
          refine hK.out _ _ HW3.out.beside (fun hHeld => ?_)
          clear hK K hb
          generalize v2.alloc (.cells (evA ez) 37) = v3 at *
          generalize hbf : v2.heap.size = bf at *
          have c1 := HC3.out.row d HLD.out
          have b1 := row_beside v3 (be) (cxA d)
          have hef : (be) ≠ (bf) := by omega
          have e1 := HE3.out.beside b1 (fun z => hef z.symm)
          have HWs := Lib.hid (HW3.out.row (by simp) b1)
          refine wpAnyH_ready (rs := [14]) (by kernel_rfl) (by simp) (AllReadyH.cons (o := ⟨none, .store 26 (.tmp 14) (.tmp 77), _, _, _, none⟩) rfl (fun K hK => ?_) AllReadyH.nil)
          rw [if_pos (by rfl)]
          refine store_c rfl rfl rfl HC3.out HLD.out ?_
          refine hK.out _ _ HWs.out.beside (fun hHeld => ?_)
          clear hK K
          generalize v3.setRow (be) (cxA d) = wy at *
          obtain ⟨he2, b2⟩ := laid_e e1 ev
          have HWt := Lib.hid (HWs.out.row (by simp) b2)
          have hc4 := c1.beside b2 hef
          refine wpAnyH_ready (rs := [15]) (by kernel_rfl) (by simp) (AllReadyH.cons (o := ⟨none, .store 37 (.tmp 15) (.tmp 78), _, _, _, none⟩) rfl (fun K hK => ?_) AllReadyH.nil)
          rw [if_pos (by rfl)]
          refine store_e rfl rfl rfl e1 ?_
          refine hK.out _ _ HWt.out.beside (fun hHeld => ?_)
          clear hK K
          generalize wy.setRow (bf) (evA ev) = wx at *
          have HJ4 := Lib.hid (HJE.out wx S2 _ HWt.out)
          have hpe := (HWt.out.choose_spec.2.1 (be) (by simp)).2.2
          have hpf := (HWt.out.choose_spec.2.1 (bf) (by simp)).2.2
          refine wpAnyH_done (by kernel_rfl) ?_ _
          clear HWs HWt c1 b1 e1 b2 hHeld HW3 HC3 HE3
          go_upto_region 15 with (fail)
          refine ret5 (c := d) (ev := ev) ⟨by decide, by decide, by decide, by decide, by decide, by decide, (by decide : 79 < 123), (by decide : 80 < 123), rfl, rfl, rfl⟩ (by decide) rfl hc4.lc he2 HJ4.out.z HJ4.out.e (by omega) (by omega) ?_
          intro w5 k1 k2 k3
          have K1 := Lib.hid k1
          have K2 := Lib.hid k2
          have HW := Lib.hid (HLA.out _ _ _ _ HJ4.out k3)
          clear k1 k2 k3
          go_wp2_with fail
          refine bodyPost_ret (v := .tuple #[cxV (d), .agg (evA (ev)), .bool true]) (back_cex rfl (by rfl) (by rfl) (by rfl) K1.out K2.out) rfl ?_
          rw [HO.out]
          exact ⟨rfl, HW.out⟩
        exact AllReadyH.nil
      refine AllReadyH.cons (o := ⟨some 15, .alloc 37, _, _, _, none⟩) rfl (fun K hK => ?_) ?_
      · rw [if_pos (by rfl)]
        go_simp
        have HW5 := Lib.hid (HW1.out.alloc (.cells (evA ez) 37))
        have hb := (Below.refl v1.heap.size v1).alloc (Nat.le_refl _) (.cells (evA ez) 37)
        have HE5 := Lib.hid (show evIn (v1.alloc (.cells (evA ez) 37)) v1.heap.size from ⟨_, Bx.new _ _ _⟩)
        refine hK.out _ _ HW5.out.beside (fun hHeld => ?_)
        clear hK K hb
        generalize v1.alloc (.cells (evA ez) 37) = v5 at *
        generalize hbf : v1.heap.size = bf at *
        refine wpAnyH_ready (rs := [12]) (by kernel_rfl) (by simp) ?_
        refine AllReadyH.cons (o := ⟨some 14, .alloc 26, _, _, _, none⟩) rfl (fun K hK => ?_) ?_
        · rw [if_pos (by rfl)]
          go_simp
          have HW6 := Lib.hid (HW5.out.alloc (.cells z18 26))
          have hb := (Below.refl v5.heap.size v5).alloc (Nat.le_refl _) (.cells z18 26)
          have HC6 := Lib.hid (ctxIn.new v5)
          have HE6 := Lib.hid (HE5.out.beside (Beside.of_below hb (fun _ => False)) (fun h => h))
          have hlt6 : (bf) < v5.heap.size := by obtain ⟨_, h⟩ := HE5.out; exact h.lt
          refine hK.out _ _ HW6.out.beside (fun hHeld => ?_)
          clear hK K hb
          generalize v5.alloc (.cells z18 26) = v6 at *
          generalize hbe : v5.heap.size = be at *
          have c1 := HC6.out.row d HLD.out
          have b1 := row_beside v6 (be) (cxA d)
          have hef : (be) ≠ (bf) := by omega
          have e1 := HE6.out.beside b1 (fun z => hef z.symm)
          have HWs := Lib.hid (HW6.out.row (by simp) b1)
          refine wpAnyH_ready (rs := [14]) (by kernel_rfl) (by simp) (AllReadyH.cons (o := ⟨none, .store 26 (.tmp 14) (.tmp 77), _, _, _, none⟩) rfl (fun K hK => ?_) AllReadyH.nil)
          rw [if_pos (by rfl)]
          refine store_c rfl rfl rfl HC6.out HLD.out ?_
          refine hK.out _ _ HWs.out.beside (fun hHeld => ?_)
          clear hK K
          generalize v6.setRow (be) (cxA d) = wy at *
          obtain ⟨he2, b2⟩ := laid_e e1 ev
          have HWt := Lib.hid (HWs.out.row (by simp) b2)
          have hc4 := c1.beside b2 hef
          refine wpAnyH_ready (rs := [15]) (by kernel_rfl) (by simp) (AllReadyH.cons (o := ⟨none, .store 37 (.tmp 15) (.tmp 78), _, _, _, none⟩) rfl (fun K hK => ?_) AllReadyH.nil)
          rw [if_pos (by rfl)]
          refine store_e rfl rfl rfl e1 ?_
          refine hK.out _ _ HWt.out.beside (fun hHeld => ?_)
          clear hK K
          generalize wy.setRow (bf) (evA ev) = wx at *
          have HJ4 := Lib.hid (HJE.out wx S2 _ HWt.out)
          have hpe := (HWt.out.choose_spec.2.1 (be) (by simp)).2.2
          have hpf := (HWt.out.choose_spec.2.1 (bf) (by simp)).2.2
          refine wpAnyH_done (by kernel_rfl) ?_ _
          clear HWs HWt c1 b1 e1 b2 hHeld HW6 HC6 HE6
          go_upto_region 15 with (fail)
          refine ret5 (c := d) (ev := ev) ⟨by decide, by decide, by decide, by decide, by decide, by decide, (by decide : 79 < 123), (by decide : 80 < 123), rfl, rfl, rfl⟩ (by decide) rfl hc4.lc he2 HJ4.out.z HJ4.out.e (by omega) (by omega) ?_
          intro w5 k1 k2 k3
          have K1 := Lib.hid k1
          have K2 := Lib.hid k2
          have HW := Lib.hid (HLA.out _ _ _ _ HJ4.out k3)
          clear k1 k2 k3
          go_wp2_with fail
          refine bodyPost_ret (v := .tuple #[cxV (d), .agg (evA (ev)), .bool true]) (back_cex rfl (by rfl) (by rfl) (by rfl) K1.out K2.out) rfl ?_
          rw [HO.out]
          exact ⟨rfl, HW.out⟩
        exact AllReadyH.nil
      exact AllReadyH.nil
    refine AllReadyH.cons (o := ⟨some 14, .alloc 26, _, _, _, none⟩) rfl (fun K hK => ?_) ?_
    · rw [if_pos (by rfl)]
      go_simp
      have HW8 := Lib.hid (HW0.out.alloc (.cells z18 26))
      have hb := (Below.refl v0.heap.size v0).alloc (Nat.le_refl _) (.cells z18 26)
      have HC8 := Lib.hid (ctxIn.new v0)
      refine hK.out _ _ HW8.out.beside (fun hHeld => ?_)
      clear hK K hb
      generalize v0.alloc (.cells z18 26) = v8 at *
      generalize hbe : v0.heap.size = be at *
      refine wpAnyH_ready (rs := [8, 13]) (by kernel_rfl) (by simp) ?_
      refine AllReadyH.cons (o := ⟨some 76, .call { callee := .value (.func 68), args := #[.tmp 68, .tmp 69, .tmp 70, .tmp 75], argTypes := _ }, _, _, _, none⟩) rfl (fun K hK => ?_) ?_
      · rw [if_pos (by rfl)]
        go_simp
        refine (HCA.out v8 _ HW8.out).mono ?_
        rintro en v9 ⟨rfl, hw, hk⟩
        have HW9 := Lib.hid hw
        skip
        have HC9 := Lib.hid (show ctxIn v9 (be) from by obtain ⟨cs, hcs, hs⟩ := HC8.out; exact ⟨cs, (hk (be) (by simp)).trans hcs, hs⟩)
        refine hK.out _ _ hw.beside (fun hHeld => ?_)
        clear hK K hw hk
        refine wpAnyH_take (i := 9) (oi := ⟨some 67, .move (.tmp 76), _, _, _, none⟩) (v := .tuple #[cxV d, .agg (evA ev)]) rfl (by kernel_rfl) (by kernel_rfl) (by kernel_rfl) (fun _ _ _ h => h) (Or.inl ⟨by rfl, fun X _ => by go_simp⟩) hHeld ?_
        simp only [Act.put, List.setIfInBounds_toArray, List.set_cons_zero, List.set_cons_succ]
        refine wpAnyH_take (i := 10) (oi := ⟨some 77, .extract (.tmp 67) 0, _, _, _, none⟩) (v := cxV d) rfl (by kernel_rfl) (by kernel_rfl) (by kernel_rfl) (fun _ _ _ h => h) (Or.inl ⟨by rfl, fun X _ => by go_simp⟩) hHeld ?_
        simp only [Act.put, List.setIfInBounds_toArray, List.set_cons_zero, List.set_cons_succ]
        refine wpAnyH_take (i := 11) (oi := ⟨some 78, .extract (.tmp 67) 1, _, _, _, none⟩) (v := .agg (evA ev)) rfl (by kernel_rfl) (by kernel_rfl) (by kernel_rfl) (fun _ _ _ h => h) (Or.inl ⟨by rfl, fun X _ => by go_simp⟩) hHeld ?_
        simp only [Act.put, List.setIfInBounds_toArray, List.set_cons_zero, List.set_cons_succ]
        refine wpAnyH_ready (rs := [13]) (by kernel_rfl) (by simp) ?_
        refine AllReadyH.cons (o := ⟨some 15, .alloc 37, _, _, _, none⟩) rfl (fun K hK => ?_) ?_
        · rw [if_pos (by rfl)]
          go_simp
          have HW10 := Lib.hid (HW9.out.alloc (.cells (evA ez) 37))
          have hb := (Below.refl v9.heap.size v9).alloc (Nat.le_refl _) (.cells (evA ez) 37)
          have HE10 := Lib.hid (show evIn (v9.alloc (.cells (evA ez) 37)) v9.heap.size from ⟨_, Bx.new _ _ _⟩)
          have HC10 := Lib.hid (HC9.out.beside (Beside.of_below hb (fun _ => False)) (fun h => h))
          have hlt10 : (be) < v9.heap.size := by obtain ⟨_, h, _⟩ := HC9.out; exact h.lt
          refine hK.out _ _ HW10.out.beside (fun hHeld => ?_)
          clear hK K hb
          generalize v9.alloc (.cells (evA ez) 37) = v10 at *
          generalize hbf : v9.heap.size = bf at *
          have c1 := HC10.out.row d HLD.out
          have b1 := row_beside v10 (be) (cxA d)
          have hef : (be) ≠ (bf) := by omega
          have e1 := HE10.out.beside b1 (fun z => hef z.symm)
          have HWs := Lib.hid (HW10.out.row (by simp) b1)
          refine wpAnyH_ready (rs := [14]) (by kernel_rfl) (by simp) (AllReadyH.cons (o := ⟨none, .store 26 (.tmp 14) (.tmp 77), _, _, _, none⟩) rfl (fun K hK => ?_) AllReadyH.nil)
          rw [if_pos (by rfl)]
          refine store_c rfl rfl rfl HC10.out HLD.out ?_
          refine hK.out _ _ HWs.out.beside (fun hHeld => ?_)
          clear hK K
          generalize v10.setRow (be) (cxA d) = wy at *
          obtain ⟨he2, b2⟩ := laid_e e1 ev
          have HWt := Lib.hid (HWs.out.row (by simp) b2)
          have hc4 := c1.beside b2 hef
          refine wpAnyH_ready (rs := [15]) (by kernel_rfl) (by simp) (AllReadyH.cons (o := ⟨none, .store 37 (.tmp 15) (.tmp 78), _, _, _, none⟩) rfl (fun K hK => ?_) AllReadyH.nil)
          rw [if_pos (by rfl)]
          refine store_e rfl rfl rfl e1 ?_
          refine hK.out _ _ HWt.out.beside (fun hHeld => ?_)
          clear hK K
          generalize wy.setRow (bf) (evA ev) = wx at *
          have HJ4 := Lib.hid (HJE.out wx S2 _ HWt.out)
          have hpe := (HWt.out.choose_spec.2.1 (be) (by simp)).2.2
          have hpf := (HWt.out.choose_spec.2.1 (bf) (by simp)).2.2
          refine wpAnyH_done (by kernel_rfl) ?_ _
          clear HWs HWt c1 b1 e1 b2 hHeld HW10 HC10 HE10
          go_upto_region 15 with (fail)
          refine ret5 (c := d) (ev := ev) ⟨by decide, by decide, by decide, by decide, by decide, by decide, (by decide : 79 < 123), (by decide : 80 < 123), rfl, rfl, rfl⟩ (by decide) rfl hc4.lc he2 HJ4.out.z HJ4.out.e (by omega) (by omega) ?_
          intro w5 k1 k2 k3
          have K1 := Lib.hid k1
          have K2 := Lib.hid k2
          have HW := Lib.hid (HLA.out _ _ _ _ HJ4.out k3)
          clear k1 k2 k3
          go_wp2_with fail
          refine bodyPost_ret (v := .tuple #[cxV (d), .agg (evA (ev)), .bool true]) (back_cex rfl (by rfl) (by rfl) (by rfl) K1.out K2.out) rfl ?_
          rw [HO.out]
          exact ⟨rfl, HW.out⟩
        exact AllReadyH.nil
      refine AllReadyH.cons (o := ⟨some 15, .alloc 37, _, _, _, none⟩) rfl (fun K hK => ?_) ?_
      · rw [if_pos (by rfl)]
        go_simp
        have HW12 := Lib.hid (HW8.out.alloc (.cells (evA ez) 37))
        have hb := (Below.refl v8.heap.size v8).alloc (Nat.le_refl _) (.cells (evA ez) 37)
        have HE12 := Lib.hid (show evIn (v8.alloc (.cells (evA ez) 37)) v8.heap.size from ⟨_, Bx.new _ _ _⟩)
        have HC12 := Lib.hid (HC8.out.beside (Beside.of_below hb (fun _ => False)) (fun h => h))
        have hlt12 : (be) < v8.heap.size := by obtain ⟨_, h, _⟩ := HC8.out; exact h.lt
        refine hK.out _ _ HW12.out.beside (fun hHeld => ?_)
        clear hK K hb
        generalize v8.alloc (.cells (evA ez) 37) = v12 at *
        generalize hbf : v8.heap.size = bf at *
        refine wpAnyH_ready (rs := [8]) (by kernel_rfl) (by simp) ?_
        refine AllReadyH.cons (o := ⟨some 76, .call { callee := .value (.func 68), args := #[.tmp 68, .tmp 69, .tmp 70, .tmp 75], argTypes := _ }, _, _, _, none⟩) rfl (fun K hK => ?_) ?_
        · rw [if_pos (by rfl)]
          go_simp
          refine (HCA.out v12 _ HW12.out).mono ?_
          rintro en v13 ⟨rfl, hw, hk⟩
          have HW13 := Lib.hid hw
          skip
          have HC13 := Lib.hid (show ctxIn v13 (be) from by obtain ⟨cs, hcs, hs⟩ := HC12.out; exact ⟨cs, (hk (be) (by simp)).trans hcs, hs⟩)
          have HE13 := Lib.hid (show evIn v13 (bf) from by obtain ⟨e0, hcs⟩ := HE12.out; exact ⟨e0, (hk (bf) (by simp)).trans hcs⟩)
          refine hK.out _ _ hw.beside (fun hHeld => ?_)
          clear hK K hw hk
          refine wpAnyH_take (i := 9) (oi := ⟨some 67, .move (.tmp 76), _, _, _, none⟩) (v := .tuple #[cxV d, .agg (evA ev)]) rfl (by kernel_rfl) (by kernel_rfl) (by kernel_rfl) (fun _ _ _ h => h) (Or.inl ⟨by rfl, fun X _ => by go_simp⟩) hHeld ?_
          simp only [Act.put, List.setIfInBounds_toArray, List.set_cons_zero, List.set_cons_succ]
          refine wpAnyH_take (i := 10) (oi := ⟨some 77, .extract (.tmp 67) 0, _, _, _, none⟩) (v := cxV d) rfl (by kernel_rfl) (by kernel_rfl) (by kernel_rfl) (fun _ _ _ h => h) (Or.inl ⟨by rfl, fun X _ => by go_simp⟩) hHeld ?_
          simp only [Act.put, List.setIfInBounds_toArray, List.set_cons_zero, List.set_cons_succ]
          refine wpAnyH_take (i := 11) (oi := ⟨some 78, .extract (.tmp 67) 1, _, _, _, none⟩) (v := .agg (evA ev)) rfl (by kernel_rfl) (by kernel_rfl) (by kernel_rfl) (fun _ _ _ h => h) (Or.inl ⟨by rfl, fun X _ => by go_simp⟩) hHeld ?_
          simp only [Act.put, List.setIfInBounds_toArray, List.set_cons_zero, List.set_cons_succ]
          have c1 := HC13.out.row d HLD.out
          have b1 := row_beside v13 (be) (cxA d)
          have hef : (be) ≠ (bf) := by omega
          have e1 := HE13.out.beside b1 (fun z => hef z.symm)
          have HWs := Lib.hid (HW13.out.row (by simp) b1)
          refine wpAnyH_ready (rs := [14]) (by kernel_rfl) (by simp) (AllReadyH.cons (o := ⟨none, .store 26 (.tmp 14) (.tmp 77), _, _, _, none⟩) rfl (fun K hK => ?_) AllReadyH.nil)
          rw [if_pos (by rfl)]
          refine store_c rfl rfl rfl HC13.out HLD.out ?_
          refine hK.out _ _ HWs.out.beside (fun hHeld => ?_)
          clear hK K
          generalize v13.setRow (be) (cxA d) = wy at *
          obtain ⟨he2, b2⟩ := laid_e e1 ev
          have HWt := Lib.hid (HWs.out.row (by simp) b2)
          have hc4 := c1.beside b2 hef
          refine wpAnyH_ready (rs := [15]) (by kernel_rfl) (by simp) (AllReadyH.cons (o := ⟨none, .store 37 (.tmp 15) (.tmp 78), _, _, _, none⟩) rfl (fun K hK => ?_) AllReadyH.nil)
          rw [if_pos (by rfl)]
          refine store_e rfl rfl rfl e1 ?_
          refine hK.out _ _ HWt.out.beside (fun hHeld => ?_)
          clear hK K
          generalize wy.setRow (bf) (evA ev) = wx at *
          have HJ4 := Lib.hid (HJE.out wx S2 _ HWt.out)
          have hpe := (HWt.out.choose_spec.2.1 (be) (by simp)).2.2
          have hpf := (HWt.out.choose_spec.2.1 (bf) (by simp)).2.2
          refine wpAnyH_done (by kernel_rfl) ?_ _
          clear HWs HWt c1 b1 e1 b2 hHeld HW13 HC13 HE13
          go_upto_region 15 with (fail)
          refine ret5 (c := d) (ev := ev) ⟨by decide, by decide, by decide, by decide, by decide, by decide, (by decide : 79 < 123), (by decide : 80 < 123), rfl, rfl, rfl⟩ (by decide) rfl hc4.lc he2 HJ4.out.z HJ4.out.e (by omega) (by omega) ?_
          intro w5 k1 k2 k3
          have K1 := Lib.hid k1
          have K2 := Lib.hid k2
          have HW := Lib.hid (HLA.out _ _ _ _ HJ4.out k3)
          clear k1 k2 k3
          go_wp2_with fail
          refine bodyPost_ret (v := .tuple #[cxV (d), .agg (evA (ev)), .bool true]) (back_cex rfl (by rfl) (by rfl) (by rfl) K1.out K2.out) rfl ?_
          rw [HO.out]
          exact ⟨rfl, HW.out⟩
        exact AllReadyH.nil
      exact AllReadyH.nil
    refine AllReadyH.cons (o := ⟨some 15, .alloc 37, _, _, _, none⟩) rfl (fun K hK => ?_) ?_
    · rw [if_pos (by rfl)]
      go_simp
      have HW15 := Lib.hid (HW0.out.alloc (.cells (evA ez) 37))
      have hb := (Below.refl v0.heap.size v0).alloc (Nat.le_refl _) (.cells (evA ez) 37)
      have HE15 := Lib.hid (show evIn (v0.alloc (.cells (evA ez) 37)) v0.heap.size from ⟨_, Bx.new _ _ _⟩)
      refine hK.out _ _ HW15.out.beside (fun hHeld => ?_)
      clear hK K hb
      generalize v0.alloc (.cells (evA ez) 37) = v15 at *
      generalize hbf : v0.heap.size = bf at *
      refine wpAnyH_ready (rs := [8, 12]) (by kernel_rfl) (by simp) ?_
      refine AllReadyH.cons (o := ⟨some 76, .call { callee := .value (.func 68), args := #[.tmp 68, .tmp 69, .tmp 70, .tmp 75], argTypes := _ }, _, _, _, none⟩) rfl (fun K hK => ?_) ?_
      · rw [if_pos (by rfl)]
        go_simp
        refine (HCA.out v15 _ HW15.out).mono ?_
        rintro en v16 ⟨rfl, hw, hk⟩
        have HW16 := Lib.hid hw
        skip
        have HE16 := Lib.hid (show evIn v16 (bf) from by obtain ⟨e0, hcs⟩ := HE15.out; exact ⟨e0, (hk (bf) (by simp)).trans hcs⟩)
        refine hK.out _ _ hw.beside (fun hHeld => ?_)
        clear hK K hw hk
        refine wpAnyH_take (i := 9) (oi := ⟨some 67, .move (.tmp 76), _, _, _, none⟩) (v := .tuple #[cxV d, .agg (evA ev)]) rfl (by kernel_rfl) (by kernel_rfl) (by kernel_rfl) (fun _ _ _ h => h) (Or.inl ⟨by rfl, fun X _ => by go_simp⟩) hHeld ?_
        simp only [Act.put, List.setIfInBounds_toArray, List.set_cons_zero, List.set_cons_succ]
        refine wpAnyH_take (i := 10) (oi := ⟨some 77, .extract (.tmp 67) 0, _, _, _, none⟩) (v := cxV d) rfl (by kernel_rfl) (by kernel_rfl) (by kernel_rfl) (fun _ _ _ h => h) (Or.inl ⟨by rfl, fun X _ => by go_simp⟩) hHeld ?_
        simp only [Act.put, List.setIfInBounds_toArray, List.set_cons_zero, List.set_cons_succ]
        refine wpAnyH_take (i := 11) (oi := ⟨some 78, .extract (.tmp 67) 1, _, _, _, none⟩) (v := .agg (evA ev)) rfl (by kernel_rfl) (by kernel_rfl) (by kernel_rfl) (fun _ _ _ h => h) (Or.inl ⟨by rfl, fun X _ => by go_simp⟩) hHeld ?_
        simp only [Act.put, List.setIfInBounds_toArray, List.set_cons_zero, List.set_cons_succ]
        refine wpAnyH_ready (rs := [12]) (by kernel_rfl) (by simp) ?_
        refine AllReadyH.cons (o := ⟨some 14, .alloc 26, _, _, _, none⟩) rfl (fun K hK => ?_) ?_
        · rw [if_pos (by rfl)]
          go_simp
          have HW17 := Lib.hid (HW16.out.alloc (.cells z18 26))
          have hb := (Below.refl v16.heap.size v16).alloc (Nat.le_refl _) (.cells z18 26)
          have HC17 := Lib.hid (ctxIn.new v16)
          have HE17 := Lib.hid (HE16.out.beside (Beside.of_below hb (fun _ => False)) (fun h => h))
          have hlt17 : (bf) < v16.heap.size := by obtain ⟨_, h⟩ := HE16.out; exact h.lt
          refine hK.out _ _ HW17.out.beside (fun hHeld => ?_)
          clear hK K hb
          generalize v16.alloc (.cells z18 26) = v17 at *
          generalize hbe : v16.heap.size = be at *
          have c1 := HC17.out.row d HLD.out
          have b1 := row_beside v17 (be) (cxA d)
          have hef : (be) ≠ (bf) := by omega
          have e1 := HE17.out.beside b1 (fun z => hef z.symm)
          have HWs := Lib.hid (HW17.out.row (by simp) b1)
          refine wpAnyH_ready (rs := [14]) (by kernel_rfl) (by simp) (AllReadyH.cons (o := ⟨none, .store 26 (.tmp 14) (.tmp 77), _, _, _, none⟩) rfl (fun K hK => ?_) AllReadyH.nil)
          rw [if_pos (by rfl)]
          refine store_c rfl rfl rfl HC17.out HLD.out ?_
          refine hK.out _ _ HWs.out.beside (fun hHeld => ?_)
          clear hK K
          generalize v17.setRow (be) (cxA d) = wy at *
          obtain ⟨he2, b2⟩ := laid_e e1 ev
          have HWt := Lib.hid (HWs.out.row (by simp) b2)
          have hc4 := c1.beside b2 hef
          refine wpAnyH_ready (rs := [15]) (by kernel_rfl) (by simp) (AllReadyH.cons (o := ⟨none, .store 37 (.tmp 15) (.tmp 78), _, _, _, none⟩) rfl (fun K hK => ?_) AllReadyH.nil)
          rw [if_pos (by rfl)]
          refine store_e rfl rfl rfl e1 ?_
          refine hK.out _ _ HWt.out.beside (fun hHeld => ?_)
          clear hK K
          generalize wy.setRow (bf) (evA ev) = wx at *
          have HJ4 := Lib.hid (HJE.out wx S2 _ HWt.out)
          have hpe := (HWt.out.choose_spec.2.1 (be) (by simp)).2.2
          have hpf := (HWt.out.choose_spec.2.1 (bf) (by simp)).2.2
          refine wpAnyH_done (by kernel_rfl) ?_ _
          clear HWs HWt c1 b1 e1 b2 hHeld HW17 HC17 HE17
          go_upto_region 15 with (fail)
          refine ret5 (c := d) (ev := ev) ⟨by decide, by decide, by decide, by decide, by decide, by decide, (by decide : 79 < 123), (by decide : 80 < 123), rfl, rfl, rfl⟩ (by decide) rfl hc4.lc he2 HJ4.out.z HJ4.out.e (by omega) (by omega) ?_
          intro w5 k1 k2 k3
          have K1 := Lib.hid k1
          have K2 := Lib.hid k2
          have HW := Lib.hid (HLA.out _ _ _ _ HJ4.out k3)
          clear k1 k2 k3
          go_wp2_with fail
          refine bodyPost_ret (v := .tuple #[cxV (d), .agg (evA (ev)), .bool true]) (back_cex rfl (by rfl) (by rfl) (by rfl) K1.out K2.out) rfl ?_
          rw [HO.out]
          exact ⟨rfl, HW.out⟩
        exact AllReadyH.nil
      refine AllReadyH.cons (o := ⟨some 14, .alloc 26, _, _, _, none⟩) rfl (fun K hK => ?_) ?_
      · rw [if_pos (by rfl)]
        go_simp
        have HW19 := Lib.hid (HW15.out.alloc (.cells z18 26))
        have hb := (Below.refl v15.heap.size v15).alloc (Nat.le_refl _) (.cells z18 26)
        have HC19 := Lib.hid (ctxIn.new v15)
        have HE19 := Lib.hid (HE15.out.beside (Beside.of_below hb (fun _ => False)) (fun h => h))
        have hlt19 : (bf) < v15.heap.size := by obtain ⟨_, h⟩ := HE15.out; exact h.lt
        refine hK.out _ _ HW19.out.beside (fun hHeld => ?_)
        clear hK K hb
        generalize v15.alloc (.cells z18 26) = v19 at *
        generalize hbe : v15.heap.size = be at *
        refine wpAnyH_ready (rs := [8]) (by kernel_rfl) (by simp) ?_
        refine AllReadyH.cons (o := ⟨some 76, .call { callee := .value (.func 68), args := #[.tmp 68, .tmp 69, .tmp 70, .tmp 75], argTypes := _ }, _, _, _, none⟩) rfl (fun K hK => ?_) ?_
        · rw [if_pos (by rfl)]
          go_simp
          refine (HCA.out v19 _ HW19.out).mono ?_
          rintro en v20 ⟨rfl, hw, hk⟩
          have HW20 := Lib.hid hw
          skip
          have HC20 := Lib.hid (show ctxIn v20 (be) from by obtain ⟨cs, hcs, hs⟩ := HC19.out; exact ⟨cs, (hk (be) (by simp)).trans hcs, hs⟩)
          have HE20 := Lib.hid (show evIn v20 (bf) from by obtain ⟨e0, hcs⟩ := HE19.out; exact ⟨e0, (hk (bf) (by simp)).trans hcs⟩)
          refine hK.out _ _ hw.beside (fun hHeld => ?_)
          clear hK K hw hk
          refine wpAnyH_take (i := 9) (oi := ⟨some 67, .move (.tmp 76), _, _, _, none⟩) (v := .tuple #[cxV d, .agg (evA ev)]) rfl (by kernel_rfl) (by kernel_rfl) (by kernel_rfl) (fun _ _ _ h => h) (Or.inl ⟨by rfl, fun X _ => by go_simp⟩) hHeld ?_
          simp only [Act.put, List.setIfInBounds_toArray, List.set_cons_zero, List.set_cons_succ]
          refine wpAnyH_take (i := 10) (oi := ⟨some 77, .extract (.tmp 67) 0, _, _, _, none⟩) (v := cxV d) rfl (by kernel_rfl) (by kernel_rfl) (by kernel_rfl) (fun _ _ _ h => h) (Or.inl ⟨by rfl, fun X _ => by go_simp⟩) hHeld ?_
          simp only [Act.put, List.setIfInBounds_toArray, List.set_cons_zero, List.set_cons_succ]
          refine wpAnyH_take (i := 11) (oi := ⟨some 78, .extract (.tmp 67) 1, _, _, _, none⟩) (v := .agg (evA ev)) rfl (by kernel_rfl) (by kernel_rfl) (by kernel_rfl) (fun _ _ _ h => h) (Or.inl ⟨by rfl, fun X _ => by go_simp⟩) hHeld ?_
          simp only [Act.put, List.setIfInBounds_toArray, List.set_cons_zero, List.set_cons_succ]
          have c1 := HC20.out.row d HLD.out
          have b1 := row_beside v20 (be) (cxA d)
          have hef : (be) ≠ (bf) := by omega
          have e1 := HE20.out.beside b1 (fun z => hef z.symm)
          have HWs := Lib.hid (HW20.out.row (by simp) b1)
          refine wpAnyH_ready (rs := [14]) (by kernel_rfl) (by simp) (AllReadyH.cons (o := ⟨none, .store 26 (.tmp 14) (.tmp 77), _, _, _, none⟩) rfl (fun K hK => ?_) AllReadyH.nil)
          rw [if_pos (by rfl)]
          refine store_c rfl rfl rfl HC20.out HLD.out ?_
          refine hK.out _ _ HWs.out.beside (fun hHeld => ?_)
          clear hK K
          generalize v20.setRow (be) (cxA d) = wy at *
          obtain ⟨he2, b2⟩ := laid_e e1 ev
          have HWt := Lib.hid (HWs.out.row (by simp) b2)
          have hc4 := c1.beside b2 hef
          refine wpAnyH_ready (rs := [15]) (by kernel_rfl) (by simp) (AllReadyH.cons (o := ⟨none, .store 37 (.tmp 15) (.tmp 78), _, _, _, none⟩) rfl (fun K hK => ?_) AllReadyH.nil)
          rw [if_pos (by rfl)]
          refine store_e rfl rfl rfl e1 ?_
          refine hK.out _ _ HWt.out.beside (fun hHeld => ?_)
          clear hK K
          generalize wy.setRow (bf) (evA ev) = wx at *
          have HJ4 := Lib.hid (HJE.out wx S2 _ HWt.out)
          have hpe := (HWt.out.choose_spec.2.1 (be) (by simp)).2.2
          have hpf := (HWt.out.choose_spec.2.1 (bf) (by simp)).2.2
          refine wpAnyH_done (by kernel_rfl) ?_ _
          clear HWs HWt c1 b1 e1 b2 hHeld HW20 HC20 HE20
          go_upto_region 15 with (fail)
          refine ret5 (c := d) (ev := ev) ⟨by decide, by decide, by decide, by decide, by decide, by decide, (by decide : 79 < 123), (by decide : 80 < 123), rfl, rfl, rfl⟩ (by decide) rfl hc4.lc he2 HJ4.out.z HJ4.out.e (by omega) (by omega) ?_
          intro w5 k1 k2 k3
          have K1 := Lib.hid k1
          have K2 := Lib.hid k2
          have HW := Lib.hid (HLA.out _ _ _ _ HJ4.out k3)
          clear k1 k2 k3
          go_wp2_with fail
          refine bodyPost_ret (v := .tuple #[cxV (d), .agg (evA (ev)), .bool true]) (back_cex rfl (by rfl) (by rfl) (by rfl) K1.out K2.out) rfl ?_
          rw [HO.out]
          exact ⟨rfl, HW.out⟩
        exact AllReadyH.nil
      exact AllReadyH.nil
    exact AllReadyH.nil
  · have hno : isJump op = false := by simp [isJump, h13, h14, h17, h18, h15', h16]
    have HO := Lib.hid (show jumpD ss c was ⟨op, a, b, k, n⟩ = (c, ez, false, ss) from jumpD_none (h := hno) ..)
    have g13 : (op == 13) = false := by simpa using h13
    have g14 : (op == 14) = false := by simpa using h14
    have g15 : (op == 15) = false := by simpa using h15'
    have g16 : (op == 16) = false := by simpa using h16
    have g17 : (op == 17) = false := by simpa using h17
    have g18 : (op == 18) = false := by simpa using h18
    clear h13 h14 h15' h16 h17 h18 hno
    go_upto_region 27 with (fail)
    clear q0 q1 q4 r0 r15 rp fp
    refine ret5 (c := c) (ev := ez) ⟨by decide, by decide, by decide, by decide, by decide, by decide, (by decide : 121 < 123), (by decide : 122 < 123), rfl, rfl, rfl⟩ (by decide) rfl HJ1.out.x.lc HJ1.out.n HJ1.out.z HJ1.out.e (by omega) (by omega) ?_
    intro w5 k1 k2 k3
    have K1 := Lib.hid k1
    have K2 := Lib.hid k2
    have HW := Lib.hid (HLA.out _ _ _ _ HJ1.out k3)
    clear k1 k2 k3
    go_wp2_with fail
    refine bodyPost_ret (v := .tuple #[cxV (c), .agg (evA (ez)), .bool false]) (back_cex rfl (by rfl) (by rfl) (by rfl) K1.out K2.out) rfl ?_
    rw [HO.out]
    exact ⟨rfl, HW.out⟩
end Go.Proofs.YtfkhfjefddgkoaaDoor
