/-
  The document's machine: calls.
  A memory of the document's beside boxes that are made in a drawn region.
-/
import Derived.Test.YtfkhfjefddgkoaaDoorZRc
namespace Go.Proofs.YtfkhfjefddgkoaaDoor
open Go.RowKit

theorem went_laid {w w1 w2 w3 : World} {B g : Nat} {F p : Nat → Prop} {s1 s2 : List Seg} (hF : Mies w B g F s1) (hb : Below w.heap.size w w1) (h : WentM w1 w2 B g F s2) (h3 : Beside w2 w3 p) (hp : ∀ k, p k → w.heap.size ≤ k ∧ (k < w1.heap.size ∨ w2.heap.size ≤ k)) : WentM w w3 B g F s2 := by
  obtain ⟨F', m, b, kk⟩ := h
  have s1 := hb.size
  have hno : ∀ k, F' k → ¬ p k := fun k hf hq => by
    have h1 := hp k hq
    rcases kk k hf with h | h
    · have := (hF.lt h).2
      omega
    · have := (m.lt hf).2
      omega
  exact ⟨F', m.beside h3 hno, ⟨h3.os.trans (b.os.trans hb.os), h3.tape.trans (b.tape.trans hb.tape), h3.output.trans (b.output.trans hb.output), Nat.le_trans hb.size (Nat.le_trans b.size h3.size),
    fun k hk hn => (h3.block k (Nat.lt_of_lt_of_le (Nat.lt_of_lt_of_le hk hb.size) b.size) fun hq => by have := (hp k hq).1; omega).trans ((b.block k (Nat.lt_of_lt_of_le hk hb.size) hn).trans (hb.block k hk))⟩,
    fun k hf => (kk k hf).imp id fun h => Nat.le_trans hb.size h⟩
theorem WentM.quiet {w w1 w2 : World} {B g : Nat} {F : Nat → Prop} {s2 : List Seg} (h : WentM w w1 B g F s2) (hb : Below w1.heap.size w1 w2) : WentM w w2 B g F s2 := by
  obtain ⟨F', m, b, kk⟩ := h
  exact ⟨F', m.below hb, ⟨hb.os.trans b.os, hb.tape.trans b.tape, hb.output.trans b.output, Nat.le_trans b.size hb.size, fun k hk hn => (hb.block k (Nat.lt_of_lt_of_le hk b.size)).trans (b.block k hk hn)⟩, kk⟩
theorem WentM.keeps {w w1 : World} {B g : Nat} {F : Nat → Prop} {s2 : List Seg} (h : WentM w w1 B g F s2) : Beside w w1 F := by
  obtain ⟨_, _, b, _⟩ := h
  exact b
set_option maxRecDepth 100000 in
set_option maxHeartbeats 2000000 in
theorem called_any {w : World} {B g : Nat} {F : Nat → Prop} {c was : Cx} {ss : List Seg} (h : Mies w B g F ss) (hl : c.rs.length = 16) (hw : was.rs.length = 16) (to : Int) :
    Calls Tryd.prog 68 #[cxV c, cxV was, .pointer (some ⟨g, 0, none⟩), .int .i64 to] w fun en w' => en = .returned (.tuple #[cxV (outD (callM ss c to).1 (callM ss c to).2.1 was).1, .agg (evA (outD (callM ss c to).1 (callM ss c to).2.1 was).2)]) ∧ WentM w w' B g F (callM ss c to).2.2 := by
  go_enter Tryd.func68, Tryd.ntmps68
  go_upto_region 1 with (fail)
  obtain ⟨h0, h1, h2, h3, hb⟩ := al_four w (cxA c) (cxA was) z18 (evA ez) 26 26 26 37
  change Code.wp _ _ _ _ (al (al (al (al w (cxA c) 26) (cxA was) 26) z18 26) (evA ez) 37)
  have hm := h.below hb
  have hnF : ∀ k, w.heap.size ≤ k → ¬ F k := fun k hk hf => by have := (h.lt hf).2; omega
  generalize al (al (al (al w (cxA c) 26) (cxA was) 26) z18 26) (evA ez) 37 = w1 at *
  have HSW := Lib.hid (SetWord_m c.pc (w64_i64 (c.reg 15 - 8)) (p := 2) (by omega) hm)
  have HCM := Lib.hid (show callM ss c to = ((storeS ss (w64 (c.reg 15 - 8)) (digs c.pc 8) 2).1, (c.put 15 (w64 (c.reg 15 - 8))).to to, (storeS ss (w64 (c.reg 15 - 8)) (digs c.pc 8) 2).2) from rfl)
  have hz1 := h3.lt
  have HX1 := Lib.hid (show Cb w1 w.heap.size c from ⟨h0, hl⟩)
  have HY1 := Lib.hid (show Cb w1 (w.heap.size + 1) was from ⟨h1, hw⟩)
  have HZ1 := Lib.hid (show ctxIn w1 (w.heap.size + 1 + 1) from ⟨_, h2, rfl⟩)
  have HE1 := Lib.hid (show evIn w1 (w.heap.size + 1 + 1 + 1) from ⟨_, h3⟩)
  have HLN := Lib.hid hl
  have HLW := Lib.hid hw
  have HWL := Lib.hid (fun (w2 w3 : World) (p : Nat → Prop) (s2 : List Seg) (h2 : WentM w1 w2 B g F s2) => went_laid (w3 := w3) (p := p) h hb h2)
  have r0 := HX1.out.at_ 15 (by omega)
  have r1 := HX1.out.pc
  simp only [Nat.reduceAdd] at r0
  rw [show ((15 : Nat) : Int) = 15 from rfl] at r0
  clear h0 h1 h2 h3 hb hm h hl hw
  go_upto_region 2 with (first
    | (go_at_call 32; refine (HSW.out).mono ?_; rintro en w2 ⟨rfl, hw2⟩; have HW2 := Lib.hid hw2; have HX2 := Lib.hid (HX1.out.beside hw2.keeps (hnF _ (Nat.le_refl _))); have HY2 := Lib.hid (HY1.out.beside hw2.keeps (hnF _ (by omega))); have HZ2 := Lib.hid (HZ1.out.beside hw2.keeps (hnF _ (by omega))); have HE2 := Lib.hid (HE1.out.beside hw2.keeps (hnF _ (by omega))); clear hw2))
  have hz2 : w1.heap.size ≤ w2.heap.size := HW2.out.keeps.size
  clear HX1 HY1 HZ1 HE1 HSW r0 r1 hnF
  by_cases hg : (storeS ss (w64 (c.reg 15 - 8)) (digs c.pc 8) 2).1 = 0
  · have HO := Lib.hid (show outD (callM ss c to).1 (callM ss c to).2.1 was = ((c.put 15 (w64 (c.reg 15 - 8))).to to, ez) by rw [HCM.out, hg]; rfl)
    rw [hg]
    have r0 := HX2.out.at_ 15 (by omega)
    have f0 := HX2.out.fro 17
    have f1 := HX2.out.fro 0
    have r1 := HX2.out.pc
    simp only [Nat.reduceAdd] at r0
    rw [show ((15 : Nat) : Int) = 15 from rfl] at r0
    go_upto_region 6 with (fail)
    have hx3 := (HX2.out.set 15 (w64 (c.reg 15 - 8))).jump to
    have hb3 : Beside w2 ((w2.setCell ⟨w.heap.size, 2 + 15, none⟩ (.int .i64 (w64 (c.reg 15 - 8)))).setCell ⟨w.heap.size, 0, none⟩ (.int .i64 to)) (fun k => k = w.heap.size) := by
      have b1 := beside_cell w2 w.heap.size (2 + 15) (.int .i64 (w64 (c.reg 15 - 8)))
      have b2 := beside_cell (w2.setCell ⟨w.heap.size, 2 + 15, none⟩ (.int .i64 (w64 (c.reg 15 - 8)))) w.heap.size 0 (.int .i64 to)
      exact ⟨b2.os.trans b1.os, b2.tape.trans b1.tape, b2.output.trans b1.output, Nat.le_trans b1.size b2.size, fun k hk hn => (b2.block k (Nat.lt_of_lt_of_le hk b1.size) hn).trans (b1.block k hk hn)⟩
    change Code.wp _ _ _ _ ((w2.setCell ⟨w.heap.size, 2 + 15, none⟩ (.int .i64 (w64 (c.reg 15 - 8)))).setCell ⟨w.heap.size, 0, none⟩ (.int .i64 to))
    rw [show ((15 : Nat) : Int) = 15 from rfl] at hx3
    generalize (w2.setCell ⟨w.heap.size, 2 + 15, none⟩ (.int .i64 (w64 (c.reg 15 - 8)))).setCell ⟨w.heap.size, 0, none⟩ (.int .i64 to) = w3 at *
    have HLP := Lib.hid (show ((c.put 15 (w64 (c.reg 15 - 8))).to to).rs.length = 16 by simp [Cx.put, Cx.to, HLN.out])
    generalize hd : (c.put 15 (w64 (c.reg 15 - 8))).to to = d at *
    have HLC := Lib.hid hx3.lc
    have hz3 := HZ2.out.beside hb3 (by omega)
    have he3 := HE2.out.beside hb3 (by omega)
    obtain ⟨he4, hc4, hd4, hb4⟩ := laid_in hz3 he3 (by omega) d ez HLP.out
    have HCI := Lib.hid hz3
    have HEI := Lib.hid he4
    have K1 := Lib.hid hc4
    have K2 := Lib.hid hd4
    have HWF := Lib.hid (HWL.out w2 _ (fun k => k = w.heap.size ∨ k = w.heap.size + 1 + 1 ∨ k = w.heap.size + 1 + 1 + 1) _ HW2.out (show Beside w2 ((w3.setRow (w.heap.size + 1 + 1) (cxA d)).setRow (w.heap.size + 1 + 1 + 1) (evA ez)) _ from ⟨hb4.os.trans hb3.os, hb4.tape.trans hb3.tape, hb4.output.trans hb3.output, Nat.le_trans hb3.size hb4.size, fun k hk hn => (hb4.block k (Nat.lt_of_lt_of_le hk hb3.size) (by omega)).trans (hb3.block k hk (by omega))⟩) (fun k hk => by omega))
    clear hx3 hb3 hz3 he3 he4 hc4 hd4 hb4 r0 f0 r1 f1 hd
    go_upto_region 99 with (first
      | ((with_reducible refine load_c (by rfl) ?_ HLC.out ?_); (· rfl))
      | ((with_reducible refine store_c (c := d) (by rfl) ?_ ?_ HCI.out HLP.out ?_); (· rfl); (· rfl))
      | ((with_reducible refine store_e (e := ez) (by rfl) ?_ ?_ HEI.out ?_); (· rfl); (· rfl)))
    refine bodyPost_ret (v := .tuple #[cxV d, .agg (evA ez)]) (back_ce rfl (by rfl) (by rfl) K1.out K2.out) rfl ?_
    rw [HO.out]
    exact ⟨rfl, HWF.out⟩
  · have ho : outD (callM ss c to).1 (callM ss c to).2.1 was = (was, trapE (storeS ss (w64 (c.reg 15 - 8)) (digs c.pc 8) 2).1) := if_neg hg
    have hg2 : ((storeS ss (w64 (c.reg 15 - 8)) (digs c.pc 8) 2).1 == 0) = false := by simpa using hg
    have hg3 : ((storeS ss (w64 (c.reg 15 - 8)) (digs c.pc 8) 2).1 != 0) = true := by simpa using hg
    have HO := Lib.hid ho
    have HWS := Lib.hid (show ∀ X, WentM w X B g F (storeS ss (w64 (c.reg 15 - 8)) (digs c.pc 8) 2).2 → WentM w X B g F (callM ss c to).2.2 from fun X hX => hX)
    clear HCM hg ho
    generalize (storeS ss (w64 (c.reg 15 - 8)) (digs c.pc 8) 2).1 = er at *
    generalize (storeS ss (w64 (c.reg 15 - 8)) (digs c.pc 8) 2).2 = S2 at *
    have HT := Lib.hid (trapped_any was HLW.out er w2)
    have HLC := Lib.hid HY2.out.lc
    go_upto_region 99 with (first
      | ((with_reducible refine load_c (by rfl) ?_ HLC.out ?_); (· rfl))
      | (go_at_call 28; refine (HT.out).mono ?_; rintro en w3 ⟨rfl, hb3⟩; have HW3 := Lib.hid (HW2.out.quiet hb3); have HZ3 := Lib.hid (HZ2.out.beside (Beside.of_below hb3 (fun _ => False)) (fun h => h)); have HL := Lib.hid (laid_in HZ3.out (HE2.out.beside (Beside.of_below hb3 (fun _ => False)) (fun h => h)) (by omega) was (trapE er) HLW.out); have HEI := Lib.hid HL.out.1; clear hb3 HT)
      | ((with_reducible refine store_c (c := was) (by rfl) ?_ ?_ HZ3.out HLW.out ?_); (· rfl); (· rfl))
      | ((with_reducible refine store_e (e := trapE er) (by rfl) ?_ ?_ HEI.out ?_); (· rfl); (· rfl)))
    refine bodyPost_ret (v := .tuple #[cxV was, .agg (evA (trapE er))]) (back_ce rfl (by rfl) (by rfl) HL.out.2.1 HL.out.2.2.1) rfl ?_
    rw [HO.out]
    exact ⟨rfl, HWS.out _ (HWL.out w3 _ _ _ HW3.out HL.out.2.2.2 fun k hk => by omega)⟩
end Go.Proofs.YtfkhfjefddgkoaaDoor

namespace Go.Proofs.YtfkhfjefddgkoaaDoor
open Go.RowKit

/-- A memory as it is behind w1, beside the boxes P that are younger than w1. -/
def Wd (w1 wz : World) (B g : Nat) (F : Nat → Prop) (S : List Seg) (P : Nat → Prop) : Prop := ∃ F', Mies wz B g F' S ∧ (∀ k, P k → ¬ F' k ∧ k < wz.heap.size ∧ w1.heap.size ≤ k) ∧ Beside w1 wz F ∧ ∀ k, F' k → F k ∨ w1.heap.size ≤ k
section
variable {w1 wz wy : World} {B g : Nat} {F P : Nat → Prop} {ss S : List Seg}
theorem Wd.start (h : Mies w1 B g F S) : Wd w1 w1 B g F S (fun _ => False) := ⟨F, h, fun _ hk => hk.elim, Beside.refl _ _, fun _ hk => .inl hk⟩
theorem Wd.quiet (h : Wd w1 wz B g F S P) (hb : Below wz.heap.size wz wy) : Wd w1 wy B g F S P := by
  obtain ⟨F', m, p, b, kk⟩ := h
  exact ⟨F', m.below hb, fun k hk => ⟨(p k hk).1, Nat.lt_of_lt_of_le (p k hk).2.1 hb.size, (p k hk).2.2⟩, ⟨hb.os.trans b.os, hb.tape.trans b.tape, hb.output.trans b.output, Nat.le_trans b.size hb.size, fun k hk hn => (hb.block k (Nat.lt_of_lt_of_le hk b.size)).trans (b.block k hk hn)⟩, kk⟩
theorem Wd.alloc (h : Wd w1 wz B g F S P) (o : Obj) : Wd w1 (wz.alloc o) B g F S (fun k => P k ∨ k = wz.heap.size) := by
  have hb : Below wz.heap.size wz (wz.alloc o) := (Below.refl _ _).alloc (Nat.le_refl _) _
  have hs : (wz.alloc o).heap.size = wz.heap.size + 1 := by simp
  have h2 := h.quiet hb
  obtain ⟨F', m, p, b, kk⟩ := h
  refine ⟨F', m.below hb, fun k hk => ?_, h2.choose_spec.2.2.1, kk⟩
  rcases hk with hk | rfl
  · exact ⟨(p k hk).1, by have := (p k hk).2.1; omega, (p k hk).2.2⟩
  · exact ⟨fun hf => by have := (m.lt hf).2; omega, by omega, b.size⟩
theorem Wd.row (h : Wd w1 wz B g F S P) {e : Nat} (he : P e) (hb : Beside wz wy (fun k => k = e)) : Wd w1 wy B g F S P := by
  obtain ⟨F', m, p, b, kk⟩ := h
  have hp := p e he
  refine ⟨F', m.beside hb fun k hk e' => hp.1 (e' ▸ hk), fun k hk => ⟨(p k hk).1, Nat.lt_of_lt_of_le (p k hk).2.1 hb.size, (p k hk).2.2⟩, ⟨hb.os.trans b.os, hb.tape.trans b.tape, hb.output.trans b.output, Nat.le_trans b.size hb.size, fun k hk hn => (hb.block k (Nat.lt_of_lt_of_le hk b.size) (by omega)).trans (b.block k hk hn)⟩, kk⟩
theorem Wd.went (h : Wd w1 wz B g F S P) : WentM w1 wz B g F S := by
  obtain ⟨F', m, _, b, kk⟩ := h
  exact ⟨F', m, b, kk⟩
theorem Wd.call {c was : Cx} (h : Wd w1 wz B g F ss P) (hl : c.rs.length = 16) (hw : was.rs.length = 16) (to : Int) :
    Calls Tryd.prog 68 #[cxV c, cxV was, .pointer (some ⟨g, 0, none⟩), .int .i64 to] wz fun en w' => en = .returned (.tuple #[cxV (outD (callM ss c to).1 (callM ss c to).2.1 was).1, .agg (evA (outD (callM ss c to).1 (callM ss c to).2.1 was).2)]) ∧ Wd w1 w' B g F (callM ss c to).2.2 P ∧ Kept P wz w' := by
  obtain ⟨F', m, p, b, kk⟩ := h
  refine (called_any m hl hw to).mono fun en w' ⟨he, h2⟩ => ?_
  obtain ⟨F2, m2, b2, k2⟩ := h2
  refine ⟨he, ⟨F2, m2, fun k hk => ⟨fun hf => ?_, Nat.lt_of_lt_of_le (p k hk).2.1 b2.size, (p k hk).2.2⟩, ⟨b2.os.trans b.os, b2.tape.trans b.tape, b2.output.trans b.output, Nat.le_trans b.size b2.size, fun k hk hn => (b2.block k (Nat.lt_of_lt_of_le hk b.size) fun hf => ?_).trans (b.block k hk hn)⟩, fun k hf => ?_⟩, fun k hk => b2.block k (p k hk).2.1 (p k hk).1⟩
  · rcases k2 k hf with h | h
    · exact (p k hk).1 h
    · have := (p k hk).2.1
      omega
  · rcases kk k hf with h | h
    · exact hn h
    · omega
  · rcases k2 k hf with h | h
    · exact kk k h
    · exact .inr (Nat.le_trans b.size h)
theorem Wd.weak (h : Wd w1 wz B g F S P) {P' : Nat → Prop} (hp : ∀ k, P' k → P k) : Wd w1 wz B g F S P' := by
  obtain ⟨F', m, p, b, kk⟩ := h
  exact ⟨F', m, fun k hk => p k (hp k hk), b, kk⟩
theorem Wd.beside (h : Wd w1 wz B g F S P) : Beside w1 wz F := h.went.keeps
end
theorem yields_c {ops : Array Oper} {S : World → Prop} {op : Oper} {a : Act} {x : Tmp} {b : Nat} {c : Cx} (hl : c.rs.length = 16) (hw : Region.wanted op (yielded ops a.tmps) = true) (ho : op.op = .load 26 (.tmp x)) (hx : a.eval (.tmp x) = .pointer (some ⟨b, 0, none⟩)) (hS : ∀ w, S w → Lc w b c) : YieldsIf Tryd.prog ops S op (cxV c) a :=
  yieldsIf_load_mid hw 26 _ ho b 0 hx (cxC c) _ (fun w h => (hS w h).at_) Tryd.underlying26 rfl (by rw [cxC_len hl]; exact Tryd.info_ctx)
end Go.Proofs.YtfkhfjefddgkoaaDoor
