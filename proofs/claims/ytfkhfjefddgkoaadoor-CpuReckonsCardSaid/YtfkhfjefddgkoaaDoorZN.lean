/-
  CpuReckons, walked.
-/
import Derived.Test.YtfkhfjefddgkoaaDoorZSBs
namespace Go.Proofs.YtfkhfjefddgkoaaDoor
open Go.RowKit

theorem Wq.poke {w0 w1 w2 : World} {g b a0 m sc : Nat} {ss : List Seg} {a : Int} {ms : Str} {Q : Nat → Prop} (h : Wq w0 w1 g ss Q) (hb : Below w1.heap.size w1 w2) (hs : Src w2 (fun _ => True) (some ⟨b, a0, none⟩) m sc (cells ms)) (h1 : w1.heap.size ≤ b) (hm : 0 < m) (ha : I64 a) :
    Calls Tryd.prog 21 #[.pointer (some ⟨g, 0, none⟩), .int .i64 a, .slice (some ⟨b, a0, none⟩) m sc] w2 fun e w' => e = .returned (.int .i64 (storeS ss a ms 0).1) ∧ Wq w0 w' g (storeS ss a ms 0).2 Q ∧ ∀ k, Q k → w'.heap[k]? = w1.heap[k]? := by
  have h2 : b < w2.heap.size := hs.lt.blk _ rfl hm
  have hs2 : Src w2 (fun q => q = b) (some ⟨b, a0, none⟩) m sc (cells ms) := ⟨hs.len, hs.nil, hs.cap, fun ad h _ => by cases h; rfl, hs.at_⟩
  have hq : Wq w0 w2 g ss (fun k => Q k ∨ k = b) := (h.quiet hb).weak fun k hk => hk.imp id fun e => by subst e; exact ⟨h1, h2⟩
  obtain ⟨_, F, _, hQ⟩ := h
  exact (hq.act fun F hl hn => Poke_s ha hl hs2 fun q hq => hn q (.inr hq)).mono fun e w' hh => ⟨hh.1, hh.2.1.weak fun _ hk => .inl hk, fun k hk => (hh.2.2 k (.inl hk)).trans (hb.block k (hQ k hk).2)⟩
def recI : Nat → Ins
  | 0 => ⟨3, 3, 1, 2, 0⟩
  | 1 => ⟨4, 4, 3, 2, 0⟩
  | 2 => ⟨5, 5, 1, 2, 0⟩
  | 3 => ⟨7, 6, 1, 2, 0⟩
  | 4 => ⟨7, 7, 2, 1, 0⟩
  | _ => ⟨8, 8, 1, 2, 0⟩
def recS : Nat → List Seg
  | 0 => [newS 4096 64 7]
  | k + 1 => (storeS (recS k) (4096 + 8 * (k : Int)) (Cod.bytesOf (recI k)) 0).2
def recC (a b : Int) : Cx := ⟨4096, 0, [0, a, b, 0, 0, 0, 0, 0, 0, 0, 0, 0, 0, 0, 0, 0]⟩
theorem rec_plain (a b : Int) : (runM 6 0 (recS 6) (recC a b)).1 = ⟨6, 0, 0, 0, 0⟩ ∧ (runM 6 0 (recS 6) (recC a b)).2.1 = 6 ∧
    (runM 6 0 (recS 6) (recC a b)).2.2.1 = ⟨4144, 0, [0, a, b, w64 (a + b), w64 (w64 (a + b) - b), w64 (a * b), if a < b then 1 else 0, if b < a then 1 else 0, if a = b then 1 else 0, 0, 0, 0, 0, 0, 0, 0]⟩ := by
  refine ⟨by kernel_rfl, by kernel_rfl, by kernel_rfl⟩
theorem ctxIn.alloc {w : World} {b : Nat} (h : ctxIn w b) (o : Obj) : ctxIn (w.alloc o) b := h.imp fun _ hc => ⟨hc.1.alloc o, hc.2⟩
theorem wpl_store_e {ops : Array Oper} {rest : List Oper} {u v : Tmp} {q : TypeId} {p : String} {af : Array Edge} {a : Act} {w : World} {Q : Exit → Act → World → Prop} {f : Nat} {e : Ev} (he : evIn w f) (hu : a.eval (.tmp u) = .pointer (some ⟨f, 0, none⟩)) (hv : a.eval (.tmp v) = .agg (evA e))
    (h : wpList Tryd.prog ops Q rest a (w.setRow f (evA e))) : wpList Tryd.prog ops Q (⟨none, .store 37 (.tmp u) (.tmp v), q, p, af, none⟩ :: rest) a w :=
  wpList_plain rfl fun _ hK => store_e rfl hu hv he (hK _ _ h)
/-- A context and an event are laid into their boxes, the event's new. -/
theorem laid_ce (w : World) (b : Nat) (c : Cx) (e : Ev) (hb : ctxIn w b) (hl : c.rs.length = 16) :
    evIn ((w.alloc (.cells (evA ⟨0, 0, 0, 0, 0⟩) 37)).setRow b (cxA c)) w.heap.size ∧ Cb (((w.alloc (.cells (evA ⟨0, 0, 0, 0, 0⟩) 37)).setRow b (cxA c)).setRow w.heap.size (evA e)) b c ∧ Bx (((w.alloc (.cells (evA ⟨0, 0, 0, 0, 0⟩) 37)).setRow b (cxA c)).setRow w.heap.size (evA e)) w.heap.size (evA e) 37 ∧
      Beside w (((w.alloc (.cells (evA ⟨0, 0, 0, 0, 0⟩) 37)).setRow b (cxA c)).setRow w.heap.size (evA e)) (fun k => k = b) := by
  have hlt : b < w.heap.size := by obtain ⟨_, hc, _⟩ := hb; exact hc.lt
  have h0 := Bx.new w (evA ⟨0, 0, 0, 0, 0⟩) 37
  have h1 := hb.alloc (.cells (evA ⟨0, 0, 0, 0, 0⟩) 37)
  have ba : Below w.heap.size w (w.alloc (.cells (evA ⟨0, 0, 0, 0, 0⟩) 37)) := (Below.refl _ _).alloc (Nat.le_refl _) _
  generalize w.alloc (.cells (evA ⟨0, 0, 0, 0, 0⟩) 37) = w1 at *
  have b1 := row_beside w1 b (cxA c)
  have c1 := h1.row c hl
  have e1 : Bx (w1.setRow b (cxA c)) w.heap.size (evA ⟨0, 0, 0, 0, 0⟩) 37 := h0.beside b1 (by omega)
  generalize w1.setRow b (cxA c) = w2 at *
  have b2 := row_beside w2 w.heap.size (evA e)
  refine ⟨⟨_, e1⟩, c1.beside b2 (by omega), setRow_heap w2 w.heap.size _ _ 37 (0, 0) e1, ⟨b2.os.trans (b1.os.trans ba.os), b2.tape.trans (b1.tape.trans ba.tape), b2.output.trans (b1.output.trans ba.output), Nat.le_trans ba.size (Nat.le_trans b1.size b2.size), fun k hk hp => ?_⟩⟩
  have s1 := ba.size
  have s2 := b1.size
  exact ((b2.block k (by omega) (by omega)).trans (b1.block k (by omega) hp)).trans (ba.block k hk)
theorem recC_reg (a b : Int) (ha : I64 a) (hb : I64 b) : ∀ r, I64 ((recC a b).reg r) := fun r => by
  show I64 (([0, a, b, 0, 0, 0, 0, 0, 0, 0, 0, 0, 0, 0, 0, 0] : List Int).getD r.toNat 0)
  generalize r.toNat = k
  rcases (by omega : k = 1 ∨ k = 2 ∨ (k ≠ 1 ∧ k ≠ 2)) with rfl | rfl | ⟨h1, h2⟩
  · exact ha
  · exact hb
  · have h0 : ([0, a, b, 0, 0, 0, 0, 0, 0, 0, 0, 0, 0, 0, 0, 0] : List Int).getD k 0 = 0 := by
      match k, h1, h2 with
      | 0, _, _ => rfl
      | k + 3, _, _ =>
        show ([0, 0, 0, 0, 0, 0, 0, 0, 0, 0, 0, 0, 0] : List Int).getD k 0 = 0
        rw [List.getD_eq_getElem?_getD, show ([0, 0, 0, 0, 0, 0, 0, 0, 0, 0, 0, 0, 0] : List Int) = List.replicate 13 0 from rfl, List.getElem?_replicate]
        split <;> rfl
    rw [h0]
    exact i64_zero
def recD (a b x y z : Int) : Cx := ⟨4144, 0, [0, a, b, w64 (a + b), w64 (w64 (a + b) - b), w64 (a * b), x, y, z, 0, 0, 0, 0, 0, 0, 0]⟩
theorem Wq.recRun {w0 w : World} {g : Nat} {Q : Nat → Prop} (a b x y z : Int) (ha : I64 a) (hb : I64 b) (h : Wq w0 w g (recS 6) Q) (hs : Cod.Shps w0) (hx : (if a < b then (1 : Int) else 0) = x) (hy : (if b < a then (1 : Int) else 0) = y) (hz : (if a = b then (1 : Int) else 0) = z) :
    Calls Tryd.prog 15 #[cxV (recC a b), .pointer (some ⟨g, 0, none⟩), .int .i64 6] w fun en w' => en = .returned (.tuple #[cxV (recD a b x y z), .agg #[.int .i64 6, .int .i64 0, .int .i64 0, .int .i64 0, .int .i64 0], .int .i64 6]) ∧ Below w0.heap.size w0 w' ∧ ∀ k, Q k → w'.heap[k]? = w.heap[k]? := by
  obtain ⟨e1, e2, e3⟩ := rec_plain a b
  have hS := h.ws.shps hs
  have := h.act (f := 15) (args := #[cxV (recC a b), .pointer (some ⟨g, 0, none⟩), .int .i64 6]) fun F hl _ => Run_any (c := recC a b) 6 hl ⟨rfl, by show I64 4096; unfold I64; omega, i64_zero, recC_reg a b ha hb⟩ hS hs.pos (by unfold I64; omega)
  rw [show (6 : Int).toNat = 6 from rfl, e1, e2, e3, hx, hy, hz] at this
  exact this.mono fun e w' hh => ⟨hh.1, hh.2.1.1, hh.2.2⟩
def codeA : Array Value := #[.int .i64 3, .int .i64 3, .int .i64 1, .int .i64 2, .int .i64 0, .int .i64 4, .int .i64 4, .int .i64 3, .int .i64 2, .int .i64 0, .int .i64 5, .int .i64 5, .int .i64 1, .int .i64 2, .int .i64 0, .int .i64 7, .int .i64 6, .int .i64 1, .int .i64 2, .int .i64 0, .int .i64 7, .int .i64 7, .int .i64 2, .int .i64 1, .int .i64 0, .int .i64 8, .int .i64 8, .int .i64 1, .int .i64 2, .int .i64 0]
/-- Where the loop over the code stands. -/
def RecAt (w wr : World) (g gc : Nat) (ss : List Seg) : Prop := Wq w wr g ss (fun k => k = gc) ∧ Bx wr gc codeA 51
set_option maxRecDepth 100000 in
set_option maxHeartbeats 8000000 in
theorem reckons_any (a b x y z : Int) (ha : I64 a) (hb : I64 b) (w : World) (hs : Cod.Shps w) (hx : (if a < b then (1 : Int) else 0) = x) (hy : (if b < a then (1 : Int) else 0) = y) (hz : (if a = b then (1 : Int) else 0) = z)
    (hsum : wrap64 (wrap64 (x + y) + z) = 1) (hzb : (z == 1) = (a == b)) (hxb : (x == 1) = decide (a < b)) : Calls Tryd.prog 9 #[.int .i64 a, .int .i64 b] w fun e w' => e = .returned (.bool true) ∧ Below w.heap.size w w' := by
  have HA := Lib.hid (awake6_any w hs)
  have HS := Lib.hid hs
  have HRR := Lib.hid (fun (g : Nat) (W : World) (Q : Nat → Prop) (h : Wq w W g (recS 6) Q) => h.recRun a b x y z ha hb hs hx hy hz)
  have HZB := Lib.hid hzb
  have HXB := Lib.hid hxb
  clear hs hzb hxb
  go_enter Tryd.func9, Tryd.ntmps9
  go_wp2_with fail
  refine HA.out.mono ?_
  rintro e w1 ⟨rfl, hbw⟩
  have C1 := Lib.hid (New_w w w1 hbw)
  clear hbw HA
  go_wp2_with fail
  refine C1.out.mono ?_
  rintro e w2 ⟨rfl, h2⟩
  have C2 := Lib.hid (h2.act fun _ => MapAt_s 4096 64 7)
  rw [show mapAtS [] 4096 64 7 = (0, recS 0) from rfl] at C2
  clear C1 h2
  generalize w1.heap.size = g at *
  go_wp2_with fail
  refine C2.out.mono ?_
  rintro e w3 ⟨rfl, h3⟩
  have H3 := Lib.hid h3
  clear C2 h3
  go_upto_region 7 with (fail)
  have H4 := Lib.hid (show RecAt w (w3.alloc (.cells codeA 51)) g w3.heap.size (recS 0) from ⟨(H3.out.q.quiet ((Below.refl _ _).alloc (Nat.le_refl _) _)).weak fun k hk => .inr (by subst hk; exact ⟨Nat.le_refl _, by simp⟩), Bx.new _ _ _⟩)
  change Code.wp _ _ _ _ (w3.alloc (.cells codeA 51))
  generalize w3.alloc (.cells codeA 51) = w4 at *
  generalize w3.heap.size = gc at *
  clear H3
  go_loopw [8] (fun i wr => ∃ k : Nat, k ≤ 6 ∧ i = .int .i64 (k : Int) ∧ RecAt w wr g gc (recS k)) (fun i _ => 6 - (intOf i).toNat)
  case atStart => exact ⟨0, by omega, rfl, H4.out⟩
  case round =>
    obtain ⟨k, hk, rfl, hat⟩ := hrel
    clear H4
    rcases (by omega : k = 0 ∨ k = 1 ∨ k = 2 ∨ k = 3 ∨ k = 4 ∨ k = 5 ∨ k = 6) with rfl | rfl | rfl | rfl | rfl | rfl | rfl
    · obtain ⟨hw, hx⟩ := hat
      have q0 : wr.cell? ⟨gc, 0, none⟩ = some (.int .i64 3) := hx.c 0
      have q1 : wr.cell? ⟨gc, 1, none⟩ = some (.int .i64 3) := hx.c 1
      have q2 : wr.cell? ⟨gc, 2, none⟩ = some (.int .i64 1) := hx.c 2
      have q3 : wr.cell? ⟨gc, 3, none⟩ = some (.int .i64 2) := hx.c 3
      have q4 : wr.cell? ⟨gc, 4, none⟩ = some (.int .i64 0) := hx.c 4
      have D1 := Lib.hid (Cod.rbytes_any (recI 0) wr rfl)
      have HW := Lib.hid hw
      have HX := Lib.hid hx
      clear hw hx
      go_wp2_with fail
      refine (D1.out).mono ?_
      rintro e w5 ⟨rfl, hb, hs⟩
      have D2 := Lib.hid (HW.out.poke (a := 4096) (ms := Cod.bytesOf (recI 0)) hb hs (by omega) (by omega) (by unfold I64; omega))
      clear D1 hb hs q0 q1 q2 q3 q4
      go_wp2_with fail
      refine (D2.out).mono ?_
      rintro e w6 ⟨rfl, hw6, hk⟩
      have HA6 := Lib.hid (show RecAt w w6 g gc (recS (0 + 1)) from ⟨hw6, (hk gc rfl).trans HX.out⟩)
      clear hw6 hk D2 HW HX
      go_wp2_with fail
      go_roundw
      case rel => exact ⟨0 + 1, by omega, rfl, HA6.out⟩
      case measure => simp [intOf]
    · obtain ⟨hw, hx⟩ := hat
      have q0 : wr.cell? ⟨gc, 5, none⟩ = some (.int .i64 4) := hx.c 5
      have q1 : wr.cell? ⟨gc, 6, none⟩ = some (.int .i64 4) := hx.c 6
      have q2 : wr.cell? ⟨gc, 7, none⟩ = some (.int .i64 3) := hx.c 7
      have q3 : wr.cell? ⟨gc, 8, none⟩ = some (.int .i64 2) := hx.c 8
      have q4 : wr.cell? ⟨gc, 9, none⟩ = some (.int .i64 0) := hx.c 9
      have D1 := Lib.hid (Cod.rbytes_any (recI 1) wr rfl)
      have HW := Lib.hid hw
      have HX := Lib.hid hx
      clear hw hx
      go_wp2_with fail
      refine (D1.out).mono ?_
      rintro e w5 ⟨rfl, hb, hs⟩
      have D2 := Lib.hid (HW.out.poke (a := 4104) (ms := Cod.bytesOf (recI 1)) hb hs (by omega) (by omega) (by unfold I64; omega))
      clear D1 hb hs q0 q1 q2 q3 q4
      go_wp2_with fail
      refine (D2.out).mono ?_
      rintro e w6 ⟨rfl, hw6, hk⟩
      have HA6 := Lib.hid (show RecAt w w6 g gc (recS (1 + 1)) from ⟨hw6, (hk gc rfl).trans HX.out⟩)
      clear hw6 hk D2 HW HX
      go_wp2_with fail
      go_roundw
      case rel => exact ⟨1 + 1, by omega, rfl, HA6.out⟩
      case measure => simp [intOf]
    · obtain ⟨hw, hx⟩ := hat
      have q0 : wr.cell? ⟨gc, 10, none⟩ = some (.int .i64 5) := hx.c 10
      have q1 : wr.cell? ⟨gc, 11, none⟩ = some (.int .i64 5) := hx.c 11
      have q2 : wr.cell? ⟨gc, 12, none⟩ = some (.int .i64 1) := hx.c 12
      have q3 : wr.cell? ⟨gc, 13, none⟩ = some (.int .i64 2) := hx.c 13
      have q4 : wr.cell? ⟨gc, 14, none⟩ = some (.int .i64 0) := hx.c 14
      have D1 := Lib.hid (Cod.rbytes_any (recI 2) wr rfl)
      have HW := Lib.hid hw
      have HX := Lib.hid hx
      clear hw hx
      go_wp2_with fail
      refine (D1.out).mono ?_
      rintro e w5 ⟨rfl, hb, hs⟩
      have D2 := Lib.hid (HW.out.poke (a := 4112) (ms := Cod.bytesOf (recI 2)) hb hs (by omega) (by omega) (by unfold I64; omega))
      clear D1 hb hs q0 q1 q2 q3 q4
      go_wp2_with fail
      refine (D2.out).mono ?_
      rintro e w6 ⟨rfl, hw6, hk⟩
      have HA6 := Lib.hid (show RecAt w w6 g gc (recS (2 + 1)) from ⟨hw6, (hk gc rfl).trans HX.out⟩)
      clear hw6 hk D2 HW HX
      go_wp2_with fail
      go_roundw
      case rel => exact ⟨2 + 1, by omega, rfl, HA6.out⟩
      case measure => simp [intOf]
    · obtain ⟨hw, hx⟩ := hat
      have q0 : wr.cell? ⟨gc, 15, none⟩ = some (.int .i64 7) := hx.c 15
      have q1 : wr.cell? ⟨gc, 16, none⟩ = some (.int .i64 6) := hx.c 16
      have q2 : wr.cell? ⟨gc, 17, none⟩ = some (.int .i64 1) := hx.c 17
      have q3 : wr.cell? ⟨gc, 18, none⟩ = some (.int .i64 2) := hx.c 18
      have q4 : wr.cell? ⟨gc, 19, none⟩ = some (.int .i64 0) := hx.c 19
      have D1 := Lib.hid (Cod.rbytes_any (recI 3) wr rfl)
      have HW := Lib.hid hw
      have HX := Lib.hid hx
      clear hw hx
      go_wp2_with fail
      refine (D1.out).mono ?_
      rintro e w5 ⟨rfl, hb, hs⟩
      have D2 := Lib.hid (HW.out.poke (a := 4120) (ms := Cod.bytesOf (recI 3)) hb hs (by omega) (by omega) (by unfold I64; omega))
      clear D1 hb hs q0 q1 q2 q3 q4
      go_wp2_with fail
      refine (D2.out).mono ?_
      rintro e w6 ⟨rfl, hw6, hk⟩
      have HA6 := Lib.hid (show RecAt w w6 g gc (recS (3 + 1)) from ⟨hw6, (hk gc rfl).trans HX.out⟩)
      clear hw6 hk D2 HW HX
      go_wp2_with fail
      go_roundw
      case rel => exact ⟨3 + 1, by omega, rfl, HA6.out⟩
      case measure => simp [intOf]
    · obtain ⟨hw, hx⟩ := hat
      have q0 : wr.cell? ⟨gc, 20, none⟩ = some (.int .i64 7) := hx.c 20
      have q1 : wr.cell? ⟨gc, 21, none⟩ = some (.int .i64 7) := hx.c 21
      have q2 : wr.cell? ⟨gc, 22, none⟩ = some (.int .i64 2) := hx.c 22
      have q3 : wr.cell? ⟨gc, 23, none⟩ = some (.int .i64 1) := hx.c 23
      have q4 : wr.cell? ⟨gc, 24, none⟩ = some (.int .i64 0) := hx.c 24
      have D1 := Lib.hid (Cod.rbytes_any (recI 4) wr rfl)
      have HW := Lib.hid hw
      have HX := Lib.hid hx
      clear hw hx
      go_wp2_with fail
      refine (D1.out).mono ?_
      rintro e w5 ⟨rfl, hb, hs⟩
      have D2 := Lib.hid (HW.out.poke (a := 4128) (ms := Cod.bytesOf (recI 4)) hb hs (by omega) (by omega) (by unfold I64; omega))
      clear D1 hb hs q0 q1 q2 q3 q4
      go_wp2_with fail
      refine (D2.out).mono ?_
      rintro e w6 ⟨rfl, hw6, hk⟩
      have HA6 := Lib.hid (show RecAt w w6 g gc (recS (4 + 1)) from ⟨hw6, (hk gc rfl).trans HX.out⟩)
      clear hw6 hk D2 HW HX
      go_wp2_with fail
      go_roundw
      case rel => exact ⟨4 + 1, by omega, rfl, HA6.out⟩
      case measure => simp [intOf]
    · obtain ⟨hw, hx⟩ := hat
      have q0 : wr.cell? ⟨gc, 25, none⟩ = some (.int .i64 8) := hx.c 25
      have q1 : wr.cell? ⟨gc, 26, none⟩ = some (.int .i64 8) := hx.c 26
      have q2 : wr.cell? ⟨gc, 27, none⟩ = some (.int .i64 1) := hx.c 27
      have q3 : wr.cell? ⟨gc, 28, none⟩ = some (.int .i64 2) := hx.c 28
      have q4 : wr.cell? ⟨gc, 29, none⟩ = some (.int .i64 0) := hx.c 29
      have D1 := Lib.hid (Cod.rbytes_any (recI 5) wr rfl)
      have HW := Lib.hid hw
      have HX := Lib.hid hx
      clear hw hx
      go_wp2_with fail
      refine (D1.out).mono ?_
      rintro e w5 ⟨rfl, hb, hs⟩
      have D2 := Lib.hid (HW.out.poke (a := 4136) (ms := Cod.bytesOf (recI 5)) hb hs (by omega) (by omega) (by unfold I64; omega))
      clear D1 hb hs q0 q1 q2 q3 q4
      go_wp2_with fail
      refine (D2.out).mono ?_
      rintro e w6 ⟨rfl, hw6, hk⟩
      have HA6 := Lib.hid (show RecAt w w6 g gc (recS (5 + 1)) from ⟨hw6, (hk gc rfl).trans HX.out⟩)
      clear hw6 hk D2 HW HX
      go_wp2_with fail
      go_roundw
      case rel => exact ⟨5 + 1, by omega, rfl, HA6.out⟩
      case measure => simp [intOf]
    · have HW := Lib.hid hat.1
      have HZ := Lib.hid hsum
      clear hat hsum hx hy hz
      go_upto_region 13 with (fail)
      have hb5 := (Below.refl wr.heap.size wr).alloc (Nat.le_refl _) (.cells #[.int .i64 4096, .int .i64 0, .int .i64 0, .int .i64 a, .int .i64 b, .int .i64 0, .int .i64 0, .int .i64 0, .int .i64 0, .int .i64 0, .int .i64 0, .int .i64 0, .int .i64 0, .int .i64 0, .int .i64 0, .int .i64 0, .int .i64 0, .int .i64 0] 26)
      have hq5 : Wq w (wr.alloc (.cells #[.int .i64 4096, .int .i64 0, .int .i64 0, .int .i64 a, .int .i64 b, .int .i64 0, .int .i64 0, .int .i64 0, .int .i64 0, .int .i64 0, .int .i64 0, .int .i64 0, .int .i64 0, .int .i64 0, .int .i64 0, .int .i64 0, .int .i64 0, .int .i64 0] 26)) g (recS 6) (fun k => k = wr.heap.size) := (HW.out.quiet hb5).weak fun k hk => .inr (by subst hk; exact ⟨Nat.le_refl _, by simp⟩)
      have hi5 : ctxIn (wr.alloc (.cells #[.int .i64 4096, .int .i64 0, .int .i64 0, .int .i64 a, .int .i64 b, .int .i64 0, .int .i64 0, .int .i64 0, .int .i64 0, .int .i64 0, .int .i64 0, .int .i64 0, .int .i64 0, .int .i64 0, .int .i64 0, .int .i64 0, .int .i64 0, .int .i64 0] 26)) wr.heap.size := ⟨_, Bx.new _ _ _, rfl⟩
      have hc5 : Lc (wr.alloc (.cells (cxA (recC a b)) 26)) wr.heap.size (recC a b) := (Cb.new wr (recC a b) rfl).lc
      change Lc (wr.alloc (.cells #[.int .i64 4096, .int .i64 0, .int .i64 0, .int .i64 a, .int .i64 b, .int .i64 0, .int .i64 0, .int .i64 0, .int .i64 0, .int .i64 0, .int .i64 0, .int .i64 0, .int .i64 0, .int .i64 0, .int .i64 0, .int .i64 0, .int .i64 0, .int .i64 0] 26)) _ _ at hc5
      generalize wr.alloc (.cells #[.int .i64 4096, .int .i64 0, .int .i64 0, .int .i64 a, .int .i64 b, .int .i64 0, .int .i64 0, .int .i64 0, .int .i64 0, .int .i64 0, .int .i64 0, .int .i64 0, .int .i64 0, .int .i64 0, .int .i64 0, .int .i64 0, .int .i64 0, .int .i64 0] 26) = w5 at *
      have hbx0 : w.heap.size ≤ wr.heap.size := HW.out.1.size
      generalize wr.heap.size = bx at *
      have hbx : w.heap.size ≤ bx := hbx0
      have HI5 := Lib.hid hi5
      have HC5 := Lib.hid hc5
      have HF := Lib.hid (HRR.out g _ _ hq5)
      clear hb5 hq5 hi5 hc5 HW HRR
      go_upto_region 14 with (first
        | ((with_reducible refine wpl_load_c HC5.out ?_ ?_); (· rfl))
        | (go_at_call 15; refine (HF.out).mono ?_; rintro e w7 ⟨rfl, hb7, hk⟩; have HB7 := Lib.hid hb7; have HI7 := Lib.hid (show ctxIn w7 bx from HI5.out.imp fun cs hc => ⟨(hk bx rfl).trans hc.1, hc.2⟩); have HE7 := Lib.hid (show evIn ((w7.alloc (.cells #[.int .i64 0, .int .i64 0, .int .i64 0, .int .i64 0, .int .i64 0] 37)).setRow bx (cxA (recD a b x y z))) w7.heap.size from (laid_ce w7 bx (recD a b x y z) ⟨6, 0, 0, 0, 0⟩ HI7.out rfl).1); clear hb7 hk HF HI5)
        | ((with_reducible refine wpl_store_c (c := recD a b x y z) (HI7.out.alloc _) rfl ?_ ?_ ?_); (· rfl); (· rfl))
        | ((with_reducible refine wpl_store_e (e := ⟨6, 0, 0, 0, 0⟩) HE7.out ?_ ?_ ?_); (· rfl); (· rfl)))
      obtain ⟨_, k1, k2, k3⟩ := laid_ce w7 bx (recD a b x y z) ⟨6, 0, 0, 0, 0⟩ HI7.out rfl
      change Code.wp _ _ _ _ (((w7.alloc (.cells (evA ⟨0, 0, 0, 0, 0⟩) 37)).setRow bx (cxA (recD a b x y z))).setRow w7.heap.size (evA ⟨6, 0, 0, 0, 0⟩))
      generalize ((w7.alloc (.cells (evA ⟨0, 0, 0, 0, 0⟩) 37)).setRow bx (cxA (recD a b x y z))).setRow w7.heap.size (evA ⟨6, 0, 0, 0, 0⟩) = w8 at *
      have HB8 := Lib.hid (show Below w.heap.size w w8 from HB7.out.trans (k3.below (fun k hk => by subst hk; exact hbx) HB7.out.size))
      have hsb : wrap64 (w64 (a + b) - b) = a := by
        unfold I64 at ha hb
        unfold w64 wrap64
        omega
      have q0 : w8.cell? ⟨w7.heap.size, 0, none⟩ = some (.int .i64 6) := k2.c 0
      have q3 : w8.cell? ⟨bx, 5, none⟩ = some (.int .i64 (w64 (a + b))) := k1.bx.c 5
      have q4 : w8.cell? ⟨bx, 6, none⟩ = some (.int .i64 (w64 (w64 (a + b) - b))) := k1.bx.c 6
      have q5 : w8.cell? ⟨bx, 7, none⟩ = some (.int .i64 (wrap64 (a * b))) := k1.bx.c 7
      have q6 : w8.cell? ⟨bx, 8, none⟩ = some (.int .i64 x) := k1.bx.c 8
      have q7 : w8.cell? ⟨bx, 9, none⟩ = some (.int .i64 y) := k1.bx.c 9
      have q8 : w8.cell? ⟨bx, 10, none⟩ = some (.int .i64 z) := k1.bx.c 10
      rw [show w64 (w64 (a + b) - b) = a from hsb] at q4
      have hsum := HZ.out
      have hzb := HZB.out
      have hxb := HXB.out
      generalize w64 (a + b) = s at *
      clear k1 k2 k3 HI7 HE7 HB7 HC5 ha hb hk
      go_wp2_with fail
      go_ret
      exact ⟨rfl, HB8.out⟩
theorem reckons_law (a b : Int) (ha : I64 a) (hb : I64 b) (w : World) (hs : Cod.Shps w) : Calls Tryd.prog 9 #[.int .i64 a, .int .i64 b] w fun e w' => e = .returned (.bool true) ∧ Below w.heap.size w w' := by
  rcases Int.lt_trichotomy a b with h | h | h
  · refine reckons_any a b 1 0 0 ha hb w hs (if_pos h) (if_neg (by omega)) (if_neg (by omega)) (by unfold wrap64; omega) ?_ ?_
    · rw [show (a == b) = false by simp; omega]; rfl
    · rw [decide_eq_true h]; rfl
  · subst h
    refine reckons_any a a 0 0 1 ha hb w hs (if_neg (by omega)) (if_neg (by omega)) (if_pos rfl) (by unfold wrap64; omega) ?_ ?_
    · rw [show (a == a) = true by simp]; rfl
    · rw [decide_eq_false (by omega)]; rfl
  · refine reckons_any a b 0 1 0 ha hb w hs (if_neg (by omega)) (if_pos h) (if_neg (by omega)) (by unfold wrap64; omega) ?_ ?_
    · rw [show (a == b) = false by simp; omega]; rfl
    · rw [decide_eq_false (by omega)]; rfl
end Go.Proofs.YtfkhfjefddgkoaaDoor
