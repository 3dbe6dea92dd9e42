/-
  One space behind a law's beginning; the document's examples.
-/
import Derived.Test.YthbdncojekpanaaAf
namespace Go.Proofs.Ythbdncojekpanaa
open Go.RowKit

/-- One space, made since w0. -/
def Ws (w0 w : World) (g : Nat) (ss : List Seg) : Prop := Below w0.heap.size w0 w ∧ ∃ F, Lies w w0.heap.size g F ss
theorem Ws.went {w0 w w' : World} {g : Nat} {F : Nat → Prop} {ss ss' : List Seg} (hb : Below w0.heap.size w0 w) (hl : Lies w w0.heap.size g F ss) (h : Went w w' w0.heap.size g F ss') : Ws w0 w' g ss' := by
  obtain ⟨F', h1, h2, h3⟩ := h
  exact ⟨hb.trans (h2.below (fun k hk => (hl.lt hk).1) hb.size), F', h1⟩
theorem Ws.act {w0 w : World} {g : Nat} {ss ss' : List Seg} (h : Ws w0 w g ss) {f : Nat} {args : Array Value} {v : Value} (hc : ∀ F, Lies w w0.heap.size g F ss → Calls Try.prog f args w fun e w' => e = .returned v ∧ Went w w' w0.heap.size g F ss') :
    Calls Try.prog f args w fun e w' => e = .returned v ∧ Ws w0 w' g ss' := by
  obtain ⟨hb, F, hl⟩ := h
  exact (hc F hl).mono fun e w' hw => ⟨hw.1, Ws.went hb hl hw.2⟩
theorem Ws.quiet {w0 w w' : World} {g : Nat} {ss : List Seg} (h : Ws w0 w g ss) (hb : Below w.heap.size w w') : Ws w0 w' g ss := by
  obtain ⟨hb0, F, hl⟩ := h
  exact ⟨hb0.trans (hb.mono hb0.size), F, hl.below hb⟩
theorem Ws.ask {w0 w : World} {g : Nat} {ss : List Seg} (h : Ws w0 w g ss) {f : Nat} {args : Array Value} {v : Value} (hc : ∀ F, Lies w w0.heap.size g F ss → Calls Try.prog f args w fun e w' => e = .returned v ∧ Below w.heap.size w w') :
    Calls Try.prog f args w fun e w' => e = .returned v ∧ Ws w0 w' g ss := by
  obtain ⟨hb, F, hl⟩ := h
  exact (hc F hl).mono fun e w' hw => ⟨hw.1, Ws.quiet ⟨hb, F, hl⟩ hw.2⟩
theorem Ws.read {w0 w : World} {g : Nat} {ss : List Seg} (h : Ws w0 w g ss) {f : Nat} {args : Array Value} {a n need : Int} (hc : ∀ F, Lies w w0.heap.size g F ss → Calls Try.prog f args w (TookS w ss a n need)) :
    Calls Try.prog f args w fun e w' => TookS w ss a n need e w' ∧ Ws w0 w' g ss := by
  obtain ⟨hb, F, hl⟩ := h
  exact (hc F hl).mono fun _ _ hw => ⟨hw, Ws.quiet ⟨hb, F, hl⟩ hw.1⟩
theorem Ws.good {w0 w : World} {g : Nat} {ss : List Seg} (h : Ws w0 w g ss) : Good ss := by
  obtain ⟨_, F, hl⟩ := h
  exact hl.good
theorem New_w (w0 w : World) (hb : Below w0.heap.size w0 w) : Calls Try.prog 11 #[] w fun e w' => e = .returned (.pointer (some ⟨w.heap.size, 0, none⟩)) ∧ Ws w0 w' w.heap.size [] :=
  (New_s w w0.heap.size hb.size).mono fun _ _ ⟨h1, h2, h3⟩ => ⟨h1, hb.trans (h3.mono hb.size), _, h2⟩
set_option maxRecDepth 100000 in
set_option maxHeartbeats 2000000 in
/-- The document's examples: true. -/
theorem awake_any (w : World) : Calls Try.prog 10 #[] w fun e w' => e = .returned (.bool true) ∧ Below w.heap.size w w' := by
  have HN := Lib.hid (New_w w w (Below.refl _ _))
  go_enter Try.func10, Try.ntmps10
  go_wp2_with fail
  refine HN.out.mono ?_
  rintro e w1 ⟨rfl, h1⟩
  have C1 := Lib.hid (h1.act fun F => Map_s 1 3)
  rw [show mapS [] 1 3 = (4096, 0, [newS 4096 64 3]) from rfl] at C1
  clear HN h1
  go_wp2_with fail
  refine C1.out.mono ?_
  rintro e w2 ⟨rfl, h2⟩
  have C2 := Lib.hid (h2.act fun F => Map_s 65 1)
  rw [show mapS [newS 4096 64 3] 65 1 = (4160, 0, [newS 4096 64 3, newS 4160 128 1]) from rfl] at C2
  clear C1 h2
  go_wp2_with fail
  refine C2.out.mono ?_
  rintro e w3 ⟨rfl, h3⟩
  have C3 := Lib.hid (h3.act fun F => Unmap_s 4096)
  rw [show unmapS [newS 4096 64 3, newS 4160 128 1] 4096 = (0, [newS 4160 128 1]) from rfl] at C3
  clear C2 h3
  go_wp2_with fail
  refine C3.out.mono ?_
  rintro e w4 ⟨rfl, h4⟩
  have C4 := Lib.hid (h4.ask fun F => Gap_s 65)
  rw [show gapA [newS 4160 128 1] 65 = (4288, 0) from rfl] at C4
  clear C3 h4
  go_wp2_with fail
  refine C4.out.mono ?_
  rintro e w5 ⟨rfl, h5⟩
  have C5 := Lib.hid (h5.act fun F => SetWord_s (a := 4160) 1 (by unfold I64; omega))
  rw [show storeS [newS 4160 128 1] 4160 (digs 1 8) 2 = (52, [newS 4160 128 1]) from rfl] at C5
  clear C4 h5
  go_wp2_with fail
  refine C5.out.mono ?_
  rintro e w6 ⟨rfl, h6⟩
  have C6 := Lib.hid (h6.act fun F => PokeWord_s (a := 4160) 1 (by unfold I64; omega))
  rw [show (storeS [newS 4160 128 1] 4160 (digs 1 8) 0).1 = 0 from rfl] at C6
  clear C5 h6
  go_wp2_with fail
  refine C6.out.mono ?_
  rintro e w7 ⟨rfl, h7⟩
  have HE := Lib.hid h7.1
  clear C6 h7
  go_wp2_with fail
  first | go_ret | skip
  exact ⟨rfl, HE.out⟩
end Go.Proofs.Ythbdncojekpanaa
