/-
  The law CursorWrites: walked.
-/
import Derived.Test.YtkgkgagnpmhoiaaZe
import Derived.Test.YtkgkgagnpmhoiaaNb
import Derived.Test.YtkgkgagnpmhoiaaJ
namespace Go.Proofs.Ytkgkgagnpmhoiaa
open Go.RowKit

theorem Wm.other {w w' : World} {B g g' : Nat} {e : Int} {A : Option Addr} {c : Nat} {bs : List UInt8} {r r' : Option Nat} (h : Wm w B g e A c bs) (hs : Step g' w r w' r') (h1 : g ≠ g') (h2 : r ≠ some g) (h3 : row A ≠ some g')
    (h4 : ∀ k, row A = some k → r ≠ some k) : Wm w' B g e A c bs :=
  h.keep hs.size (hs.block g h.lt h1 h2) fun k hk => hs.block k (h.rowLt k hk).2 (fun e => h3 (by rw [hk, e])) (h4 k hk)

/-- The program's writer and the document's, side by side. -/
structure Duo (w : World) (B g gm : Nat) (s t : St) (A : Option Addr) (c : Nat) (Am : Option Addr) (cm : Nat) : Prop where
  wr : Wr w B g s.1 A c s.2
  wm : Wm w B gm t.1 Am cm t.2
  ne : g ≠ gm
  h1 : row A ≠ some gm
  h2 : row Am ≠ some g
  h3 : ∀ k, row A = some k → row Am ≠ some k
section
variable {w w' : World} {B g gm : Nat} {s t : St} {A Am : Option Addr} {c cm : Nat}
theorem Duo.below (h : Duo w B g gm s t A c Am cm) (hb : Below w.heap.size w w') : Duo w' B g gm s t A c Am cm := ⟨h.wr.below hb, h.wm.below hb, h.ne, h.h1, h.h2, h.h3⟩
theorem Duo.step_w (h : Duo w B g gm s t A c Am cm) {s' : St} (ha : At w B g A s'.1 s'.2 w') : ∃ A' c', Duo w' B g gm s' t A' c' Am cm ∧ Step g w (row A) w' (row A') := by
  obtain ⟨A', c', hw, hs⟩ := ha
  refine ⟨A', c', ⟨hw, h.wm.other hs (fun e => h.ne e.symm) h.h1 h.h2 (fun k hk e => h.h3 k e hk), h.ne, ?_, h.h2, ?_⟩, hs⟩
  · rcases hs.row with e | ⟨k, hk, e⟩
    · rw [e]; exact h.h1
    · rw [e]; intro e'; injection e' with e'; have := h.wm.lt; omega
  · intro k hk
    rcases hs.row with e | ⟨k', hk', e⟩
    · exact h.h3 k (by rw [← e]; exact hk)
    · rw [e] at hk
      injection hk with hk
      intro e'
      have := (h.wm.rowLt k e').2
      omega
theorem Duo.step_m (h : Duo w B g gm s t A c Am cm) {t' : St} (ha : AtM w B gm Am t'.1 t'.2 w') : ∃ A' c', Duo w' B g gm s t' A c A' c' ∧ Step gm w (row Am) w' (row A') := by
  obtain ⟨A', c', hw, hs⟩ := ha
  refine ⟨A', c', ⟨h.wr.other hs h.ne h.h2 h.h1 h.h3, hw, h.ne, h.h1, ?_, ?_⟩, hs⟩
  · rcases hs.row with e | ⟨k, hk, e⟩
    · rw [e]; exact h.h2
    · rw [e]; intro e'; injection e' with e'; have := h.wr.lt; omega
  · intro k hk
    rcases hs.row with e | ⟨k', hk', e⟩
    · rw [e]; exact h.h3 k hk
    · rw [e]
      intro e'
      injection e' with e'
      have := (h.wr.rowLt k hk).2
      omega
theorem Duo.keep (h : Duo w B g gm s t A c Am cm) (hs : w.heap.size ≤ w'.heap.size) (gl : Nat) (hk : ∀ k, k < w.heap.size → k ≠ gl → w'.heap[k]? = w.heap[k]?) (h1 : g ≠ gl) (h2 : gm ≠ gl) (h3 : row A ≠ some gl) (h4 : row Am ≠ some gl) : Duo w' B g gm s t A c Am cm :=
  ⟨h.wr.keep hs (hk g h.wr.lt h1) fun k hr => hk k (h.wr.rowLt k hr).2 (fun e => h3 (by rw [hr, e])), h.wm.keep hs (hk gm h.wm.lt h2) fun k hr => hk k (h.wm.rowLt k hr).2 (fun e => h4 (by rw [hr, e])), h.ne, h.h1, h.h2, h.h3⟩
end

theorem src_lent2 {w : World} {g : Nat} {l : List UInt8} (h : w.heap[g]? = some (.cells (lentCells l).toArray 5 (0, 0))) : Src w (fun k => k = g) (some ⟨g, 0, none⟩) l.length (l.length + 3) (cells l) := by
  refine ⟨cells_len l, (by intro h; cases h), by omega, (by intro ad h _; cases h; rfl), ?_⟩
  intro ad ha j u hu
  cases ha
  refine World.news_of_block h j u ?_
  unfold lentCells
  have hj : j < (cells l).length := (List.getElem?_eq_some_iff.1 hu).1
  simpa [List.getElem?_append_left hj] using hu
/-- A piece of the script, in a world. -/
structure PcAt (w : World) (H b o : Nat) (p : Pc) (An : Option Addr) (cn : Nat) (As : Option Addr) (cs : Nat) (Ab : Option Addr) (cb : Nat) : Prop where
  v : PcV w (fun k => k < H) p An cn As cs Ab cb
  c0 : w.cell? ⟨b, o, none⟩ = some (.int .i64 p.kind)
  c1 : w.cell? ⟨b, o + 1, none⟩ = some (.int .i64 p.size)
  c2 : w.cell? ⟨b, o + 2, none⟩ = some (.int .i64 p.n)
  c3 : w.cell? ⟨b, o + 3, none⟩ = some (.slice An p.ns.length cn)
  c4 : w.cell? ⟨b, o + 4, none⟩ = some (.slice As p.ss.length cs)
  c5 : w.cell? ⟨b, o + 5, none⟩ = some (.slice Ab p.b.length cb)
theorem PcAt.keep {w w' : World} {b o : Nat} {p : Pc} {An As Ab : Option Addr} {cn cs cb : Nat} (h : PcAt w w.heap.size b o p An cn As cs Ab cb) (hb : Below w.heap.size w w') : PcAt w' w.heap.size b o p An cn As cs Ab cb := by
  have hlt : b < w.heap.size := World.block_lt_of_cell? w _ h.c0
  have f : ∀ k, w'.cell? ⟨b, k, none⟩ = w.cell? ⟨b, k, none⟩ := fun k => World.cell?_of_block (hb.block b hlt)
  exact ⟨h.v.keep fun q hq _ => hb.block q hq, (f _).trans h.c0, (f _).trans h.c1, (f _).trans h.c2, (f _).trans h.c3, (f _).trans h.c4, (f _).trans h.c5⟩

set_option maxHeartbeats 4000000 in
set_option maxRecDepth 100000 in
theorem writes_any (Ap : Option Addr) (n cp : Nat) (ps : List Pc) (w : World) (h : Pcs w (fun k => k < w.heap.size) Ap n cp ps) (hc : costs ps ≤ 140737488351232) :
    Calls Try.prog 3 #[.slice Ap n cp] w fun en w' => en = .returned (.bool true) ∧ Below w.heap.size w w' := by
  have hl := h.len
  have hge := costs_ge ps
  have hnn : n ≤ 140737488355328 := by omega
  have HL := Lib.hid hl
  have HP := Lib.hid h
  clear h hl hge
  go_enter Try.func3, Try.ntmps3
  go_wp2_with fail
  refine (awake_any _).mono ?_
  rintro en w0 ⟨rfl, hb0⟩
  have hl0 : w.heap.size ≤ w0.heap.size := hb0.size
  have HB0 := Lib.hid hb0
  clear hb0
  go_wp2_with fail
  refine (wnew_any _).mono ?_
  rintro en w1 ⟨rfl, hw1, hb1, hz1⟩
  have hl1 : w0.heap.size < w1.heap.size := by omega
  have HB1 := Lib.hid (HB0.out.trans (hb1.mono hl0))
  have hba := (Below.refl w1.heap.size w1).alloc (Nat.le_refl _) (.cells #[.slice none 0 0, .int .i64 0] 30)
  have hm1 : Wm (w1.alloc (.cells #[.slice none 0 0, .int .i64 0] 30)) w1.heap.size w1.heap.size 0 none 0 [] := ⟨heap_alloc_new _ _, World.ownsRow_nil _ _ _ _, by simp⟩
  have hsz : (w1.alloc (.cells #[.slice none 0 0, .int .i64 0] 30)).heap.size = w1.heap.size + 1 := by simp
  have HD := Lib.hid (show Duo (w1.alloc (.cells #[.slice none 0 0, .int .i64 0] 30)) w1.heap.size w0.heap.size w1.heap.size (0, []) (0, []) none 0 none 0 from ⟨hw1.below hba, hm1, by omega, (by intro e; cases e), (by intro e; cases e), (by intro k e; cases e)⟩)
  have HBA := Lib.hid (HB1.out.trans (hba.mono (by omega)))
  have HSZ := Lib.hid hsz
  clear hw1 hb1 hz1 hba hm1 hsz
  go_wp2_with fail
  generalize w1.alloc (.cells #[.slice none 0 0, .int .i64 0] 30) = w2 at *
  go_loopw [6, 7, 8] (fun i _ _ wr => ∃ (k : Nat) (A : Option Addr) (c : Nat) (Am : Option Addr) (cm : Nat), k ≤ n ∧ i = .int .i64 k ∧ Duo wr w1.heap.size w0.heap.size w1.heap.size (wAll (ps.take k) (0, [])) (wAll (ps.take k) (0, [])) A c Am cm ∧ Below w.heap.size w wr ∧ w1.heap.size < wr.heap.size) (fun i _ _ _ => n - (intOf i).toNat)
  case atStart => exact ⟨0, none, 0, none, 0, Nat.zero_le _, rfl, HD.out, HBA.out, by rw [HSZ.out]; omega⟩
  case round =>
    obtain ⟨k, A, c, Am, cm, hk, rfl, hduo, hb2, hl2⟩ := hrel
    have hbl := wAll_len (ps.take k) (0, [])
    by_cases hlt : k < n
    · have hkl : k < ps.length := by rw [HL.out]; exact hlt
      obtain ⟨ad, rfl⟩ : ∃ ad, Ap = some ad := by
        cases Ap with
        | none => have := (HP.out.nil rfl).1; omega
        | some ad => exact ⟨ad, rfl⟩
      have hbt := costs_take ps k hkl
      have hcp := HP.out.cap
      obtain ⟨b, o, An, cn, As, cs, Ab, cb, rfl, hv, k0, k1, k2, k3, k4, k5⟩ := HP.out.cells k hkl
      have hsn := wAll_snoc ps k hkl (0, [])
      generalize wAll (ps.take k) (0, []) = s at *
      generalize ps[k] = p at *
      have hkk : ∀ w', Below w.heap.size w w' → PcAt w' w.heap.size b (o + k * 6) p An cn As cs Ab cb := fun w' hb => (PcAt.mk hv k0 k1 k2 k3 k4 k5).keep hb
      have HKK := Lib.hid hkk
      have hlen : p.b.length + 8 ≤ 140737488351232 := by have : p.b.length + 8 ≤ cost p := by unfold cost; omega
                                                         omega
      have hcost : s.2.length + cost p ≤ 140737488351232 := by simp at hbl; omega
      have HDU := Lib.hid hduo
      have HB2 := Lib.hid hb2
      have HSN := Lib.hid hsn
      clear hv hduo hb2 hsn k0 k1 k2 k3 k4 k5 hkk
      obtain ⟨wq, rfl⟩ : ∃ wq : World, wq = wr := ⟨_, rfl⟩
      obtain ⟨hv, k0, k1, k2, k3, k4, k5⟩ := HKK.out wq HB2.out
      have hbx := (Below.refl wq.heap.size wq).alloc (Nat.le_refl _) (.cells (pcells p An cn As cs Ab cb) 34)
      have hv3 := hv.keep fun q hq _ => hbx.block q (Nat.lt_of_lt_of_le hq HB2.out.size)
      have hg3 : (wq.alloc (.cells (pcells p An cn As cs Ab cb) 34)).heap[wq.heap.size]? = some (.cells (pcells p An cn As cs Ab cb) 34 (0, 0)) := heap_alloc_new _ _
      have hz3 : (wq.alloc (.cells (pcells p An cn As cs Ab cb) 34)).heap.size = wq.heap.size + 1 := by simp
      have HBX := Lib.hid (HB2.out.trans (hbx.mono HB2.out.size))
      have HDU3 := Lib.hid (HDU.out.below hbx)
      have HG3 := Lib.hid hg3
      have HZ3 := Lib.hid hz3
      have HC := Lib.hid (lent_any _ Ab p.b.length cb p.b _ hv3.b (by omega))
      clear hv hbx hv3 hg3 hz3
      unfold pcells at *
      go_wp2_with fail
      generalize wq.alloc (.cells #[.int .i64 p.kind, .int .i64 p.size, .int .i64 p.n, .slice An p.ns.length cn, .slice As p.ss.length cs, .slice Ab p.b.length cb] 34) = w3 at *
      refine HC.out.mono ?_
      rintro en w4 ⟨gl, rfl, hgl, hb4, hgl3⟩
      have hz3 := HZ3.out
      have hgl4 := lt_of_block hgl
      have hp4 := (hb4.block wq.heap.size (by omega)).trans HG3.out
      have p0 := cell_of_row w4 _ 0 _ _ _ hp4
      have p1 := cell_of_row w4 _ 1 _ _ _ hp4
      have p2 := cell_of_row w4 _ 2 _ _ _ hp4
      have p3 := cell_of_row w4 _ 3 _ _ _ hp4
      have p4 := cell_of_row w4 _ 4 _ _ _ hp4
      have p5 := cell_of_row w4 _ 5 _ _ _ hp4
      have pf := frozen_of_row w4 _ 5 _ _ hp4
      simp at p0 p1 p2 p3 p4 p5
      have HGL := Lib.hid hgl
      have HB4 := Lib.hid hb4
      have HP4 := Lib.hid hp4
      clear hgl hb4 hp4 k0 k1 k2 k3 k4 k5
      go_wp2_with fail
      have hsame : ∀ q, q ≠ wq.heap.size → (w4.setCell ⟨wq.heap.size, 5, none⟩ (.slice (some ⟨gl, 0, none⟩) p.b.length (p.b.length + 3))).heap[q]? = w4.heap[q]? := fun q hq => heap_setCell_other _ _ _ _ hq
      have hz5 : (w4.setCell ⟨wq.heap.size, 5, none⟩ (.slice (some ⟨gl, 0, none⟩) p.b.length (p.b.length + 3))).heap.size = w4.heap.size := by simp [World.setCell]
      have hbs5 : Below w.heap.size w4 (w4.setCell ⟨wq.heap.size, 5, none⟩ (.slice (some ⟨gl, 0, none⟩) p.b.length (p.b.length + 3))) := (Below.refl _ _).setCell HB2.out.size _
      generalize w4.setCell ⟨wq.heap.size, 5, none⟩ (.slice (some ⟨gl, 0, none⟩) p.b.length (p.b.length + 3)) = w5 at *
      have hww : w.heap.size ≤ wq.heap.size := HB2.out.size
      have hb5 := (HBX.out.trans (HB4.out.mono (by omega))).trans hbs5
      have hal : ∀ q, row A = some q → q < wq.heap.size := fun q hq => (HDU.out.wr.rowLt q hq).2
      have hml : ∀ q, row Am = some q → q < wq.heap.size := fun q hq => (HDU.out.wm.rowLt q hq).2
      have hduo5 := (HDU3.out.below HB4.out).keep (w' := w5) (by omega) wq.heap.size (fun q _ hq => hsame q hq) (by omega) (by omega) (fun e => by have := hal _ e; omega) (fun e => by have := hml _ e; omega)
      have hgl5 := (hsame gl (by omega)).trans HGL.out
      have hpv := HKK.out w5 hb5
      have hpc : PcV w5 (fun q => q ≠ w0.heap.size ∧ row A ≠ some q) p An cn As cs (some ⟨gl, 0, none⟩) (p.b.length + 3) :=
        ⟨hpv.v.ns.weak fun q hq => ⟨by omega, fun e => by have := (hduo5.wr.rowLt q e).1; omega⟩, hpv.v.ss.weak fun q hq => ⟨by omega, fun e => by have := (hduo5.wr.rowLt q e).1; omega⟩,
          (src_lent2 hgl5).weak fun q hq => ⟨by omega, fun e => by have := hal q e; omega⟩, hpv.v.i64⟩
      have C := put_any _ _ s A c p An cn As cs (some ⟨gl, 0, none⟩) (p.b.length + 3) w5 hduo5.wr hpc (by omega)
      unfold pcells at C
      have HC2 := Lib.hid C
      have HDU5 := Lib.hid hduo5
      have HB5 := Lib.hid hb5
      have HGL5 := Lib.hid hgl5
      clear C hpc hpv hgl5 hduo5 hb5 hsame hbs5 p0 p1 p2 p3 p4 p5 pf
      refine HC2.out.mono ?_
      rintro en w6 ⟨rfl, hat⟩
      obtain ⟨A6, c6, hduo6, hst6⟩ := HDU5.out.step_w hat
      have hz6 : w5.heap.size ≤ w6.heap.size := hst6.size
      have hb6 := HB5.out.trans (hst6.to_below (B := w.heap.size) (by omega) (fun q hq => by have := (HDU5.out.wr.rowLt q hq).1; omega) (by omega))
      have hgl6 := (hst6.block gl (by omega) (by omega) (fun e => by have := hal _ e; omega)).trans HGL5.out
      have ha6 : ∀ q, row A6 = some q → q ≠ gl := by
        intro q hq e
        rcases hst6.row with e1 | ⟨k', hk', e1⟩
        · have := hal q (by rw [← e1]; exact hq); omega
        · rw [e1] at hq; injection hq with hq; omega
      have hpv := HKK.out w6 hb6
      have k0 := hpv.c0
      have k1 := hpv.c1
      have k2 := hpv.c2
      have k3 := hpv.c3
      have k4 := hpv.c4
      have k5 := hpv.c5
      have HC3 := Lib.hid (back_any' (fun q => q < w.heap.size) gl Ab p.b.length cb p.b w6 hpv.v.b hgl6 (by omega) (by omega))
      have HDU6 := Lib.hid hduo6
      have HB6 := Lib.hid hb6
      have HA6 := Lib.hid ha6
      clear hpv hduo6 hst6 hb6 hgl6 hat ha6
      go_wp2_with fail
      refine HC3.out.mono ?_
      rintro en w7 ⟨rfl, hgr7⟩
      have hz7 : w6.heap.size ≤ w7.heap.size := hgr7.size
      have hb7 := HB6.out.trans (⟨hgr7.os, hgr7.tape, hgr7.output, hgr7.size, fun q hq => hgr7.block q (by omega) (fun e => by injection e with e; omega)⟩ : Below w.heap.size w6 w7)
      have hduo7 := HDU6.out.keep (w' := w7) hz7 gl (fun q hq hne => hgr7.block q hq (fun e => hne (by injection e))) (by omega) (by omega) (fun e => HA6.out gl e rfl) (fun e => by have := hml _ e; omega)
      have hpv := HKK.out w7 hb7
      have hpc : PcV w7 (fun q => q ≠ w1.heap.size ∧ row Am ≠ some q) p An cn As cs Ab cb := hpv.v.weak fun q hq => ⟨by omega, fun e => by have := (hduo7.wm.rowLt q e).1; omega⟩
      have C := model_any _ _ s Am cm p An cn As cs Ab cb w7 hduo7.wm hpc (by omega)
      unfold pcells at C
      have HC4 := Lib.hid C
      have q0 := hpv.c0
      have q1 := hpv.c1
      have q2 := hpv.c2
      have q3 := hpv.c3
      have q4 := hpv.c4
      have q5 := hpv.c5
      have HDU7 := Lib.hid hduo7
      have HB7 := Lib.hid hb7
      clear C hpc hpv hduo7 hb7 hgr7 k0 k1 k2 k3 k4 k5
      go_wp2_with (go_at_call 16; refine HC4.out.mono ?_; rintro en w8 ⟨rfl, hat⟩; have HAT := Lib.hid hat; clear hat)
      obtain ⟨A8, c8, hduo8, hst8⟩ := HDU7.out.step_m HAT.out
      refine ⟨⟨k + 1, A6, c6, A8, c8, by omega, by go_num, by rw [HSN.out]; exact hduo8, HB7.out.trans (hst8.to_below (B := w.heap.size) (by omega) (fun q hq => by have := (HDU7.out.wm.rowLt q hq).1; omega) (by omega)), by have := hst8.size; omega⟩, by simp [intOf]; omega⟩
    · obtain rfl : k = n := by omega
      have htk : ps.take k = ps := List.take_of_length_le (by rw [HL.out]; exact Nat.le_refl _)
      rw [htk] at hduo hbl
      have hlim : (wAll ps (0, [])).2.length ≤ 140737488351232 := by simp at hbl; omega
      have HDU := Lib.hid hduo
      have HB2 := Lib.hid hb2
      clear hduo hb2 hbl htk
      obtain ⟨wq, rfl⟩ : ∃ wq : World, wq = wr := ⟨_, rfl⟩
      generalize wAll ps (0, []) = s at *
      obtain ⟨e, bs⟩ := s
      simp only at hlim
      have hww : w.heap.size ≤ wq.heap.size := HB2.out.size
      by_cases he : e = 0
      · subst he
        have HC1 := Lib.hid (bytes_ok _ _ _ _ _ wq HDU.out.wr (show bs.length ≤ _ by omega))
        go_wp2_with fail
        refine HC1.out.mono ?_
        rintro en w3 ⟨A3, c3, rfl, hown3, hb3⟩
        have HC2 := Lib.hid (bytes_ok _ _ _ _ _ w3 (HDU.out.wr.below hb3) (show bs.length ≤ _ by omega))
        have HO3 := Lib.hid hown3
        have HB3 := Lib.hid hb3
        clear hown3 hb3
        go_wp2_with fail
        refine HC2.out.mono ?_
        rintro en w4 ⟨A4, c4, rfl, hown4, hb4⟩
        have hwm4 := (HDU.out.wm.below HB3.out).below hb4
        have HC3 := Lib.hid (vbytes_any _ _ (0, bs) _ _ w4 hwm4)
        have HO4 := Lib.hid hown4
        have HB4 := Lib.hid hb4
        have HWM4 := Lib.hid hwm4
        clear hown4 hb4 hwm4
        go_wp2_with fail
        refine HC3.out.mono ?_
        rintro en w5 ⟨hen, md, rfl⟩
        have hen' : en = .returned (.tuple #[.slice Am bs.length cm, .int .i64 0]) := hen
        subst hen'
        clear hen
        have hb5 : Below w4.heap.size w4 (w4.drewN md) := ⟨rfl, rfl, rfl, Nat.le_refl _, fun _ _ => rfl⟩
        have hz5 : (w4.drewN md).heap.size = w4.heap.size := rfl
        generalize w4.drewN md = w5 at *
        have hz3 : wq.heap.size ≤ w3.heap.size := HB3.out.size
        have hz4 : w3.heap.size ≤ w4.heap.size := HB4.out.size
        have ho3 := own_keep (w' := w5) HO3.out fun q hq => (hb5.block q (by have := (HO3.out.lt q hq).2; omega)).trans (HB4.out.block q (HO3.out.lt q hq).2)
        have ho4 := own_keep (w' := w5) HO4.out fun q hq => hb5.block q (HO4.out.lt q hq).2
        have hwm5 := HWM4.out.below hb5
        have hB5 := HB2.out.trans (((HB3.out.trans (HB4.out.mono hz3)).mono hww).trans (hb5.mono (by omega)))
        have hcv1 := conv_string (Src.of_own ho3)
        have hcv2 := conv_string (Src.of_own ho4)
        have hcv3 := conv_string (Src.of_own hwm5.own)
        have hne : ∀ q, row A3 = some q → row A4 ≠ some q := by
          intro q h1 h2
          have := (HO3.out.lt q (by rw [row_own]; exact h1)).2
          have := (HO4.out.lt q (by rw [row_own]; exact h2)).1
          omega
        have hro : (w5.alloc (.cells #[.slice A3 bs.length c3, .slice A4 bs.length c4] 27)).heap[w5.heap.size]? = some (.cells #[.slice A3 bs.length c3, .slice A4 bs.length c4] 27 (0, 0)) := heap_alloc_new _ _
        have hba := (Below.refl w5.heap.size w5).alloc (Nat.le_refl _) (.cells #[.slice A3 bs.length c3, .slice A4 bs.length c4] 27)
        have C := owned_many wq.heap.size w5.heap.size 2 (fun i => if i = 0 then A3 else A4) (fun _ => bs.length) (fun i => if i = 0 then c3 else c4) (fun _ => cells bs) #[.slice A3 bs.length c3, .slice A4 bs.length c4] (w5.alloc (.cells #[.slice A3 bs.length c3, .slice A4 bs.length c4] 27)) (by omega) hro
          (fun i hi => by
            have : i = 0 ∨ i = 1 := by omega
            rcases this with rfl | rfl <;> rfl)
          (fun i hi => by
            have : i = 0 ∨ i = 1 := by omega
            rcases this with rfl | rfl
            · exact ho3.alloc _
            · exact own_more (ho4.alloc _) hz3)
          (fun i j hi hj hij => by
            have : (i = 0 ∧ j = 1) ∨ (i = 1 ∧ j = 0) := by omega
            rcases this with ⟨rfl, rfl⟩ | ⟨rfl, rfl⟩
            · exact hne
            · exact fun q h1 h2 => hne q h2 h1)
          (by simp; omega) (fun _ _ => by omega)
        have HO := Lib.hid C
        have HB5 := Lib.hid (hB5.trans (hba.mono (by omega)))
        clear ho3 ho4 hwm5 hB5 hne hro hba hb5 C hz5
        go_wp2_with (go_at_call 19; refine HO.out.mono ?_; rintro en w6 ⟨rfl, hb6⟩; have HB6 := Lib.hid hb6; clear hb6)
        go_ret
        exact ⟨rfl, HB5.out.trans (HB6.out.mono hww)⟩
      · have he' : (e != 0) = true := by simpa using he
        have HC1 := Lib.hid (bytes_err _ _ _ _ _ _ wq HDU.out.wr he')
        have HE := Lib.hid he
        clear he
        go_wp2_with fail
        refine HC1.out.mono ?_
        rintro en w3 ⟨rfl, hb3⟩
        have HC2 := Lib.hid (bytes_err _ _ _ _ _ _ w3 (HDU.out.wr.below hb3) he')
        have HB3 := Lib.hid hb3
        clear hb3
        go_wp2_with fail
        refine HC2.out.mono ?_
        rintro en w4 ⟨rfl, hb4⟩
        have hwm4 := (HDU.out.wm.below HB3.out).below hb4
        have HC3 := Lib.hid (vbytes_any _ _ (e, bs) _ _ w4 hwm4)
        have HB4 := Lib.hid hb4
        clear hb4 hwm4
        go_wp2_with fail
        refine HC3.out.mono ?_
        rintro en w5 ⟨hen, md, rfl⟩
        have hen' : en = .returned (.tuple #[.slice none 0 0, .int .i64 e]) := by
          simpa [HE.out] using hen
        subst hen'
        clear hen
        have hb5 : Below w4.heap.size w4 (w4.drewN md) := ⟨rfl, rfl, rfl, Nat.le_refl _, fun _ _ => rfl⟩
        have hz5 : (w4.drewN md).heap.size = w4.heap.size := rfl
        generalize w4.drewN md = w5 at *
        have hz3 : wq.heap.size ≤ w3.heap.size := HB3.out.size
        have hz4 : w3.heap.size ≤ w4.heap.size := HB4.out.size
        have hB5 := HB2.out.trans (((HB3.out.trans (HB4.out.mono hz3)).mono hww).trans (hb5.mono (by omega)))
        have hcv1 := conv_string (Src.of_own (World.ownsRow_nil w5 0 5 1) : Src w5 _ none 0 0 (cells []))
        have hro : (w5.alloc (.cells #[.slice none 0 0, .slice none 0 0] 27)).heap[w5.heap.size]? = some (.cells #[.slice none 0 0, .slice none 0 0] 27 (0, 0)) := heap_alloc_new _ _
        have hba := (Below.refl w5.heap.size w5).alloc (Nat.le_refl _) (.cells #[.slice none 0 0, .slice none 0 0] 27)
        have C := owned_many wq.heap.size w5.heap.size 2 (fun _ => none) (fun _ => 0) (fun _ => 0) (fun _ => []) #[.slice none 0 0, .slice none 0 0] (w5.alloc (.cells #[.slice none 0 0, .slice none 0 0] 27)) (by omega) hro
          (fun i hi => by
            have : i = 0 ∨ i = 1 := by omega
            rcases this with rfl | rfl <;> rfl)
          (fun i hi => World.ownsRow_nil _ _ _ _)
          (fun i j hi hj hij => by intro q h1; cases h1)
          (by simp; omega) (fun _ _ => by omega)
        have HO := Lib.hid C
        have HB5 := Lib.hid (hB5.trans (hba.mono (by omega)))
        clear hB5 hro hba hb5 C hz5
        go_wp2_with (go_at_call 19; refine HO.out.mono ?_; rintro en w6 ⟨rfl, hb6⟩; have HB6 := Lib.hid hb6; clear hb6)
        go_ret
        exact ⟨rfl, HB5.out.trans (HB6.out.mono hww)⟩
end Go.Proofs.Ytkgkgagnpmhoiaa
