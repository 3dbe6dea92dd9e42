/-
  The laws' helper take: a piece read by the program and by the document's own reader is the same.
-/
import Derived.Test.YtkgkgagnpmhoiaaQ
import Derived.Test.YtkgkgagnpmhoiaaKa
import Derived.Test.YtkgkgagnpmhoiaaNa
namespace Go.Proofs.Ytkgkgagnpmhoiaa
open Go.RowKit

/-- Two structs, and new blocks, have turned; nothing else. -/
structure Two (w : World) (gr gm : Nat) (w' : World) : Prop where
  os : w'.os = w.os
  tape : w'.tape = w.tape
  output : w'.output = w.output
  size : w.heap.size ≤ w'.heap.size
  block : ∀ k, k < w.heap.size → k ≠ gr → k ≠ gm → w'.heap[k]? = w.heap[k]?
theorem Two.refl (w : World) (gr gm : Nat) : Two w gr gm w := ⟨rfl, rfl, rfl, Nat.le_refl _, fun _ _ _ _ => rfl⟩
theorem Two.trans {a b c : World} {gr gm : Nat} (h : Two a gr gm b) (k : Two b gr gm c) : Two a gr gm c :=
  ⟨k.os.trans h.os, k.tape.trans h.tape, k.output.trans h.output, Nat.le_trans h.size k.size, fun i hi h1 h2 => (k.block i (Nat.lt_of_lt_of_le hi h.size) h1 h2).trans (h.block i hi h1 h2)⟩
theorem Two.of_below {w w' : World} {B gr gm : Nat} (h : Below B w w') (hB : w.heap.size ≤ B) : Two w gr gm w' := ⟨h.os, h.tape, h.output, h.size, fun k hk _ _ => h.block k (by omega)⟩
theorem Two.of_r {w w' : World} {gr gm : Nat} (h : w.grownBy w' (some gr)) : Two w gr gm w' := ⟨h.os, h.tape, h.output, h.size, fun k hk h1 _ => h.block k hk (fun e => h1 (by injection e))⟩
theorem Two.of_m {w w' : World} {gr gm : Nat} (h : w.grownBy w' (some gm)) : Two w gr gm w' := ⟨h.os, h.tape, h.output, h.size, fun k hk _ h2 => h.block k hk (fun e => h2 (by injection e))⟩
theorem Rd.keep {w w' : World} {P : Nat → Prop} {g : Nat} {e : Int} {A : Option Addr} {c : Nat} {rest : List UInt8} (h : Rd w P g e A c rest) (hg : w'.heap[g]? = w.heap[g]?) (hk : ∀ k, P k → k < w.heap.size → w'.heap[k]? = w.heap[k]?) : Rd w' P g e A c rest :=
  ⟨hg.trans h.blk, h.src.keep hk, h.ne, h.lim, h.small⟩
theorem Rr.keep {w w' : World} {P : Nat → Prop} {g : Nat} {e : Int} {A : Option Addr} {c : Nat} {rest : List UInt8} (h : Rr w P g e A c rest) (hg : w'.heap[g]? = w.heap[g]?) (hk : ∀ k, P k → k < w.heap.size → w'.heap[k]? = w.heap[k]?) : Rr w' P g e A c rest :=
  ⟨hg.trans h.blk, h.src.keep hk, h.ne, h.lim, h.small⟩
theorem Rd.draw' {w : World} {P : Nat → Prop} {g : Nat} {e : Int} {A : Option Addr} {c : Nat} {rest : List UInt8} (h : Rd w P g e A c rest) (n : Nat) : Rd (w.drewN n) P g e A c rest := h.keep rfl fun _ _ _ => rfl
theorem Rr.draw' {w : World} {P : Nat → Prop} {g : Nat} {e : Int} {A : Option Addr} {c : Nat} {rest : List UInt8} (h : Rr w P g e A c rest) (n : Nat) : Rr (w.drewN n) P g e A c rest := h.keep rfl fun _ _ _ => rfl

/-- Both readers are where the state says. -/
def Pair (w : World) (P Q : Nat → Prop) (gr gm : Nat) (s : St) : Prop := (∃ A c, Rd w P gr s.1 A c s.2) ∧ ∃ A c, Rr w Q gm s.1 A c s.2

/-- What stands at the end of 'take', whatever was read: left, fault and end are the same. -/
def Quiet (w : World) (gr gm : Nat) (s : St) : Prop :=
  (∀ n, Calls Try.prog 25 #[.pointer (some ⟨gr, 0, none⟩)] (w.drewN n) fun en w' => en = .returned (.int .i64 s.2.length) ∧ ∃ m, w' = w.drewN m) ∧
  (∀ n, Calls Try.prog 24 #[.pointer (some ⟨gr, 0, none⟩)] (w.drewN n) fun en w' => en = .returned (.int .i64 s.1) ∧ ∃ m, w' = w.drewN m) ∧
  (∀ n, Calls Try.prog 26 #[.pointer (some ⟨gr, 0, none⟩)] (w.drewN n) fun en w' => en = .returned (.int .i64 (rEnd s)) ∧ ∃ m, w' = w.drewN m) ∧
  (∀ n, Calls Try.prog 45 #[.pointer (some ⟨gm, 0, none⟩)] (w.drewN n) fun en w' => en = .returned (.int .i64 (rEnd s)) ∧ ∃ m, w' = w.drewN m)
theorem Pair.quiet {w : World} {P Q : Nat → Prop} {gr gm : Nat} {s : St} (h : Pair w P Q gr gm s) : Quiet w gr gm s := by
  obtain ⟨⟨A, c, h1⟩, A', c', h2⟩ := h
  refine ⟨fun n => (rleft_any P gr _ A c _ _ (h1.draw' n)).mono ?_, fun n => (rfault_any P gr _ A c _ _ (h1.draw' n)).mono ?_, fun n => (rend_any P gr s A c _ (h1.draw' n)).mono ?_, fun n => (mend_any Q gm s A' c' _ (h2.draw' n)).mono ?_⟩
  all_goals
    rintro en w' ⟨rfl, rfl⟩
    exact ⟨rfl, n, rfl⟩

def rTk (p : Pc) (s : St) : St :=
  if p.kind = 0 then (rNum p.size s).2 else if p.kind = 1 then (rMeas 2 4096 s).2 else if p.kind = 2 then (rMeas 4 1048576 s).2 else if p.kind = 3 then (rRaw p.n s).2 else s
def Taken (w : World) (P Q : Nat → Prop) (gr gm : Nat) (s : St) (en : Ending) (w' : World) : Prop := en = .returned (.bool true) ∧ Pair w' P Q gr gm s ∧ Two w gr gm w'

theorem Pair.draw {w : World} {P Q : Nat → Prop} {gr gm : Nat} {s : St} (h : Pair w P Q gr gm s) (n : Nat) : Pair (w.drewN n) P Q gr gm s := by
  obtain ⟨⟨A, c, h1⟩, A', c', h2⟩ := h
  exact ⟨⟨A, c, h1.draw' n⟩, A', c', h2.draw' n⟩
theorem Two.draw {w w' : World} {gr gm : Nat} (h : Two w gr gm w') (n : Nat) : Two w gr gm (w'.drewN n) := ⟨h.os, h.tape, h.output, h.size, h.block⟩

set_option maxHeartbeats 2000000 in
set_option maxRecDepth 100000 in
theorem take_num (P Q : Nat → Prop) (gr gm : Nat) (s : St) (p : Pc) (An : Option Addr) (cn : Nat) (As : Option Addr) (cs : Nat) (Ab : Option Addr) (cb : Nat) (w : World) (h : Pair w P Q gr gm s) (hne : gr ≠ gm) (hP : ¬ P gm) (hQ : ¬ Q gr) (hk : p.kind = 0) :
    Calls Try.prog 21 #[.pointer (some ⟨gr, 0, none⟩), .pointer (some ⟨gm, 0, none⟩), .agg (pcells p An cn As cs Ab cb)] w (Taken w P Q gr gm (rNum p.size s).2) := by
  obtain ⟨kind, size, n, ns, ss, b⟩ := p
  simp only at hk
  subst hk
  obtain ⟨⟨A, c, h1⟩, A', c', h2⟩ := h
  have hbx := (Below.refl w.heap.size w).alloc (Nat.le_refl _) (.cells (pcells ⟨0, size, n, ns, ss, b⟩ An cn As cs Ab cb) 34)
  have hka : (w.alloc (.cells (pcells ⟨0, size, n, ns, ss, b⟩ An cn As cs Ab cb) 34)).heap[w.heap.size]? = some (.cells (pcells ⟨0, size, n, ns, ss, b⟩ An cn As cs Ab cb) 34 (0, 0)) := heap_alloc_new _ _
  have hg1 := h1.lt
  have hg2 := h2.lt
  have C1 := rnum_any P gr s A c size _ (h1.below hbx)
  have HM := Lib.hid (h2.keep (hbx.block gm hg2) fun k _ hk => hbx.block k hk)
  have HBX := Lib.hid hbx
  have HKA := Lib.hid hka
  have HZ := Lib.hid (show (w.alloc (.cells (pcells ⟨0, size, n, ns, ss, b⟩ An cn As cs Ab cb) 34)).heap.size = w.heap.size + 1 by simp)
  have HC1 := Lib.hid C1
  clear h1 h2 hbx hka C1
  unfold pcells at *
  go_enter Try.func21, Try.ntmps21
  go_wp2_with fail
  generalize w.alloc (.cells #[.int .i64 0, .int .i64 size, .int .i64 n, .slice An ns.length cn, .slice As ss.length cs, .slice Ab b.length cb] 34) = wa at *
  refine HC1.out.mono ?_
  rintro en w1 ⟨rfl, A1, c1, hr1, hgr1⟩
  have hl1 : wa.heap.size ≤ w1.heap.size := hgr1.size
  have hk1 := (hgr1.block w.heap.size (by have := HZ.out; omega) (fun e => by injection e with e; omega)).trans HKA.out
  have hc1 : w1.cell? ⟨w.heap.size, 1, none⟩ = some (.int .i64 size) := cell_of_row w1 _ 1 _ _ _ hk1
  have hm1 := HM.out.keep (hgr1.block gm (by have := HZ.out; omega) (fun e => hne (by injection e with e; exact e.symm))) fun k hk hkl => hgr1.block k hkl (fun e => hQ (by injection e with e; rw [← e]; exact hk))
  have HC2 := Lib.hid (mnum_any Q gm s A' c' size w1 hm1)
  have HR1 := Lib.hid hr1
  have HG1 := Lib.hid hgr1
  clear hr1 hgr1 hk1 hm1
  go_wp2_with fail
  refine HC2.out.mono ?_
  rintro en w2 ⟨rfl, A2, c2, hm2, hgm2⟩
  have hr2 := HR1.out.keep (hgm2.block gr (by have := HZ.out; omega) (fun e => hne (by injection e))) fun k hk hkl => hgm2.block k hkl (fun e => hP (by injection e with e; rw [← e]; exact hk))
  have HPR := Lib.hid (show Pair w2 P Q gr gm (rNum size s).2 from ⟨⟨A1, c1, hr2⟩, A2, c2, hm2⟩)
  have HT := Lib.hid (((Two.of_below (gr := gr) (gm := gm) HBX.out (Nat.le_refl _)).trans (Two.of_r HG1.out)).trans (Two.of_m hgm2))
  have hmb : w2.cell? ⟨gm, 0, none⟩ = some (.slice A2 (rNum size s).2.2.length c2) := cell_of_row w2 gm 0 _ _ _ hm2.blk
  have hme : w2.cell? ⟨gm, 1, none⟩ = some (.int .i64 (rNum size s).2.1) := cell_of_row w2 gm 1 _ _ _ hm2.blk
  have HQ' := Lib.hid HPR.out.quiet
  clear hm2 hgm2 hr2 hc1
  generalize rNum size s = t at *
  obtain ⟨v, e, r⟩ := t
  obtain ⟨q1, q2, q3, q4⟩ := HQ'.out
  have Q1 := Lib.hid q1
  have Q2 := Lib.hid q2
  have Q3 := Lib.hid q3
  have Q4 := Lib.hid q4
  clear q1 q2 q3 q4
  go_wp2_with fail
  go_quiet ((first | (go_at_call 25; exact Q1.out _) | (go_at_call 24; exact Q2.out _) | (go_at_call 26; exact Q3.out _) | (go_at_call 45; exact Q4.out _)))
  go_wp2_with fail
  go_ret
  exact ⟨rfl, HPR.out.draw _, HT.out.draw _⟩
set_option maxHeartbeats 2000000 in
set_option maxRecDepth 100000 in
theorem take_text (P Q : Nat → Prop) (gr gm : Nat) (s : St) (p : Pc) (An : Option Addr) (cn : Nat) (As : Option Addr) (cs : Nat) (Ab : Option Addr) (cb : Nat) (w : World) (h : Pair w P Q gr gm s) (hne : gr ≠ gm) (hP : ¬ P gm) (hQ : ¬ Q gr) (hk : p.kind = 1) :
    Calls Try.prog 21 #[.pointer (some ⟨gr, 0, none⟩), .pointer (some ⟨gm, 0, none⟩), .agg (pcells p An cn As cs Ab cb)] w (Taken w P Q gr gm (rMeas 2 4096 s).2) := by
  obtain ⟨kind, size, n, ns, ss, b⟩ := p
  simp only at hk
  subst hk
  obtain ⟨⟨A, c, h1⟩, A', c', h2⟩ := h
  have hbx := (Below.refl w.heap.size w).alloc (Nat.le_refl _) (.cells (pcells ⟨1, size, n, ns, ss, b⟩ An cn As cs Ab cb) 34)
  have hka : (w.alloc (.cells (pcells ⟨1, size, n, ns, ss, b⟩ An cn As cs Ab cb) 34)).heap[w.heap.size]? = some (.cells (pcells ⟨1, size, n, ns, ss, b⟩ An cn As cs Ab cb) 34 (0, 0)) := heap_alloc_new _ _
  have hg1 := h1.lt
  have hg2 := h2.lt
  have C1 := rtext_any P gr s A c _ (h1.below hbx)
  have HM := Lib.hid (h2.keep (hbx.block gm hg2) fun k _ hk => hbx.block k hk)
  have HBX := Lib.hid hbx
  have HKA := Lib.hid hka
  have HZ := Lib.hid (show (w.alloc (.cells (pcells ⟨1, size, n, ns, ss, b⟩ An cn As cs Ab cb) 34)).heap.size = w.heap.size + 1 by simp)
  have HC1 := Lib.hid C1
  clear h1 h2 hbx hka C1
  unfold pcells at *
  go_enter Try.func21, Try.ntmps21
  go_wp2_with fail
  generalize w.alloc (.cells #[.int .i64 1, .int .i64 size, .int .i64 n, .slice An ns.length cn, .slice As ss.length cs, .slice Ab b.length cb] 34) = wa at *
  refine HC1.out.mono ?_
  rintro en w1 ⟨rfl, A1, c1, hr1, hgr1⟩
  have hl1 : wa.heap.size ≤ w1.heap.size := hgr1.size
  have hm1 := HM.out.keep (hgr1.block gm (by have := HZ.out; omega) (fun e => hne (by injection e with e; exact e.symm))) fun k hk hkl => hgr1.block k hkl (fun e => hQ (by injection e with e; rw [← e]; exact hk))
  have HC2 := Lib.hid (mtext_any Q gm s A' c' w1 hm1)
  have HR1 := Lib.hid hr1
  have HG1 := Lib.hid hgr1
  clear hr1 hgr1 hm1
  go_wp2_with fail
  refine HC2.out.mono ?_
  rintro en w2 ⟨rfl, A2, c2, hm2, hgm2⟩
  have hr2 := HR1.out.keep (hgm2.block gr (by have := HZ.out; omega) (fun e => hne (by injection e))) fun k hk hkl => hgm2.block k hkl (fun e => hP (by injection e with e; rw [← e]; exact hk))
  have HPR := Lib.hid (show Pair w2 P Q gr gm (rMeas 2 4096 s).2 from ⟨⟨A1, c1, hr2⟩, A2, c2, hm2⟩)
  have HT := Lib.hid (((Two.of_below (gr := gr) (gm := gm) HBX.out (Nat.le_refl _)).trans (Two.of_r HG1.out)).trans (Two.of_m hgm2))
  have hmb : w2.cell? ⟨gm, 0, none⟩ = some (.slice A2 (rMeas 2 4096 s).2.2.length c2) := cell_of_row w2 gm 0 _ _ _ hm2.blk
  have hme : w2.cell? ⟨gm, 1, none⟩ = some (.int .i64 (rMeas 2 4096 s).2.1) := cell_of_row w2 gm 1 _ _ _ hm2.blk
  have HQ' := Lib.hid HPR.out.quiet
  clear hm2 hgm2 hr2
  generalize rMeas 2 4096 s = t at *
  obtain ⟨v, e, r⟩ := t
  obtain ⟨q1, q2, q3, q4⟩ := HQ'.out
  have Q1 := Lib.hid q1
  have Q2 := Lib.hid q2
  have Q3 := Lib.hid q3
  have Q4 := Lib.hid q4
  clear q1 q2 q3 q4
  go_wp2_with fail
  go_quiet ((first | (go_at_call 25; exact Q1.out _) | (go_at_call 24; exact Q2.out _) | (go_at_call 26; exact Q3.out _) | (go_at_call 45; exact Q4.out _)))
  go_wp2_with fail
  go_ret
  exact ⟨rfl, HPR.out.draw _, HT.out.draw _⟩

theorem rRaw_len (n : Int) (s : St) : (rRaw n s).1.length ≤ s.2.length := by
  unfold rRaw
  split
  · simp
  · exact rTake_len2 _ _
end Go.Proofs.Ytkgkgagnpmhoiaa
