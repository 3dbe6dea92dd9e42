/-
  The laws' helper take, on: blocks.
-/
import Derived.Test.YtkgkgagnpmhoiaaTk
namespace Go.Proofs.Ytkgkgagnpmhoiaa
open Go.RowKit

theorem Two.then_below {w a b : World} {B gr gm : Nat} (h : Two w gr gm a) (k : Below B a b) (hB : w.heap.size ≤ B) : Two w gr gm b :=
  ⟨k.os.trans h.os, k.tape.trans h.tape, k.output.trans h.output, Nat.le_trans h.size k.size, fun i hi h1 h2 => (k.block i (by omega)).trans (h.block i hi h1 h2)⟩

set_option maxHeartbeats 2000000 in
set_option maxRecDepth 100000 in
theorem take_block (P Q : Nat → Prop) (gr gm : Nat) (s : St) (p : Pc) (An : Option Addr) (cn : Nat) (As : Option Addr) (cs : Nat) (Ab : Option Addr) (cb : Nat) (w : World) (h : Pair w P Q gr gm s) (hPl : ∀ k, P k → k < w.heap.size) (hQl : ∀ k, Q k → k < w.heap.size) (hsm : s.2.length ≤ 140737488351232) (hne : gr ≠ gm) (hP : ¬ P gm) (hQ : ¬ Q gr) (hk : p.kind = 2) :
    Calls Try.prog 21 #[.pointer (some ⟨gr, 0, none⟩), .pointer (some ⟨gm, 0, none⟩), .agg (pcells p An cn As cs Ab cb)] w (Taken w P Q gr gm (rMeas 4 1048576 s).2) := by
  obtain ⟨kind, size, n, ns, ss, b⟩ := p
  simp only at hk
  subst hk
  obtain ⟨⟨A, c, h1⟩, A', c', h2⟩ := h
  have hbx := (Below.refl w.heap.size w).alloc (Nat.le_refl _) (.cells (pcells ⟨2, size, n, ns, ss, b⟩ An cn As cs Ab cb) 34)
  have hka : (w.alloc (.cells (pcells ⟨2, size, n, ns, ss, b⟩ An cn As cs Ab cb) 34)).heap[w.heap.size]? = some (.cells (pcells ⟨2, size, n, ns, ss, b⟩ An cn As cs Ab cb) 34 (0, 0)) := heap_alloc_new _ _
  have hg1 := h1.lt
  have hg2 := h2.lt
  have C1 := rblock_any P gr s A c _ (h1.below hbx)
  have HM := Lib.hid (h2.keep (hbx.block gm hg2) fun k _ hk => hbx.block k hk)
  have HBX := Lib.hid hbx
  have HKA := Lib.hid hka
  have HZ := Lib.hid (show (w.alloc (.cells (pcells ⟨2, size, n, ns, ss, b⟩ An cn As cs Ab cb) 34)).heap.size = w.heap.size + 1 by simp)
  have HC1 := Lib.hid C1
  clear h1 h2 hbx hka C1
  unfold pcells at *
  go_enter Try.func21, Try.ntmps21
  go_wp2_with fail
  generalize w.alloc (.cells #[.int .i64 2, .int .i64 size, .int .i64 n, .slice An ns.length cn, .slice As ss.length cs, .slice Ab b.length cb] 34) = wa at *
  refine HC1.out.mono ?_
  rintro en w1 ⟨Ao, co, rfl, hown, A1, c1, hr1, hgr1⟩
  have hol : ∀ k, row Ao = some k → wa.heap.size ≤ k ∧ k < w1.heap.size := fun k hk => hown.lt k (by rw [row_own]; exact hk)
  have hl1 : wa.heap.size ≤ w1.heap.size := hgr1.size
  have hm1 := HM.out.keep (hgr1.block gm (by have := HZ.out; omega) (fun e => hne (by injection e with e; exact e.symm))) fun k hk hkl => hgr1.block k hkl (fun e => hQ (by injection e with e; rw [← e]; exact hk))
  have HC2 := Lib.hid (mblock_any Q gm s A' c' w1 hm1)
  have HR1 := Lib.hid hr1
  have HG1 := Lib.hid hgr1
  clear hr1 hgr1 hm1
  go_wp2_with fail
  refine HC2.out.mono ?_
  rintro en w2 ⟨Am, cm, rfl, hsm2, A2, c2, hm2, hgm2⟩
  have hr2 := HR1.out.keep (hgm2.block gr (by have := HZ.out; omega) (fun e => hne (by injection e))) fun k hk hkl => hgm2.block k hkl (fun e => hP (by injection e with e; rw [← e]; exact hk))
  have ho2 := hown.kept hgm2 (by
    rw [row_own]
    right
    intro e
    have := (hol gm e).1
    have := HZ.out
    omega)
  have hl2 : w1.heap.size ≤ w2.heap.size := hgm2.size
  have HT2 := Lib.hid (((Two.of_below (gr := gr) (gm := gm) HBX.out (Nat.le_refl _)).trans (Two.of_r HG1.out)).trans (Two.of_m hgm2))
  have hcv1 := conv_string (Src.of_own ho2)
  have hcv2 := conv_string hsm2
  have hlen : (rMeas 4 1048576 s).1.length ≤ 140737488351232 := Nat.le_trans (rMeas_len _ _ _) hsm
  have hro : ((w2.alloc (.cells #[.slice Ao (rMeas 4 1048576 s).1.length co] 27))).heap[w2.heap.size]? = some (.cells #[.slice Ao (rMeas 4 1048576 s).1.length co] 27 (0, 0)) := heap_alloc_new _ _
  have HO := Lib.hid (owned_one wa.heap.size w2.heap.size Ao (rMeas 4 1048576 s).1.length co _ (w2.alloc (.cells #[.slice Ao (rMeas 4 1048576 s).1.length co] 27)) hro (ho2.alloc _) (by simp; omega) hlen)
  have hba := (Below.refl w2.heap.size w2).alloc (Nat.le_refl _) (.cells #[.slice Ao (rMeas 4 1048576 s).1.length co] 27)
  have HBA := Lib.hid hba
  have HR2 := Lib.hid (hr2.keep (hba.block gr (by have := HZ.out; omega)) fun k hk hkl => hba.block k hkl)
  have HM2 := Lib.hid (hm2.keep (hba.block gm (by have := HZ.out; omega)) fun k hk hkl => hba.block k hkl)
  clear hm2 hgm2 hr2 ho2 hown hsm2 hro hba  hol hlen
  generalize rMeas 4 1048576 s = t at *
  obtain ⟨v, e, r⟩ := t
  go_wp2_with (go_at_call 19; refine HO.out.mono ?_; rintro en w3 ⟨rfl, hb3⟩; have HB3 := Lib.hid hb3; clear hb3)
  have hm3 := HM2.out.keep (HB3.out.block gm (by have := HZ.out; omega)) fun k hk _ => HB3.out.block k (by have := hQl k hk; have := HZ.out; omega)
  have hr3 := HR2.out.keep (HB3.out.block gr (by have := HZ.out; omega)) fun k hk _ => HB3.out.block k (by have := hPl k hk; have := HZ.out; omega)
  have HPR := Lib.hid (show Pair w3 P Q gr gm (e, r) from ⟨⟨A1, c1, hr3⟩, A2, c2, hm3⟩)
  have HT := Lib.hid ((HT2.out.then_below HBA.out (by have := HZ.out; omega)).then_below HB3.out (by have := HZ.out; omega))
  have hmb : w3.cell? ⟨gm, 0, none⟩ = some (.slice A2 r.length c2) := cell_of_row w3 gm 0 _ _ _ hm3.blk
  have hme : w3.cell? ⟨gm, 1, none⟩ = some (.int .i64 e) := cell_of_row w3 gm 1 _ _ _ hm3.blk
  have HQ' := Lib.hid HPR.out.quiet
  clear hm3 hr3 hcv1 hcv2
  obtain ⟨q1, q2, q3, q4⟩ := HQ'.out
  have Q1 := Lib.hid q1
  have Q2 := Lib.hid q2
  have Q3 := Lib.hid q3
  have Q4 := Lib.hid q4
  clear q1 q2 q3 q4
  go_wp2_with fail
  go_quiet ((first | (go_at_call 25; exact Q1.out _) | (go_at_call 24; exact Q2.out _) | (go_at_call 26; exact Q3.out _) | (go_at_call 45; exact Q4.out _)))
  go_wp2_with fail
  go_ret
  exact ⟨rfl, HPR.out.draw _, HT.out.draw _⟩
end Go.Proofs.Ytkgkgagnpmhoiaa
