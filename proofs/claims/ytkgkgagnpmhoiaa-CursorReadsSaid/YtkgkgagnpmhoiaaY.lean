/-
  The law CursorReads: walked.
-/
import Derived.Test.YtkgkgagnpmhoiaaTr
import Derived.Test.YtkgkgagnpmhoiaaJ
namespace Go.Proofs.Ytkgkgagnpmhoiaa
open Go.RowKit

set_option maxHeartbeats 2000000 in
set_option maxRecDepth 100000 in
theorem take_none (P Q : Nat → Prop) (gr gm : Nat) (s : St) (p : Pc) (An : Option Addr) (cn : Nat) (As : Option Addr) (cs : Nat) (Ab : Option Addr) (cb : Nat) (w : World) (h : Pair w P Q gr gm s)
    (h0 : p.kind ≠ 0) (h1 : p.kind ≠ 1) (h2 : p.kind ≠ 2) (h3 : p.kind ≠ 3) :
    Calls Try.prog 21 #[.pointer (some ⟨gr, 0, none⟩), .pointer (some ⟨gm, 0, none⟩), .agg (pcells p An cn As cs Ab cb)] w (Taken w P Q gr gm s) := by
  obtain ⟨kind, size, n, ns, ss, b⟩ := p
  simp only at h0 h1 h2 h3
  have b0 : (kind == 0) = false := by simpa using h0
  have b1 : (kind == 1) = false := by simpa using h1
  have b2 : (kind == 2) = false := by simpa using h2
  have b3 : (kind == 3) = false := by simpa using h3
  obtain ⟨⟨A, c, hr⟩, A', c', hm⟩ := h
  have hbx := (Below.refl w.heap.size w).alloc (Nat.le_refl _) (.cells (pcells ⟨kind, size, n, ns, ss, b⟩ An cn As cs Ab cb) 34)
  have hrx := hr.below hbx
  have hmx := hm.keep (hbx.block gm hm.lt) fun k _ hk => hbx.block k hk
  have HPR := Lib.hid (show Pair _ P Q gr gm s from ⟨⟨A, c, hrx⟩, A', c', hmx⟩)
  have HT := Lib.hid (Two.of_below (gr := gr) (gm := gm) hbx (Nat.le_refl _))
  have hmb := cell_of_row _ gm 0 _ _ _ hmx.blk
  have hme := cell_of_row _ gm 1 _ _ _ hmx.blk
  have HQ' := Lib.hid HPR.out.quiet
  clear hr hm hbx hrx hmx h0 h1 h2 h3
  unfold pcells at *
  obtain ⟨e, r⟩ := s
  go_enter Try.func21, Try.ntmps21
  go_wp2_with fail
  generalize w.alloc (.cells #[.int .i64 kind, .int .i64 size, .int .i64 n, .slice An ns.length cn, .slice As ss.length cs, .slice Ab b.length cb] 34) = wa at *
  have hmb' : wa.cell? ⟨gm, 0, none⟩ = some (.slice A' r.length c') := hmb
  have hme' : wa.cell? ⟨gm, 1, none⟩ = some (.int .i64 e) := hme
  clear hmb hme
  obtain ⟨q1, q2, q3, q4⟩ := HQ'.out
  have Q1 := Lib.hid q1
  have Q2 := Lib.hid q2
  have Q3 := Lib.hid q3
  have Q4 := Lib.hid q4
  clear q1 q2 q3 q4
  go_quiet ((first | (go_at_call 25; exact Q1.out _) | (go_at_call 24; exact Q2.out _) | (go_at_call 26; exact Q3.out _) | (go_at_call 45; exact Q4.out _)))
  go_wp2_with fail
  go_ret
  exact ⟨rfl, HPR.out.draw _, HT.out.draw _⟩

theorem rTk_len (p : Pc) (s : St) : (rTk p s).2.length ≤ s.2.length := by
  have hT : ∀ n, (rTake n s).2.2.length ≤ s.2.length := by
    intro n
    unfold rTake
    split
    · split
      · simp
      · simp
    · simp
  have hM : ∀ a b, (rMeas a b s).2.2.length ≤ s.2.length := by
    intro a b
    unfold rMeas
    split
    · split
      · simp
      · split
        · simp
        · split
          · simp
          · simp
    · simp
  unfold rTk
  split
  · unfold rNum
    split
    · exact hT _
    · simp only
      split <;> simp
  · split
    · exact hM _ _
    · split
      · exact hM _ _
      · split
        · unfold rRaw
          split
          · simp only
            split <;> simp
          · exact hT _
        · exact Nat.le_refl _

theorem take_any' (P Q : Nat → Prop) (gr gm : Nat) (s : St) (p : Pc) (An : Option Addr) (cn : Nat) (As : Option Addr) (cs : Nat) (Ab : Option Addr) (cb : Nat) (w : World) (h : Pair w P Q gr gm s)
    (hPl : ∀ k, P k → k < w.heap.size) (hQl : ∀ k, Q k → k < w.heap.size) (hsm : s.2.length ≤ 140737488351232) (hne : gr ≠ gm) (hP : ¬ P gm) (hQ : ¬ Q gr) :
    Calls Try.prog 21 #[.pointer (some ⟨gr, 0, none⟩), .pointer (some ⟨gm, 0, none⟩), .agg (pcells p An cn As cs Ab cb)] w (Taken w P Q gr gm (rTk p s)) := by
  by_cases h0 : p.kind = 0
  · have e : rTk p s = (rNum p.size s).2 := by unfold rTk; rw [if_pos h0]
    rw [e]
    exact take_num P Q gr gm s p An cn As cs Ab cb w h hne hP hQ h0
  by_cases h1 : p.kind = 1
  · have e : rTk p s = (rMeas 2 4096 s).2 := by unfold rTk; rw [if_neg h0, if_pos h1]
    rw [e]
    exact take_text P Q gr gm s p An cn As cs Ab cb w h hne hP hQ h1
  by_cases h2 : p.kind = 2
  · have e : rTk p s = (rMeas 4 1048576 s).2 := by unfold rTk; rw [if_neg h0, if_neg h1, if_pos h2]
    rw [e]
    exact take_block P Q gr gm s p An cn As cs Ab cb w h hPl hQl hsm hne hP hQ h2
  by_cases h3 : p.kind = 3
  · have e : rTk p s = (rRaw p.n s).2 := by unfold rTk; rw [if_neg h0, if_neg h1, if_neg h2, if_pos h3]
    rw [e]
    exact take_raw P Q gr gm s p An cn As cs Ab cb w h hPl hQl hsm hne hP hQ h3
  have e : rTk p s = s := by unfold rTk; rw [if_neg h0, if_neg h1, if_neg h2, if_neg h3]
  rw [e]
  exact take_none P Q gr gm s p An cn As cs Ab cb w h h0 h1 h2 h3

theorem src_lent {w : World} {g : Nat} {l : List UInt8} (h : w.heap[g]? = some (.cells (lentCells l).toArray 5 (0, 0))) : Src w (fun k => k = g) (some ⟨g, 0, none⟩) l.length (l.length + 3) (cells l) := by
  refine ⟨cells_len l, (by intro h; cases h), by omega, (by intro ad h _; cases h; rfl), ?_⟩
  intro ad ha j u hu
  cases ha
  refine World.news_of_block h j u ?_
  unfold lentCells
  have hj : j < (cells l).length := (List.getElem?_eq_some_iff.1 hu).1
  simpa [List.getElem?_append_left hj] using hu
theorem Two.to_below {w a b : World} {gr gm : Nat} (h : Below w.heap.size w a) (k : Two a gr gm b) (h1 : w.heap.size ≤ gr) (h2 : w.heap.size ≤ gm) : Below w.heap.size w b :=
  h.trans ⟨k.os, k.tape, k.output, k.size, fun i hi => k.block i (Nat.lt_of_lt_of_le hi h.size) (by omega) (by omega)⟩

set_option maxHeartbeats 2000000 in
set_option maxRecDepth 100000 in
theorem reads_any (Ab : Option Addr) (nb cb : Nat) (l : List UInt8) (Ap : Option Addr) (n cp : Nat) (ps : List Pc) (w : World) (hb : Src w (fun k => k < w.heap.size) Ab nb cb (cells l)) (h : Pcs w (fun k => k < w.heap.size) Ap n cp ps)
    (hnb : nb ≤ 140737488351232) (hcb : cb ≤ 9223372036854775807) (hnn : n ≤ 9223372036854775807) :
    Calls Try.prog 4 #[.slice Ab nb cb, .slice Ap n cp] w fun en w' => en = .returned (.bool true) ∧ Below w.heap.size w w' := by
  have hlb : l.length = nb := by have := hb.len; simpa [cells_len] using this
  subst hlb
  have hl := h.len
  have HL := Lib.hid hl
  have HP := Lib.hid h
  have HS := Lib.hid hb
  clear h hl hb
  go_enter Try.func4, Try.ntmps4
  go_wp2_with fail
  refine (awake_any _).mono ?_
  rintro en w0 ⟨rfl, hb0⟩
  have hl0 : w.heap.size ≤ w0.heap.size := hb0.size
  have HB0 := Lib.hid hb0
  have HC0 := Lib.hid (lent_any _ Ab l.length cb l w0 (HS.out.keep fun k hk _ => hb0.block k hk) hnb)
  clear hb0
  go_wp2_with fail
  refine HC0.out.mono ?_
  rintro en w1 ⟨gl, rfl, hgl, hb1, hg1⟩
  have hl1 : w0.heap.size ≤ w1.heap.size := hb1.size
  have hgw : gl < w1.heap.size := lt_of_block hgl
  have HB1 := Lib.hid (HB0.out.trans (hb1.mono hl0))
  have HC1 := Lib.hid (rnew_any _ _ l.length (l.length + 3) l w1 (src_lent hgl) (by omega))
  have HG1 := Lib.hid hgl
  clear hb1 hgl
  go_wp2_with fail
  refine HC1.out.mono ?_
  rintro en w2 ⟨gr, A2, c2, rfl, hr2, hb2, hg2⟩
  have hl2 : w1.heap.size ≤ w2.heap.size := hb2.size
  have hgrl := hr2.lt
  have HB2 := Lib.hid (HB1.out.trans (hb2.mono (by omega)))
  have HR2 := Lib.hid hr2
  have HG2 := Lib.hid ((hb2.block gl hgw).trans HG1.out)
  have HC2 := Lib.hid (back_any' (fun k => k < w.heap.size) gl Ab l.length cb l w2 (HS.out.keep fun k hk _ => HB2.out.block k hk) HG2.out (by omega) hnb)
  clear hr2 hb2
  go_wp2_with (go_at_call 15; refine HC2.out.mono ?_; rintro en w3 ⟨rfl, hgr3⟩; have HG3 := Lib.hid hgr3; clear hgr3)
  have hl3 : w2.heap.size ≤ w3.heap.size := HG3.out.size
  have hB3 := HB2.out.trans ⟨HG3.out.os, HG3.out.tape, HG3.out.output, HG3.out.size, fun k hk => HG3.out.block k (by omega) (fun e => by injection e with e; omega)⟩
  have hr3 := HR2.out.keep (HG3.out.block gr hgrl (fun e => by injection e with e; omega)) fun k hk hkl => HG3.out.block k hkl (fun e => by injection e with e; omega)
  have hba := (Below.refl w3.heap.size w3).alloc (Nat.le_refl _) (.cells #[.slice Ab l.length cb, .int .i64 0] 47)
  have hB4 := hB3.trans (hba.mono (by omega))
  have hr4 := hr3.below hba
  have hm4 : Rr (w3.alloc (.cells #[.slice Ab l.length cb, .int .i64 0] 47)) (fun k => k < w.heap.size) w3.heap.size 0 Ab cb l :=
    ⟨heap_alloc_new _ _, HS.out.keep fun k hk _ => hB4.block k hk, by omega, hcb, by omega⟩
  have hsz : (w3.alloc (.cells #[.slice Ab l.length cb, .int .i64 0] 47)).heap.size = w3.heap.size + 1 := by simp
  have HPR := Lib.hid (show Pair _ (fun k => w1.heap.size ≤ k ∧ k < gr) (fun k => k < w.heap.size) gr w3.heap.size (0, l) from ⟨⟨A2, c2, hr4⟩, Ab, cb, hm4⟩)
  have HB4 := Lib.hid hB4
  have HSZ := Lib.hid hsz
  clear hB3 hr3 hba hB4 hr4 hm4 hsz
  go_wp2_with fail
  generalize w3.alloc (.cells #[.slice Ab l.length cb, .int .i64 0] 47) = w4 at *
  go_loopw [9] (fun i wr => ∃ (k : Nat) (s : St), k ≤ n ∧ i = .int .i64 k ∧ s.2.length ≤ 140737488351232 ∧ Pair wr (fun k => w1.heap.size ≤ k ∧ k < gr) (fun k => k < w.heap.size) gr w3.heap.size s ∧ Below w.heap.size w wr ∧ w3.heap.size < wr.heap.size) (fun i _ => n - (intOf i).toNat)
  case atStart => exact ⟨0, (0, l), Nat.zero_le _, rfl, hnb, HPR.out, HB4.out, by rw [HSZ.out]; omega⟩
  case round =>
    obtain ⟨k, s, hk, rfl, hsl, hpr, hb5, hl5⟩ := hrel
    have HB5 := Lib.hid hb5
    by_cases hlt : k < n
    · have hkl : k < ps.length := by rw [HL.out]; exact hlt
      obtain ⟨ad, rfl⟩ : ∃ ad, Ap = some ad := by
        cases Ap with
        | none => have := (HP.out.nil rfl).1; omega
        | some ad => exact ⟨ad, rfl⟩
      obtain ⟨b, o, An, cn, As, cs, Ab', cb', rfl, hv, k0, k1, k2, k3, k4, k5⟩ := (HP.out.keep fun k hk _ => hb5.block k hk).cells k hkl
      have C := take_any' _ _ gr w3.heap.size s ps[k] An cn As cs Ab' cb' wr hpr (fun k hk => by omega) (fun k hk => by have := hb5.size; omega) hsl (by omega) (by omega) (by omega)
      have hsl2 : (rTk ps[k] s).2.length ≤ 140737488351232 := Nat.le_trans (rTk_len _ _) hsl
      unfold pcells at C
      have HC := Lib.hid C
      have hcp := HP.out.cap
      clear hpr hb5 hv C
      go_wp2_with (go_at_call 21; refine HC.out.mono ?_; rintro en w6 ⟨rfl, hpr, htw⟩; have HPR6 := Lib.hid hpr; have HTW := Lib.hid htw; clear hpr htw)
      exact ⟨⟨k + 1, _, by omega, by go_num, hsl2, HPR6.out, Two.to_below HB5.out HTW.out (by omega) (by omega), by have := HTW.out.size; omega⟩, by simp [intOf]; omega⟩
    · obtain rfl : k = n := by omega
      clear hpr hb5
      go_wp2_with fail
      go_ret
      exact ⟨rfl, HB5.out⟩
end Go.Proofs.Ytkgkgagnpmhoiaa
