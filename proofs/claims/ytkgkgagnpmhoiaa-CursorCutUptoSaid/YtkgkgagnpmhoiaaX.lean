/-
  The law CursorCut: walked.
-/
import Derived.Test.YtkgkgagnpmhoiaaW
namespace Go.Proofs.Ytkgkgagnpmhoiaa
open Go.RowKit

set_option maxHeartbeats 2000000 in
set_option maxRecDepth 100000 in
theorem cut_any (Ap : Option Addr) (n cp m0 : Nat) (ps : List Pc) (w : World) (h : Pcs w (fun k => k < w.heap.size) Ap n cp ps) (hc : costs ps ≤ 140737488355328) (hm0 : m0 < 65536) :
    Calls Try.prog 6 #[.slice Ap n cp, .int .u16 m0] w fun en w' => en = .returned (.bool true) ∧ Below w.heap.size w w' := by
  have hl := h.len
  have hge := costs_ge ps
  have hnn : n ≤ 140737488355328 := by omega
  have hall := all_ok ps h.i64 []
  have HL := Lib.hid hl
  have HP := Lib.hid h
  have HOK := Lib.hid hall
  clear h hl hge hall
  go_enter Try.func6, Try.ntmps6
  go_wp2_with fail
  refine (awake_any _).mono ?_
  rintro en w0 ⟨rfl, hb0⟩
  have hl0 : w.heap.size ≤ w0.heap.size := hb0.size
  have HB0 := Lib.hid hb0
  have CW := written_any Ap n cp ps w0 ((HP.out.keep fun k hk _ => HB0.out.block k hk).weak fun k hk => by omega) hc
  have HCW := Lib.hid CW
  clear hb0 CW
  go_wp2_with fail
  refine HCW.out.mono ?_
  rintro en w1 ⟨A1, c1, l1, rfl, hval, hown, hb1⟩
  have hl1 : w0.heap.size ≤ w1.heap.size := hb1.size
  have HB1 := Lib.hid (HB0.out.trans (hb1.mono (by omega)))
  have hlen1 := wAll_len ps (0, [])
  by_cases hok : (wAll ps (0, [])).1 = 0
  case neg =>
    have hok2 : ((wAll ps (0, [])).1 == 0) = false := by simpa using hok
    clear hok hval hown hb1 hlen1
    go_wp2_with fail
    go_ret
    exact ⟨rfl, HB1.out⟩
  have hok2 : ((wAll ps (0, [])).1 == 0) = true := by simpa using hok
  obtain ⟨hE, hback⟩ := HOK.out hok
  have hl1e : l1 = encAll ps := by rw [hval hok, hE]; rfl
  subst hl1e
  have hlim : (encAll ps).length ≤ 140737488355328 := by
    rw [hE] at hlen1
    simp at hlen1
    omega
  have HS1 := Lib.hid (Src.of_own hown)
  have hcap1 := (Src.of_own hown).cap
  have hcc := own_cap hown
  have HBK := Lib.hid hback
  clear hok hval hown hb1 hlen1 hE hback
  by_cases hz : (encAll ps).length = 0
  · have hz1 : (((encAll ps).length : Int) == 0) = true := by rw [beq_iff_eq]; omega
    rw [hz] at *
    clear hz
    go_wp2_with fail
    go_ret
    exact ⟨rfl, HB1.out⟩
  have hz1 : (((encAll ps).length : Int) == 0) = false := by rw [beq_eq_false_iff_ne]; omega
  have hz2 : 1 ≤ (encAll ps).length := by omega
  generalize hL : (encAll ps).length = L at *
  have HLL := Lib.hid hL
  have q1 : 0 ≤ (m0 : Int) % (L : Int) := Int.emod_nonneg _ (by omega)
  have q2 : (m0 : Int) % (L : Int) < L := Int.emod_lt_of_pos _ (by omega)
  have q3 : (m0 : Int) % (L : Int) ≤ c1 := by omega
  have q4 : m0 % L < L := Nat.mod_lt _ (by omega)
  have hfr := HS1.out.front (m0 % L) (by omega)
  have hfl : ((encAll ps).take (m0 % L)).length = m0 % L := by rw [List.length_take]; omega
  rw [hfl] at hfr
  have HC2 := Lib.hid (rnew_any _ A1 _ c1 _ w1 hfr (by omega))
  clear hz hL hfr hfl
  go_wp2_with fail
  refine HC2.out.mono ?_
  rintro en w2 ⟨g, A2, c2, rfl, hr2, hb2, hg2⟩
  have hl2 : w1.heap.size ≤ w2.heap.size := hb2.size
  have HB2 := Lib.hid (HB1.out.trans (hb2.mono (by omega)))
  have HR2 := Lib.hid hr2
  clear hr2 hb2
  go_wp2_with fail
  go_loopw [10] (fun i wr => ∃ k m : Nat, k ≤ n ∧ i = .int .i64 k ∧ m ≤ m0 % L ∧ m < (encAll (ps.drop k)).length ∧ Is w2 (fun k => w1.heap.size ≤ k ∧ k < g) g 0 ((encAll (ps.drop k)).take m) wr) (fun i _ => n - (intOf i).toNat)
  case atStart => exact ⟨0, m0 % L, Nat.zero_le _, rfl, Nat.le_refl _, by rw [List.drop_zero, HLL.out]; exact q4, A2, c2, HR2.out, World.grownBy.refl _ _⟩
  case round =>
    obtain ⟨k, m, hk, rfl, hmm, hml, his⟩ := hrel
    have hl3 : w2.heap.size ≤ wr.heap.size := by obtain ⟨_, _, _, h⟩ := his; exact h.size
    have HB3 := Lib.hid (HB2.out.trans (his.to_below (B := w.heap.size) (by omega) (by omega)))
    have HIS := Lib.hid his
    obtain ⟨A3, c3, hr3, _⟩ := his
    by_cases hlt : k < n
    · have hkl : k < ps.length := by rw [HL.out]; exact hlt
      obtain ⟨ad, rfl⟩ : ∃ ad, Ap = some ad := by
        cases Ap with
        | none => have := (HP.out.nil rfl).1; omega
        | some ad => exact ⟨ad, rfl⟩
      obtain ⟨b, o, An, cn, As, cs, Ab, cb, rfl, hv, k0, k1, k2, k3, k4, k5⟩ := (HP.out.keep fun k hk _ => HB3.out.block k hk).cells k hkl
      have hcst := costs_take ps k hkl
      have C := same_any _ _ g (0, (encAll (ps.drop k)).take m) A3 c3 ps[k] An cn As cs Ab cb wr hr3 hv (fun k hk => by omega) (by omega)
      have e1 : encAll (ps.drop k) = encP ps[k] ++ encAll (ps.drop (k + 1)) := by rw [List.drop_eq_getElem_cons hkl]; rfl
      rw [e1] at hml C
      rw [List.length_append] at hml
      have hcp := HP.out.cap
      obtain ⟨hb1, hb2⟩ := HBK.out ps[k] (List.getElem_mem hkl)
      unfold pcells at C
      by_cases hin : (encP ps[k]).length ≤ m
      · rw [take_past _ _ _ hin, hb1] at C
        have HC := Lib.hid C
        have hm1 : m - (encP ps[k]).length ≤ m0 % L := by omega
        have hm2 : m - (encP ps[k]).length < (encAll (ps.drop (k + 1))).length := by omega
        have HM := Lib.hid (And.intro hm1 hm2)
        generalize m - (encP ps[k]).length = m2 at *
        clear hr3 hv C e1 hcst hb1 hb2 hml hin hm1 hm2
        go_wp2_with fail
        refine HC.out.mono ?_
        rintro en w4 ⟨rfl, his4⟩
        have HIS4 := Lib.hid his4
        obtain ⟨A4, c4, hr4, _⟩ := his4
        have HF := Lib.hid (rfault_any _ g _ A4 c4 _ w4 hr4)
        clear hr4
        go_wp2_with (go_at_call 24; refine HF.out.mono ?_; rintro en w5 ⟨rfl, rfl⟩)
        exact ⟨⟨k + 1, m2, by omega, by go_num, HM.out.1, HM.out.2, HIS.out.trans HIS4.out⟩, by simp [intOf]; omega⟩
      · have ht : (encP ps[k] ++ encAll (ps.drop (k + 1))).take m = (encP ps[k]).take m := by rw [List.take_append_of_le_length (by omega)]
        rw [ht] at C
        obtain ⟨f1, f2⟩ := hb2 m (by omega)
        generalize rSame ps[k] (0, (encP ps[k]).take m) = t at *
        obtain ⟨bt, e, r⟩ := t
        have f1' : e = 11 := f1
        have f2' : r.length ≤ m := f2
        subst f1'
        have HC := Lib.hid C
        have hrl : r.length ≤ m0 % L := by omega
        clear hr3 hv C e1 hcst hb1 hb2 hml hin ht f1 f2 f2'
        go_wp2_with fail
        refine HC.out.mono ?_
        rintro en w4 ⟨rfl, his4⟩
        have HIS4 := Lib.hid (his4.to_below (B := w.heap.size) (by omega) (by omega))
        have hl4 : wr.heap.size ≤ w4.heap.size := by obtain ⟨_, _, _, h⟩ := his4; exact h.size
        obtain ⟨A4, c4, hr4, _⟩ := his4
        have HF := Lib.hid (rfault_any _ g 11 A4 c4 r w4 hr4)
        have HLF := Lib.hid (rleft_any _ g 11 A4 c4 r w4 hr4)
        have CT := rtext_any _ g (11, r) A4 c4 w4 hr4
        have et : rMeas 2 4096 (11, r) = ([], (11, r)) := by simp [rMeas]
        rw [et] at CT
        have HT := Lib.hid CT
        have q5 : (r.length : Int) ≤ (m0 : Int) % (L : Int) := by have := Int.natCast_emod m0 L; omega
        have hrs : r.length ≤ 140737488355328 := hr4.small
        clear hr4 CT et hrl
        have HB4 := Lib.hid (HB3.out.trans HIS4.out)
        have tail : ∀ w5, Said w4 (fun k => w1.heap.size ≤ k ∧ k < g) g ([], (11, r)) (.returned (.string ⟨#[]⟩)) w5 →
            Calls Try.prog 28 #[.pointer (some ⟨g, 0, none⟩), .int .i64 1] w5 (Read w5 (fun k => w1.heap.size ≤ k ∧ k < g) g (.int .i64 0) 11 r) ∧ Below w.heap.size w w5 ∧ w4.heap.size ≤ w5.heap.size := by
          intro w5 h5
          obtain ⟨_, his5⟩ := h5
          have hb5 := his5.to_below (B := w.heap.size) (by omega) (by omega)
          obtain ⟨A5, c5, hr5, hg5⟩ := his5
          have C5 := rnum_any _ g (11, r) A5 c5 1 w5 hr5
          have e5 : rNum 1 (11, r) = (0, (11, r)) := by simp [rNum, sized, rTake, val, valN, wrap64]
          rw [e5] at C5
          exact ⟨C5, HB4.out.trans hb5, hg5.size⟩
        have tail2 : ∀ w5 w6, w4.heap.size ≤ w5.heap.size → Is w5 (fun k => w1.heap.size ≤ k ∧ k < g) g 11 r w6 →
            Calls Try.prog 29 #[.pointer (some ⟨g, 0, none⟩), .int .i64 0] w6 (Got w6 (fun k => w1.heap.size ≤ k ∧ k < g) g ([], (11, r))) ∧ Below w.heap.size w5 w6 ∧ w5.heap.size ≤ w6.heap.size := by
          intro w5 w6 hl5 his6
          have hb6 := his6.to_below (B := w.heap.size) (by omega) (by omega)
          obtain ⟨A6, c6, hr6, hg6⟩ := his6
          have C6 := rraw_any _ g (11, r) A6 c6 0 w6 hr6
          have e6 : rRaw 0 (11, r) = ([], (11, r)) := by simp [rRaw, rTake]
          rw [e6] at C6
          exact ⟨C6, hb6, hg6.size⟩
        have T1 := Lib.hid tail
        have T2 := Lib.hid tail2
        clear tail tail2
        cases bt
        all_goals
          go_wp2_with (go_at_call 24; refine HF.out.mono ?_; rintro en w5 ⟨rfl, rfl⟩)
          refine HLF.out.mono ?_
          rintro en w5 ⟨rfl, rfl⟩
          go_wp2_with fail
          refine HF.out.mono ?_
          rintro en w5 ⟨rfl, rfl⟩
          go_wp2_with fail
          refine HT.out.mono ?_
          rintro en w5 ⟨rfl, his5⟩
          obtain ⟨C5, hb5, hl5⟩ := T1.out w5 ⟨rfl, his5⟩
          have HC5 := Lib.hid C5
          have HB5 := Lib.hid hb5
          clear C5 hb5 his5
          go_wp2_with fail
          refine HC5.out.mono ?_
          rintro en w6 ⟨rfl, his6⟩
          obtain ⟨C6, hb6, hl6⟩ := T2.out w5 w6 hl5 his6
          have HC6 := Lib.hid C6
          have HB6 := Lib.hid (HB5.out.trans hb6)
          clear C6 hb6 his6
          go_wp2_with fail
          refine HC6.out.mono ?_
          rintro en w7 ⟨A7, c7, rfl, _, his7⟩
          have HB7 := Lib.hid (HB6.out.trans (his7.to_below (B := w.heap.size) (by omega) (by omega)))
          obtain ⟨A8, c8, hr8, _⟩ := his7
          have HL8 := Lib.hid (rleft_any _ g 11 A8 c8 r w7 hr8)
          have HE8 := Lib.hid (rend_any _ g (11, r) A8 c8 w7 hr8)
          clear hr8
          go_wp2_with fail
          refine HL8.out.mono ?_
          rintro en w8 ⟨rfl, rfl⟩
          go_wp2_with fail
          refine HE8.out.mono ?_
          rintro en w9 ⟨rfl, rfl⟩
          go_wp2_with fail
          go_ret
          exact ⟨rfl, HB7.out⟩
    · obtain rfl : k = n := by omega
      have htk : ps.drop k = [] := List.drop_eq_nil_of_le (by rw [HL.out]; exact Nat.le_refl _)
      rw [htk] at hml
      exact absurd hml (by simp [encAll])
end Go.Proofs.Ytkgkgagnpmhoiaa
