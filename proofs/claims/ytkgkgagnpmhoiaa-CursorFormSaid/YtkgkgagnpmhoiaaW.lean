/-
  The laws' helper 'same', whole; the law CursorBack: walked.
-/
import Derived.Test.YtkgkgagnpmhoiaaU1
import Derived.Test.YtkgkgagnpmhoiaaU2
import Derived.Test.YtkgkgagnpmhoiaaU3
import Derived.Test.YtkgkgagnpmhoiaaV
namespace Go.Proofs.Ytkgkgagnpmhoiaa
open Go.RowKit

set_option maxHeartbeats 1000000 in
theorem same_none (P : Nat → Prop) (g : Nat) (s : St) (A : Option Addr) (c : Nat) (p : Pc) (An : Option Addr) (cn : Nat) (As : Option Addr) (cs : Nat) (Ab : Option Addr) (cb : Nat) (w : World) (h : Rd w P g s.1 A c s.2)
    (h0 : p.kind ≠ 0) (h1 : p.kind ≠ 1) (h2 : p.kind ≠ 2) (h3 : p.kind ≠ 3) :
    Calls Try.prog 23 #[.pointer (some ⟨g, 0, none⟩), .agg (pcells p An cn As cs Ab cb)] w (Same w P g (true, s)) := by
  obtain ⟨kind, size, n, ns, ss, b⟩ := p
  simp only at h0 h1 h2 h3
  have b0 : (kind == 0) = false := by simpa using h0
  have b1 : (kind == 1) = false := by simpa using h1
  have b2 : (kind == 2) = false := by simpa using h2
  have b3 : (kind == 3) = false := by simpa using h3
  have hr := h.below ((Below.refl _ _).alloc (Nat.le_refl _) (.cells (pcells ⟨kind, size, n, ns, ss, b⟩ An cn As cs Ab cb) 34))
  have HR := Lib.hid hr
  clear h hr h0 h1 h2 h3
  unfold pcells at *
  go_enter Try.func23, Try.ntmps23
  go_wp2
  go_ret
  exact ⟨rfl, A, c, HR.out, World.grownBy_alloc _ _ _⟩

theorem same_any (P Q : Nat → Prop) (g : Nat) (s : St) (A : Option Addr) (c : Nat) (p : Pc) (An : Option Addr) (cn : Nat) (As : Option Addr) (cs : Nat) (Ab : Option Addr) (cb : Nat) (w : World) (h : Rd w P g s.1 A c s.2)
    (hp : PcV w Q p An cn As cs Ab cb) (hq : ∀ k, Q k → k ≠ g) (hn : cost p ≤ 140737488355328) :
    Calls Try.prog 23 #[.pointer (some ⟨g, 0, none⟩), .agg (pcells p An cn As cs Ab cb)] w (Same w P g (rSame p s)) := by
  have hc : cost p = 8 * p.ns.length + room p.ss + p.b.length + 8 := rfl
  have hss := room_ge p.ss
  by_cases h0 : p.kind = 0
  · have e : rSame p s = rNums p.size p.ns s := by unfold rSame; rw [if_pos h0]
    rw [e]
    exact same_nums P Q g s A c p An cn As cs Ab cb w h hp hq h0 (by omega)
  by_cases h1 : p.kind = 1
  · have e : rSame p s = rTexts p.ss s := by unfold rSame; rw [if_neg h0, if_pos h1]
    rw [e]
    exact same_texts P Q g s A c p An cn As cs Ab cb w h hp hq h1 (by omega)
  by_cases h2 : p.kind = 2
  · have e : rSame p s = (decide ((rMeas 4 1048576 s).1 = p.b), (rMeas 4 1048576 s).2) := by unfold rSame; rw [if_neg h0, if_neg h1, if_pos h2]
    rw [e]
    exact same_block P Q g s A c p An cn As cs Ab cb w h hp hq h2 (by omega)
  by_cases h3 : p.kind = 3
  · have e : rSame p s = (decide ((rTake p.b.length s).1 = p.b), (rTake p.b.length s).2) := by unfold rSame; rw [if_neg h0, if_neg h1, if_neg h2, if_pos h3]
    rw [e]
    exact same_raw P Q g s A c p An cn As cs Ab cb w h hp hq h3 (by omega)
  have e : rSame p s = (true, s) := by unfold rSame; rw [if_neg h0, if_neg h1, if_neg h2, if_neg h3]
  rw [e]
  exact same_none P g s A c p An cn As cs Ab cb w h h0 h1 h2 h3

theorem Pcs.i64 {w : World} {P : Nat → Prop} {A : Option Addr} {n c : Nat} {ps : List Pc} (h : Pcs w P A n c ps) : ∀ p ∈ ps, ∀ x ∈ p.ns, I64 x := by
  intro p hp
  obtain ⟨i, hi, rfl⟩ := List.mem_iff_getElem.1 hp
  cases A with
  | none => have := (h.nil rfl).1; have := h.len; omega
  | some ad =>
    obtain ⟨_, _, _, _, _, _, hv, _⟩ := h.at_ ad rfl i hi
    exact hv.i64

set_option maxHeartbeats 2000000 in
set_option maxRecDepth 100000 in
theorem back_any (Ap : Option Addr) (n cp : Nat) (ps : List Pc) (w : World) (h : Pcs w (fun k => k < w.heap.size) Ap n cp ps) (hc : costs ps ≤ 140737488355328) :
    Calls Try.prog 5 #[.slice Ap n cp] w fun en w' => en = .returned (.bool true) ∧ Below w.heap.size w w' := by
  have hl := h.len
  have hge := costs_ge ps
  have hnn : n ≤ 140737488355328 := by omega
  have hall := all_ok ps h.i64 []
  have HL := Lib.hid hl
  have HP := Lib.hid h
  have HOK := Lib.hid hall
  clear h hl hge hall
  go_enter Try.func5, Try.ntmps5
  go_wp2_with fail
  refine (awake_any _).mono ?_
  rintro en w0 ⟨rfl, hb0⟩
  have hl0 : w.heap.size ≤ w0.heap.size := hb0.size
  have HB0 := Lib.hid hb0
  have CW := written_any Ap n cp ps w0 ((HP.out.keep fun k hk _ => HB0.out.block k hk).weak fun k hk => by omega) hc
  have HCW := Lib.hid CW
  clear hb0 CW
  go_wp2_with fail
  refine HCW.out.mono ?_
  rintro en w1 ⟨A1, c1, l1, rfl, hval, hown, hb1⟩
  have hl1 : w0.heap.size ≤ w1.heap.size := hb1.size
  have HB1 := Lib.hid (HB0.out.trans (hb1.mono (by omega)))
  have hlen1 := wAll_len ps (0, [])
  by_cases hok : (wAll ps (0, [])).1 = 0
  case neg =>
    have hok2 : ((wAll ps (0, [])).1 == 0) = false := by simpa using hok
    clear hok hval hown hb1 hlen1
    go_wp2_with fail
    go_ret
    exact ⟨rfl, HB1.out⟩
  have hok2 : ((wAll ps (0, [])).1 == 0) = true := by simpa using hok
  obtain ⟨hE, hback⟩ := HOK.out hok
  have hl1e : l1 = encAll ps := by rw [hval hok, hE]; rfl
  subst hl1e
  have hlim : (encAll ps).length ≤ 140737488355328 := by
    rw [hE] at hlen1
    simp at hlen1
    omega
  have HC2 := Lib.hid (rnew_any _ A1 _ c1 _ w1 (Src.of_own hown) hlim)
  have HBK := Lib.hid hback
  clear hok hval hown hb1 hlen1 hE hback
  go_wp2_with fail
  refine HC2.out.mono ?_
  rintro en w2 ⟨g, A2, c2, rfl, hr2, hb2, hg2⟩
  have hl2 : w1.heap.size ≤ w2.heap.size := hb2.size
  have HB2 := Lib.hid (HB1.out.trans (hb2.mono (by omega)))
  have HR2 := Lib.hid hr2
  clear hr2 hb2
  go_wp2_with fail
  go_loopw [7] (fun i wr => ∃ k : Nat, k ≤ n ∧ i = .int .i64 k ∧ Is w2 (fun k => w1.heap.size ≤ k ∧ k < g) g 0 (encAll (ps.drop k)) wr) (fun i _ => n - (intOf i).toNat)
  case atStart => exact ⟨0, Nat.zero_le _, rfl, A2, c2, HR2.out, World.grownBy.refl _ _⟩
  case round =>
    obtain ⟨k, hk, rfl, his⟩ := hrel
    have hl3 : w2.heap.size ≤ wr.heap.size := by obtain ⟨_, _, _, h⟩ := his; exact h.size
    have HB3 := Lib.hid (HB2.out.trans (his.to_below (B := w.heap.size) (by omega) (by omega)))
    have HIS := Lib.hid his
    obtain ⟨A3, c3, hr3, _⟩ := his
    by_cases hlt : k < n
    · have hkl : k < ps.length := by rw [HL.out]; exact hlt
      obtain ⟨ad, rfl⟩ : ∃ ad, Ap = some ad := by
        cases Ap with
        | none => have := (HP.out.nil rfl).1; omega
        | some ad => exact ⟨ad, rfl⟩
      obtain ⟨b, o, An, cn, As, cs, Ab, cb, rfl, hv, k0, k1, k2, k3, k4, k5⟩ := (HP.out.keep fun k hk _ => HB3.out.block k hk).cells k hkl
      have hcst := costs_take ps k hkl
      have C := same_any _ _ g (0, encAll (ps.drop k)) A3 c3 ps[k] An cn As cs Ab cb wr hr3 hv (fun k hk => by omega) (by omega)
      have e1 : encAll (ps.drop k) = encP ps[k] ++ encAll (ps.drop (k + 1)) := by rw [List.drop_eq_getElem_cons hkl]; rfl
      rw [e1, (HBK.out ps[k] (List.getElem_mem hkl)).1] at C
      unfold pcells at C
      have HC := Lib.hid C
      have hcp := HP.out.cap
      clear hr3 hv C e1 hcst
      go_wp2_with fail
      refine HC.out.mono ?_
      rintro en w4 ⟨rfl, his4⟩
      have HIS4 := Lib.hid his4
      obtain ⟨A4, c4, hr4, _⟩ := his4
      have HF := Lib.hid (rfault_any _ g _ A4 c4 _ w4 hr4)
      clear hr4
      go_wp2_with (go_at_call 24; refine HF.out.mono ?_; rintro en w5 ⟨rfl, rfl⟩)
      exact ⟨⟨k + 1, by omega, by go_num, HIS.out.trans HIS4.out⟩, by simp [intOf]; omega⟩
    · obtain rfl : k = n := by omega
      have htk : ps.drop k = [] := List.drop_eq_nil_of_le (by rw [HL.out]; exact Nat.le_refl _)
      rw [htk] at hr3
      have e0 : encAll [] = [] := rfl
      rw [e0] at hr3
      have HL3 := Lib.hid (rleft_any _ g _ A3 c3 _ wr hr3)
      have HE3 := Lib.hid (rend_any _ g (0, []) A3 c3 wr hr3)
      clear hr3 htk e0
      obtain ⟨wz, rfl⟩ : ∃ wz : World, wz = wr := ⟨_, rfl⟩
      go_wp2_with fail
      refine HL3.out.mono ?_
      rintro en w4 ⟨rfl, rfl⟩
      go_wp2_with fail
      refine HE3.out.mono ?_
      rintro en w5 ⟨rfl, rfl⟩
      go_wp2_with fail
      go_ret
      exact ⟨rfl, HB3.out⟩
end Go.Proofs.Ytkgkgagnpmhoiaa
