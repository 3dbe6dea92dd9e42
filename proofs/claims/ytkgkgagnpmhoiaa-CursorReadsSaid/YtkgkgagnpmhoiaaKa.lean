/-
  The document's own reader, on: a piece behind its length; texts and blocks.
-/
import Derived.Test.YtkgkgagnpmhoiaaK
namespace Go.Proofs.Ytkgkgagnpmhoiaa
open Go.RowKit

/-- What is known ahead of a walk of a method of the document's reader. -/
theorem Rr.facts {w : World} {P : Nat → Prop} {g : Nat} {e : Int} {A : Option Addr} {c : Nat} {rest : List UInt8} (h : Rr w P g e A c rest) :
    w.cell? ⟨g, 0, none⟩ = some (.slice A rest.length c) ∧ w.cell? ⟨g, 1, none⟩ = some (.int .i64 e) ∧ w.frozen? ⟨g, 0, none⟩ = false ∧ w.frozen? ⟨g, 1, none⟩ = false :=
  ⟨cell_of_row w g 0 _ _ _ h.blk, cell_of_row w g 1 _ _ _ h.blk, frozen_of_row w g 0 _ _ h.blk, frozen_of_row w g 1 _ _ h.blk⟩

set_option maxHeartbeats 1000000 in
theorem prefixed_err (P : Nat → Prop) (g : Nat) (e : Int) (rest : List UInt8) (A : Option Addr) (c : Nat) (size most : Nat) (w : World) (h : Rr w P g e A c rest) (he : e ≠ 0) :
    Calls Try.prog 57 #[.pointer (some ⟨g, 0, none⟩), .int .i64 size, .int .i64 most] w (TookR w P g (rMeas size most (e, rest))) := by
  obtain ⟨hc0, hc1, hf0, hf1⟩ := h.facts
  have H := Lib.hid h
  have b1 : (e == 0) = false := by simpa using he
  have b2 : (e != 0) = true := by simpa using he
  have er : rMeas size most ((e, rest) : St) = ([], (e, rest)) := by simp [rMeas, he]
  rw [er]
  clear h er he
  go_enter Try.func57, Try.ntmps57
  go_wp2_with fail
  go_ret
  exact ⟨none, 0, rfl, src_nil _ _, A, c, H.out, World.grownBy.refl _ _⟩

set_option maxHeartbeats 1000000 in
theorem prefixed_short (P : Nat → Prop) (g : Nat) (rest : List UInt8) (A : Option Addr) (c : Nat) (size most : Nat) (w : World) (h : Rr w P g 0 A c rest) (hlt : rest.length < size) :
    Calls Try.prog 57 #[.pointer (some ⟨g, 0, none⟩), .int .i64 size, .int .i64 most] w (TookR w P g (rMeas size most (0, rest))) := by
  obtain ⟨hc0, hc1, hf0, hf1⟩ := h.facts
  have H := Lib.hid h
  have er : rMeas size most ((0, rest) : St) = ([], (11, rest)) := by simp [rMeas, hlt]
  rw [er]
  clear h er
  go_enter Try.func57, Try.ntmps57
  go_wp2_with fail
  go_ret
  exact ⟨none, 0, rfl, src_nil _ _, A, c, H.out.fail 11, grown_set _ _ _ _⟩

set_option maxHeartbeats 2000000 in
theorem prefixed_in (P : Nat → Prop) (g : Nat) (rest : List UInt8) (A : Option Addr) (c : Nat) (size most : Nat) (w : World) (h : Rr w P g 0 A c rest) (hge : size ≤ rest.length) (h4 : size ≤ 4) (hm : most ≤ 1048576) :
    Calls Try.prog 57 #[.pointer (some ⟨g, 0, none⟩), .int .i64 size, .int .i64 most] w (TookR w P g (rMeas size most (0, rest))) := by
  obtain ⟨hc0, hc1, hf0, hf1⟩ := h.facts
  have H := Lib.hid h
  have hcap := h.src.cap
  have hlim := h.lim
  have hsc : size ≤ c := by omega
  have hfr := h.src.front size hge
  have hfl : (rest.take size).length = size := by rw [List.length_take]; omega
  rw [hfl] at hfr
  have hv := val_small (rest.take size) (by omega)
  have hb := valN_lt (rest.take size)
  have h2 : 256 ^ (rest.take size).length ≤ 256 ^ 4 := Nat.pow_le_pow_right (by omega) (by omega)
  have h3 : (256 : Nat) ^ 4 = 4294967296 := by decide
  have C := valueR_any P A size c (rest.take size) w hfr (by omega)
  rw [hv] at C
  have er : rMeas size most ((0, rest) : St) = if most < valN (rest.take size) then ([], (2, rest)) else if rest.length - size < valN (rest.take size) then ([], (11, rest)) else
      ((rest.drop size).take (valN (rest.take size)), (0, (rest.drop size).drop (valN (rest.take size)))) := by
    unfold rMeas
    rw [if_pos rfl, if_neg (by show ¬ rest.length < size; omega)]
  rw [er]
  have hN : valN (rest.take size) < 4294967296 := by omega
  generalize valN (rest.take size) = N at *
  have HC := Lib.hid C
  clear h er hfr hfl hv hb h2 h3 C
  by_cases hgt : most < N
  · rw [if_pos hgt]
    go_enter Try.func57, Try.ntmps57
    go_wp2_with (go_at_call 56; refine HC.out.mono ?_; rintro en w' ⟨rfl, rfl⟩)
    go_ret
    exact ⟨none, 0, rfl, src_nil _ _, A, c, H.out.fail 2, grown_set _ _ _ _⟩
  rw [if_neg hgt]
  by_cases hsh : rest.length - size < N
  · rw [if_pos hsh]
    go_enter Try.func57, Try.ntmps57
    go_wp2_with (go_at_call 56; refine HC.out.mono ?_; rintro en w' ⟨rfl, rfl⟩)
    go_ret
    exact ⟨none, 0, rfl, src_nil _ _, A, c, H.out.fail 11, grown_set _ _ _ _⟩
  rw [if_neg hsh]
  have q1 : size + N ≤ rest.length := by omega
  have q2 : size + N ≤ c := by omega
  go_enter Try.func57, Try.ntmps57
  go_wp2_with (go_at_call 56; refine HC.out.mono ?_; rintro en w' ⟨rfl, rfl⟩)
  · have hcs : c = size := by assumption
    subst hcs
    go_ret
    have h := H.out
    have hd : (rest.drop c).length = rest.length - c := List.length_drop
    have hr := h.set h.src.last (Nat.zero_le _) (by rw [hd]; have := h.small; omega)
    rw [hd] at hr
    exact ⟨A, 0, rfl, ⟨rfl, fun _ => ⟨rfl, rfl⟩, Nat.le_refl _, (by intro ad _ h0; exact absurd h0 (by simp)), (by intro ad _ j u hu; simp [cells] at hu)⟩, A, 0, hr, grown_set _ _ _ _⟩
  · have hcN : c = size + N := by assumption
    subst hcN
    go_ret
    have h := H.out
    have hd : (rest.drop (size + N)).length = rest.length - (size + N) := List.length_drop
    have hr := h.set h.src.last (Nat.zero_le _) (by rw [hd]; have := h.small; omega)
    rw [hd] at hr
    have ho := (h.src.rest size hge).front N (by rw [List.length_drop]; omega)
    have hol : ((rest.drop size).take N).length = N := by rw [List.length_take, List.length_drop]; omega
    rw [Nat.add_sub_cancel_left] at ho
    refine ⟨_, N, ?_, ho.keep fun k hk _ => heap_setCell_other _ _ _ _ (fun e => h.ne (by rw [← show k = g from e]; exact hk)), A, 0, hr, grown_set _ _ _ _⟩
    show _ = Ending.returned (.slice _ ((rest.drop size).take N).length N)
    rw [hol]
    rfl
  · go_ret
    have h := H.out
    have hd : (rest.drop (size + N)).length = rest.length - (size + N) := List.length_drop
    have hr := h.set (h.src.rest (size + N) q1) (by omega) (by rw [hd]; have := h.small; omega)
    rw [hd] at hr
    have ho := (h.src.rest size hge).front N (by rw [List.length_drop]; omega)
    have hol : ((rest.drop size).take N).length = N := by rw [List.length_take, List.length_drop]; omega
    refine ⟨_, c - size, ?_, ho.keep fun k hk _ => heap_setCell_other _ _ _ _ (fun e => h.ne (by rw [← show k = g from e]; exact hk)), _, c - (size + N), hr, grown_set _ _ _ _⟩
    show _ = Ending.returned (.slice _ ((rest.drop size).take N).length (c - size))
    rw [hol]
    rfl

theorem prefixed_any (P : Nat → Prop) (g : Nat) (s : St) (A : Option Addr) (c : Nat) (size most : Nat) (w : World) (h : Rr w P g s.1 A c s.2) (h4 : size ≤ 4) (hm : most ≤ 1048576) :
    Calls Try.prog 57 #[.pointer (some ⟨g, 0, none⟩), .int .i64 size, .int .i64 most] w (TookR w P g (rMeas size most s)) := by
  obtain ⟨e, rest⟩ := s
  by_cases he : e = 0
  · subst he
    by_cases hlt : rest.length < size
    · exact prefixed_short P g rest A c size most w h hlt
    · exact prefixed_in P g rest A c size most w h (by omega) h4 hm
  · exact prefixed_err P g e rest A c size most w h he

def SaidR (w : World) (P : Nat → Prop) (g : Nat) (t : List UInt8 × St) (en : Ending) (w' : World) : Prop := en = .returned (.string ⟨t.1.toArray⟩) ∧ IsR w P g t.2.1 t.2.2 w'
set_option maxHeartbeats 400000 in
theorem mtext_any (P : Nat → Prop) (g : Nat) (s : St) (A : Option Addr) (c : Nat) (w : World) (h : Rr w P g s.1 A c s.2) :
    Calls Try.prog 42 #[.pointer (some ⟨g, 0, none⟩)] w (SaidR w P g (rMeas 2 4096 s)) := by
  have C := Lib.hid (prefixed_any P g s A c 2 4096 w h (by omega) (by omega))
  clear h
  generalize rMeas 2 4096 s = t at *
  go_enter Try.func42, Try.ntmps42
  go_wp2_with (go_at_call 57; refine C.out.mono ?_; rintro en w1 ⟨A1, c1, rfl, hsrc, his⟩; have hcv := conv_string hsrc; have HI := Lib.hid his; clear hsrc his)
  go_ret
  exact ⟨rfl, HI.out⟩
set_option maxHeartbeats 400000 in
theorem mblock_any (P : Nat → Prop) (g : Nat) (s : St) (A : Option Addr) (c : Nat) (w : World) (h : Rr w P g s.1 A c s.2) :
    Calls Try.prog 43 #[.pointer (some ⟨g, 0, none⟩)] w (TookR w P g (rMeas 4 1048576 s)) := by
  have C := Lib.hid (prefixed_any P g s A c 4 1048576 w h (by omega) (by omega))
  clear h
  generalize rMeas 4 1048576 s = t at *
  go_enter Try.func43, Try.ntmps43
  go_wp2_with (go_at_call 57; refine C.out.mono ?_; rintro en w1 ⟨A1, c1, rfl, hsrc, his⟩; have HQ := Lib.hid hsrc; have HI := Lib.hid his; clear hsrc his)
  go_ret
  exact ⟨A1, c1, rfl, HQ.out, HI.out⟩
end Go.Proofs.Ytkgkgagnpmhoiaa
