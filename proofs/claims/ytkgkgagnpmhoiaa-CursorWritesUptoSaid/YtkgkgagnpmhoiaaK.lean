/-
  The document's own reader: what its functions answer, for every input.
-/
import Derived.Test.YtkgkgagnpmhoiaaC
namespace Go.Proofs.Ytkgkgagnpmhoiaa
open Go.RowKit

theorem greatest_any (size : Int) (w : World) : Calls Try.prog 59 #[.int .i64 size] w fun e w' => e = .returned (.int .i64 (if size = 1 then 255 else if size = 2 then 65535 else if size = 4 then 4294967295 else 0)) ∧ w = w' := by
  by_cases h1 : size = 1
  · subst h1
    go_enter Try.func59, Try.ntmps59
    go_wp2
    go_ret
    exact ⟨rfl, rfl⟩
  by_cases h2 : size = 2
  · subst h2
    go_enter Try.func59, Try.ntmps59
    go_wp2
    go_ret
    exact ⟨rfl, rfl⟩
  by_cases h4 : size = 4
  · subst h4
    go_enter Try.func59, Try.ntmps59
    go_wp2
    go_ret
    exact ⟨rfl, rfl⟩
  have b1 : (size == 1) = false := by simpa using h1
  have b2 : (size == 2) = false := by simpa using h2
  have b4 : (size == 4) = false := by simpa using h4
  rw [if_neg h1, if_neg h2, if_neg h4]
  clear h1 h2 h4
  go_enter Try.func59, Try.ntmps59
  go_wp2
  go_ret
  exact ⟨rfl, rfl⟩

theorem sizedR_any (size : Int) (w : World) : Calls Try.prog 53 #[.int .i64 size] w fun e w' => e = .returned (.bool (sized size)) ∧ w = w' := by
  have C := greatest_any size w
  by_cases h8 : size = 8
  · subst h8
    go_enter Try.func53, Try.ntmps53
    go_wp2_with fail
    go_ret
    exact ⟨rfl, rfl⟩
  have b8 : (size == 8) = false := by simpa using h8
  have hs : sized size = decide (0 < (if size = 1 then (255 : Int) else if size = 2 then 65535 else if size = 4 then 4294967295 else 0)) := by
    rw [Bool.eq_iff_iff]
    simp only [sized, decide_eq_true_eq]
    split
    · omega
    · split
      · omega
      · split <;> omega
  rw [hs]
  have HC := Lib.hid C
  clear C h8 hs
  generalize (if size = 1 then (255 : Int) else if size = 2 then 65535 else if size = 4 then 4294967295 else 0) = m at *
  go_enter Try.func53, Try.ntmps53
  go_wp2_with (go_at_call 59; refine HC.out.mono ?_; rintro en w' ⟨rfl, rfl⟩)
  go_ret
  exact ⟨rfl, rfl⟩

/-- The document's reader in memory. -/
structure Rr (w : World) (P : Nat → Prop) (g : Nat) (e : Int) (A : Option Addr) (c : Nat) (rest : List UInt8) : Prop where
  blk : w.heap[g]? = some (.cells #[.slice A rest.length c, .int .i64 e] 47 (0, 0))
  src : Src w P A rest.length c (cells rest)
  ne : ¬ P g
  lim : c ≤ 9223372036854775807
  small : rest.length ≤ 140737488355328
theorem Rr.lt {w : World} {P : Nat → Prop} {g : Nat} {e : Int} {A : Option Addr} {c : Nat} {rest : List UInt8} (h : Rr w P g e A c rest) : g < w.heap.size := by
  rcases Nat.lt_or_ge g w.heap.size with hlt | hge
  · exact hlt
  · have := h.blk; rw [Array.getElem?_eq_none hge] at this; cases this
def IsR (w : World) (P : Nat → Prop) (g : Nat) (e : Int) (rest : List UInt8) (w' : World) : Prop := ∃ A c, Rr w' P g e A c rest ∧ w.grownBy w' (some g)
def ReadR (w : World) (P : Nat → Prop) (g : Nat) (v : Value) (e : Int) (rest : List UInt8) (en : Ending) (w' : World) : Prop := en = .returned v ∧ IsR w P g e rest w'
def TookR (w : World) (P : Nat → Prop) (g : Nat) (t : List UInt8 × St) (en : Ending) (w' : World) : Prop :=
  ∃ A c, en = .returned (.slice A t.1.length c) ∧ Src w' P A t.1.length c (cells t.1) ∧ IsR w P g t.2.1 t.2.2 w'
theorem Rr.set {w : World} {P : Nat → Prop} {g : Nat} {e : Int} {A : Option Addr} {c : Nat} {rest : List UInt8} (h : Rr w P g e A c rest) {A' : Option Addr} {c' : Nat} {rest' : List UInt8} (hs : Src w P A' rest'.length c' (cells rest')) (hl : c' ≤ 9223372036854775807) (hm : rest'.length ≤ 140737488355328) :
    Rr (w.setCell ⟨g, 0, none⟩ (.slice A' rest'.length c')) P g e A' c' rest' := by
  refine ⟨?_, hs.keep fun k hk _ => heap_setCell_other _ _ _ _ (fun e => h.ne (by rw [← show k = g from e]; exact hk)), h.ne, hl, hm⟩
  rw [heap_setCell_same w g 0 _ _ _ h.blk]
  rfl
theorem Rr.fail {w : World} {P : Nat → Prop} {g : Nat} {e : Int} {A : Option Addr} {c : Nat} {rest : List UInt8} (h : Rr w P g e A c rest) (k : Int) : Rr (w.setCell ⟨g, 1, none⟩ (.int .i64 k)) P g k A c rest := by
  refine ⟨?_, h.src.keep fun k hk _ => heap_setCell_other _ _ _ _ (fun e => h.ne (by rw [← show k = g from e]; exact hk)), h.ne, h.lim, h.small⟩
  rw [heap_setCell_same w g 1 _ _ _ h.blk]
  rfl

theorem wrapu_in (n : Nat) (h : n < 256 ^ 8) : IntKind.u64.wrap (n : Int) = n := by
  have e : (256 : Nat) ^ 8 = 18446744073709551616 := by decide
  rw [e] at h
  simp [IntKind.wrap, IntKind.bits, IntKind.signed]
  omega

theorem cells_get (l : List UInt8) (k : Nat) (h : k < l.length) : (cells l)[k]? = some (.int .u8 (l[k].toNat : Int)) := by simp [cells, u8, h]
theorem value_step (l : List UInt8) (j : Nat) (h : j < l.length) (h8 : l.length ≤ 8) : IntKind.u64.wrap (IntKind.u64.wrap (((valN (l.drop (j + 1)) : Nat) : Int) * 256) + IntKind.u64.wrap (l[j].toNat : Int)) = ((valN (l.drop j) : Nat) : Int) := by
  have e : l.drop j = l[j] :: l.drop (j + 1) := List.drop_eq_getElem_cons h
  have hv : valN (l.drop j) = l[j].toNat + 256 * valN (l.drop (j + 1)) := by rw [e]; rfl
  have hb := l[j].toNat_lt
  have h1 := valN_lt (l.drop j)
  have h2 : 256 ^ (l.drop j).length ≤ 256 ^ 8 := Nat.pow_le_pow_right (by omega) (by rw [List.length_drop]; omega)
  have w1 : IntKind.u64.wrap (((valN (l.drop (j + 1)) : Nat) : Int) * 256) = ((valN (l.drop (j + 1)) * 256 : Nat) : Int) := by
    have := wrapu_in (valN (l.drop (j + 1)) * 256) (by omega)
    rw [← this]
    congr 1
  have e8 : (256 : Nat) ^ 8 = 18446744073709551616 := by decide
  have w2 : IntKind.u64.wrap (l[j].toNat : Int) = ((l[j].toNat : Nat) : Int) := wrapu_in _ (by rw [e8]; omega)
  rw [w1, w2, ← Int.natCast_add, wrapu_in _ (by omega), hv]
  omega

set_option maxHeartbeats 400000 in
theorem valueR_any (P : Nat → Prop) (A : Option Addr) (n c : Nat) (l : List UInt8) (w : World) (h : Src w P A n c (cells l)) (hn : n ≤ 8) :
    Calls Try.prog 56 #[.slice A n c] w fun e w' => e = .returned (.int .i64 (val l)) ∧ w = w' := by
  have hl : l.length = n := by have := h.len; simpa [cells_len] using this
  have HL := Lib.hid hl
  have HX := Lib.hid h
  clear h hl
  go_enter Try.func56, Try.ntmps56
  go_wp2_with fail
  go_loop [3, 4] (fun u i => ∃ j : Nat, j ≤ n ∧ i = .int .i64 ((j : Int) - 1) ∧ u = .int .u64 (valN (l.drop j) : Int)) (fun _ i => (intOf i + 1).toNat)
  case atStart => exact ⟨n, Nat.le_refl _, rfl, by rw [← HL.out, List.drop_length]; rfl⟩
  case round =>
    obtain ⟨j, hj, rfl, rfl⟩ := hrel
    cases j with
    | succ j =>
      have hkl : j < l.length := by rw [HL.out]; omega
      obtain ⟨ad, rfl⟩ : ∃ ad, A = some ad := by
        cases A with
        | none => have := (HX.out.nil rfl).1; omega
        | some ad => exact ⟨ad, rfl⟩
      have hcell : w.cell? (ad.add j) = some (.int .u8 (l[j].toNat : Int)) := HX.out.at_ ad rfl j _ (cells_get l j hkl)
      have hcap := HX.out.cap
      have HS := Lib.hid (value_step l j hkl (by rw [HL.out]; exact hn))
      go_wp2
      exact ⟨⟨j, by omega, rfl, by rw [HS.out]⟩, by simp [intOf]⟩
    | zero =>
      go_wp2
      go_ret
      exact ⟨rfl, rfl⟩

/-! Num. -/
set_option maxHeartbeats 1000000 in
theorem mnum_any (P : Nat → Prop) (g : Nat) (s : St) (A : Option Addr) (c : Nat) (size : Int) (w : World) (h : Rr w P g s.1 A c s.2) :
    Calls Try.prog 41 #[.pointer (some ⟨g, 0, none⟩), .int .i64 size] w (ReadR w P g (.int .i64 (rNum size s).1) (rNum size s).2.1 (rNum size s).2.2) := by
  obtain ⟨e, rest⟩ := s
  change Rr w P g e A c rest at h
  have hc0 : w.cell? ⟨g, 0, none⟩ = some (.slice A rest.length c) := cell_of_row w g 0 _ _ _ h.blk
  have hc1 : w.cell? ⟨g, 1, none⟩ = some (.int .i64 e) := cell_of_row w g 1 _ _ _ h.blk
  have hf0 : w.frozen? ⟨g, 0, none⟩ = false := frozen_of_row w g 0 _ _ h.blk
  have hf1 : w.frozen? ⟨g, 1, none⟩ = false := frozen_of_row w g 1 _ _ h.blk
  have hcap := h.src.cap
  have hlim := h.lim
  have H := Lib.hid h
  by_cases he : e = 0
  case neg =>
    have b1 : (e == 0) = false := by simpa using he
    have b2 : (e != 0) = true := by simpa using he
    have er : rNum size ((e, rest) : St) = (0, (e, rest)) := by
      unfold rNum
      split
      · simp [rTake, he, val, valN, wrap64]
      · simp
    rw [er]
    clear h er he
    go_enter Try.func41, Try.ntmps41
    go_wp2_with fail
    go_ret
    exact ⟨rfl, A, c, H.out, World.grownBy.refl _ _⟩
  subst he
  by_cases hs : sized size = true
  case neg =>
    have hs' : sized size = false := by simpa using hs
    have er : rNum size ((0, rest) : St) = (0, (1, rest)) := by
      unfold rNum
      rw [if_neg hs]
      rfl
    rw [er]
    have HS := Lib.hid hs'
    clear h er hs hs'
    go_enter Try.func41, Try.ntmps41
    go_wp2_with (go_at_call 53; refine (sizedR_any size _).mono ?_; rw [HS.out]; rintro en w' ⟨rfl, rfl⟩)
    go_ret
    exact ⟨rfl, A, c, H.out.fail 1, grown_set _ _ _ _⟩
  obtain ⟨k, rfl⟩ : ∃ k : Nat, size = k := ⟨size.toNat, by simp only [sized, decide_eq_true_eq] at hs; omega⟩
  have hk8 : k ≤ 8 := by simp only [sized, decide_eq_true_eq] at hs; omega
  have HS := Lib.hid hs
  by_cases hlt : rest.length < k
  · have er : rNum k ((0, rest) : St) = (0, (11, rest)) := by
      unfold rNum
      rw [if_pos hs, Int.toNat_natCast]
      have : rTake k ((0, rest) : St) = ([], (11, rest)) := by unfold rTake; rw [if_pos rfl, if_neg (by show ¬ k ≤ rest.length; omega)]
      rw [this]
      simp [val, valN, wrap64]
    rw [er]
    clear h er hs
    go_enter Try.func41, Try.ntmps41
    go_wp2_with (go_at_call 53; refine (sizedR_any k _).mono ?_; rw [HS.out]; rintro en w' ⟨rfl, rfl⟩)
    go_ret
    exact ⟨rfl, A, c, H.out.fail 11, grown_set _ _ _ _⟩
  · have er : rNum k ((0, rest) : St) = (val (rest.take k), (0, rest.drop k)) := by
      unfold rNum
      rw [if_pos hs, Int.toNat_natCast]
      have : rTake k ((0, rest) : St) = (rest.take k, (0, rest.drop k)) := by unfold rTake; rw [if_pos rfl, if_pos (by show k ≤ rest.length; omega)]
      rw [this]
    rw [er]
    have hfr := h.src.front k (by omega)
    have hfl : (rest.take k).length = k := by rw [List.length_take]; omega
    have hdl : (rest.drop k).length = rest.length - k := List.length_drop
    rw [hfl] at hfr
    have HV := Lib.hid (valueR_any P A k c (rest.take k) w hfr hk8)
    have HD := Lib.hid hdl
    clear h er hs hfr hfl hdl
    go_enter Try.func41, Try.ntmps41
    go_wp2_with (first
      | (go_at_call 53; refine (sizedR_any k _).mono ?_; rw [HS.out]; rintro en w' ⟨rfl, rfl⟩)
      | (go_at_call 56; refine HV.out.mono ?_; rintro en w' ⟨rfl, rfl⟩))
    all_goals
      have h := H.out
    · rename_i hcn
      subst hcn
      go_ret
      have hr := h.set h.src.last (Nat.zero_le _) (by rw [HD.out]; have := h.small; omega)
      rw [HD.out] at hr
      exact ⟨rfl, A, 0, hr, grown_set _ _ _ _⟩
    · go_ret
      have hr := h.set (h.src.rest k (by omega)) (by omega) (by rw [HD.out]; have := h.small; omega)
      rw [HD.out] at hr
      exact ⟨rfl, _, c - k, hr, grown_set _ _ _ _⟩

/-! Raw. -/
set_option maxHeartbeats 1000000 in
theorem mraw_any (P : Nat → Prop) (g : Nat) (s : St) (A : Option Addr) (c : Nat) (n : Int) (w : World) (h : Rr w P g s.1 A c s.2) :
    Calls Try.prog 44 #[.pointer (some ⟨g, 0, none⟩), .int .i64 n] w (TookR w P g (rRaw n s)) := by
  obtain ⟨e, rest⟩ := s
  change Rr w P g e A c rest at h
  have hc0 : w.cell? ⟨g, 0, none⟩ = some (.slice A rest.length c) := cell_of_row w g 0 _ _ _ h.blk
  have hc1 : w.cell? ⟨g, 1, none⟩ = some (.int .i64 e) := cell_of_row w g 1 _ _ _ h.blk
  have hf0 : w.frozen? ⟨g, 0, none⟩ = false := frozen_of_row w g 0 _ _ h.blk
  have hf1 : w.frozen? ⟨g, 1, none⟩ = false := frozen_of_row w g 1 _ _ h.blk
  have hcap := h.src.cap
  have hlim := h.lim
  have H := Lib.hid h
  by_cases he : e = 0
  case neg =>
    have b1 : (e == 0) = false := by simpa using he
    have b2 : (e != 0) = true := by simpa using he
    have er : rRaw n ((e, rest) : St) = ([], (e, rest)) := by
      unfold rRaw
      split
      · simp
      · simp [rTake, he]
    rw [er]
    clear h er he
    go_enter Try.func44, Try.ntmps44
    go_wp2_with fail
    go_ret
    exact ⟨none, 0, rfl, src_nil _ _, A, c, H.out, World.grownBy.refl _ _⟩
  subst he
  by_cases hn : n < 0
  · have er : rRaw n ((0, rest) : St) = ([], (1, rest)) := by
      unfold rRaw
      rw [if_pos hn]
      rfl
    rw [er]
    clear h er
    go_enter Try.func44, Try.ntmps44
    go_wp2_with fail
    go_ret
    exact ⟨none, 0, rfl, src_nil _ _, A, c, H.out.fail 1, grown_set _ _ _ _⟩
  obtain ⟨k, rfl⟩ : ∃ k : Nat, n = k := ⟨n.toNat, by omega⟩
  by_cases hlt : rest.length < k
  · have er : rRaw k ((0, rest) : St) = ([], (11, rest)) := by
      unfold rRaw
      rw [if_neg hn, Int.toNat_natCast]
      unfold rTake
      rw [if_pos rfl, if_neg (by show ¬ k ≤ rest.length; omega)]
    rw [er]
    clear h er hn
    go_enter Try.func44, Try.ntmps44
    go_wp2_with fail
    go_ret
    exact ⟨none, 0, rfl, src_nil _ _, A, c, H.out.fail 11, grown_set _ _ _ _⟩
  · have er : rRaw k ((0, rest) : St) = (rest.take k, (0, rest.drop k)) := by
      unfold rRaw
      rw [if_neg hn, Int.toNat_natCast]
      unfold rTake
      rw [if_pos rfl, if_pos (by show k ≤ rest.length; omega)]
    rw [er]
    have hfl : (rest.take k).length = k := by rw [List.length_take]; omega
    have hdl : (rest.drop k).length = rest.length - k := List.length_drop
    have HD := Lib.hid hdl
    have HL := Lib.hid hfl
    have hkr : k ≤ rest.length := by omega
    have hkc : k ≤ c := by omega
    clear h er hn hfl hdl
    go_enter Try.func44, Try.ntmps44
    go_wp2_with fail
    all_goals
      have h := H.out
      have hfr := (h.src.front k (by omega))
    · rename_i hcn
      subst hcn
      go_ret
      have hr := h.set h.src.last (Nat.zero_le _) (by rw [HD.out]; have := h.small; omega)
      rw [HD.out] at hr
      exact ⟨A, c, by show _ = Ending.returned (.slice A (rest.take c).length c); rw [HL.out]; rfl, hfr.keep fun k hk _ => heap_setCell_other _ _ _ _ (fun e => h.ne (by rw [← show k = g from e]; exact hk)), A, 0, hr, grown_set _ _ _ _⟩
    · go_ret
      have hr := h.set (h.src.rest k (by omega)) (by omega) (by rw [HD.out]; have := h.small; omega)
      rw [HD.out] at hr
      exact ⟨A, c, by show _ = Ending.returned (.slice A (rest.take k).length c); rw [HL.out]; rfl, hfr.keep fun k hk _ => heap_setCell_other _ _ _ _ (fun e => h.ne (by rw [← show k = g from e]; exact hk)), _, c - k, hr, grown_set _ _ _ _⟩

theorem mend_any (P : Nat → Prop) (g : Nat) (s : St) (A : Option Addr) (c : Nat) (w : World) (h : Rr w P g s.1 A c s.2) :
    Calls Try.prog 45 #[.pointer (some ⟨g, 0, none⟩)] w fun en w' => en = .returned (.int .i64 (rEnd s)) ∧ w = w' := by
  obtain ⟨e, rest⟩ := s
  change Rr w P g e A c rest at h
  have hc0 : w.cell? ⟨g, 0, none⟩ = some (.slice A rest.length c) := cell_of_row w g 0 _ _ _ h.blk
  have hc1 : w.cell? ⟨g, 1, none⟩ = some (.int .i64 e) := cell_of_row w g 1 _ _ _ h.blk
  by_cases he : e = 0
  · subst he
    clear h
    cases rest with
    | nil =>
      go_enter Try.func45, Try.ntmps45
      go_wp2_with fail
      go_ret
      exact ⟨rfl, rfl⟩
    | cons b r =>
      go_enter Try.func45, Try.ntmps45
      go_wp2_with fail
      go_ret
      exact ⟨rfl, rfl⟩
  · have he' : (e == 0) = false := by simpa using he
    have hr : rEnd (e, rest) = e := by simp [rEnd, he]
    rw [hr]
    clear h hr he
    go_enter Try.func45, Try.ntmps45
    go_wp2_with fail
    go_ret
    exact ⟨rfl, rfl⟩
end Go.Proofs.Ytkgkgagnpmhoiaa
