/-
  Numbers as they are written: the program's and the document's.
-/
import Derived.Test.YtoebboimdkogpaaDoorJ
import Derived.Lib.AtoiAllCases
import Derived.Lib.ItoaLen
import Derived.Lib.AtoiErrMem
import Derived.Stop.IfaceNil
namespace Go.Proofs.YtoebboimdkogpaaDoor
open Go.RowKit

/-! What is written is read as it was. -/
theorem parse_dec : ∀ (f u : Nat) (l : Str), u ≤ f → u < 18446744073709551616 → Lib.parseUint10 0 (Lib.decDigits u ++ l) = Lib.parseUint10 u l
  | f, u, l, hf, hu => by
    rw [Lib.decDigits]
    split
    · rename_i h
      have hc : (UInt8.ofNat (48 + u)).toNat = 48 + u := by rw [UInt8.toNat_ofNat', Nat.mod_eq_of_lt (by omega)]
      rw [List.singleton_append, Lib.parseUint10, hc, if_pos (by omega), if_neg (by omega), if_neg (by omega)]
      congr 1
      omega
    · rename_i h
      match f, hf with
      | 0, hf => omega
      | f + 1, hf =>
        have hc : (UInt8.ofNat (48 + u % 10)).toNat = 48 + u % 10 := by rw [UInt8.toNat_ofNat', Nat.mod_eq_of_lt (by omega)]
        rw [List.append_assoc, parse_dec f (u / 10) _ (by omega) (by omega), List.singleton_append, Lib.parseUint10, hc, if_pos (by omega), if_neg (by omega), if_neg (by omega)]
        congr 1
        omega
theorem dec_head : ∀ (f u : Nat), u ≤ f → ∃ c r, Lib.decDigits u = c :: r ∧ 48 ≤ c.toNat ∧ c.toNat ≤ 57
  | f, u, hf => by
    rw [Lib.decDigits]
    split
    · exact ⟨_, _, rfl, by rw [UInt8.toNat_ofNat', Nat.mod_eq_of_lt (by omega)]; omega, by rw [UInt8.toNat_ofNat', Nat.mod_eq_of_lt (by omega)]; omega⟩
    · match f, hf with
      | 0, hf => omega
      | f + 1, hf =>
        obtain ⟨c, r, he, h1, h2⟩ := dec_head f (u / 10) (by omega)
        exact ⟨c, r ++ [UInt8.ofNat (48 + u % 10)], by rw [he]; rfl, h1, h2⟩
theorem mag_dec (u : Nat) (hu : u < 18446744073709551616) : Lib.parseMag (Lib.decDigits u) = .ok u := by
  obtain ⟨c, r, he, _⟩ := dec_head u u (Nat.le_refl _)
  have h := parse_dec u u [] (Nat.le_refl _) hu
  rw [List.append_nil] at h
  rw [Lib.parseMag, if_neg (by rw [he]; simp), h]
  rfl
theorem atoi_itoa (v : Int) (hv : I64 v) : Lib.atoiAll (Lib.itoa v) = .ok v := by
  obtain ⟨h1, h2⟩ := hv
  unfold Lib.itoa
  split
  · rename_i h
    rw [Lib.atoiAll_minus, mag_dec _ (by omega), Lib.signed, if_neg (by omega)]
    congr 1
    omega
  · rename_i h
    obtain ⟨c, r, he, h3, h4⟩ := dec_head v.toNat v.toNat (Nat.le_refl _)
    have hm := mag_dec v.toNat (by omega)
    rw [he] at hm ⊢
    rw [Lib.atoiAll_plain c r (by omega) (by omega), hm, Lib.signless, if_neg (by omega)]
    congr 1
    omega
/-- The number that a text is. -/
def decM (s : Str) : Option Int := match Lib.atoiAll s with
  | .ok v => if Lib.itoa v = s then some v else none
  | _ => none
theorem decM_some {s : Str} {v : Int} (h : decM s = some v) : s = Lib.itoa v ∧ I64 v := by
  unfold decM at h
  split at h
  · rename_i u hu
    split at h
    · rename_i he
      cases h
      exact ⟨he.symm, Lib.atoiAll_bounds hu⟩
    · cases h
  · cases h
theorem decM_itoa (v : Int) (hv : I64 v) : decM (Lib.itoa v) = some v := by
  unfold decM
  rw [atoi_itoa v hv]
  simp
theorem decM_none {s : Str} (h : decM s = none) (v : Int) (hv : I64 v) : Lib.itoa v ≠ s := by
  intro e
  rw [← e, decM_itoa v hv] at h
  cases h

/-! What the library's texts and tables are, in every world of these calls. -/
structure Env (w : World) : Prop where
  sh : Shps w
  tab : Lib.TabIs Tryd.prog w "internal/strconv.uint64pow10" .u64 Lib.pow10Tab
  syn : ∃ te pe, w.cell? ⟨3, 0, none⟩ = some (.iface te pe)
  rng : ∃ te pe, w.cell? ⟨4, 0, none⟩ = some (.iface te pe)
  ml : ∃ m, w.cell? ⟨1, 0, none⟩ = some (.int .i64 m)
theorem Env.below {w w' : World} (h : Env w) (hb : Below w.heap.size w w') : Env w' := by
  refine ⟨h.sh.below hb, Lib.tabBelow_of_tabIs h.tab w' hb, ?_, ?_, ?_⟩
  · obtain ⟨te, pe, h⟩ := h.syn
    exact ⟨te, pe, cell_below hb h⟩
  · obtain ⟨te, pe, h⟩ := h.rng
    exact ⟨te, pe, cell_below hb h⟩
  · obtain ⟨m, h⟩ := h.ml
    exact ⟨m, cell_below hb h⟩
theorem below_grow (w : World) (k : Nat) (os : Array Obj) : Below w.heap.size w (Sort.grow (w.drewN k) os) :=
  ⟨rfl, rfl, rfl, by rw [Sort.size_grow]; exact Nat.le_add_right _ _, fun j hj => Sort.heap_grow_old (w.drewN k) os hj⟩
theorem itoa_any (v : Int) (hv : I64 v) (w : World) (h : Env w) : Calls Tryd.prog 46 #[.int .i64 v] w fun e w' => e = .returned (str (Lib.itoa v)) ∧ Below w.heap.size w w' :=
  (Tryd.strconv_Itoa v hv.1 hv.2 w h.tab).mono fun e w' h2 => ⟨h2.1, by obtain ⟨k, os, rfl⟩ := h2.2; exact below_grow w k os⟩
/-- Behind an Atoi. -/
theorem atoi_any (s : Str) (w : World) (h : Env w) (hs : s.length ≤ 281474976710656) :
    Calls Tryd.prog 62 #[str s] w fun e w' => Below w.heap.size w w' ∧ ((∃ v, Lib.atoiAll s = .ok v ∧ e = .returned (.tuple #[.int .i64 v, .nilIface])) ∨
      (decM s = none ∧ ∃ v t p, I64 v ∧ e = .returned (.tuple #[.int .i64 v, .iface t (.pointer (some p))]))) := by
  have hz : (ByteArray.mk s.toArray).size = s.length := by simp [ByteArray.size]
  rcases ha : Lib.atoiAll s with v | _ | _
  · refine (Tryd.strconv_Atoi_ok ⟨s.toArray⟩ (by rw [hz]; omega) v ha w).mono fun e w' h2 => ⟨?_, .inl ⟨v, rfl, h2.1⟩⟩
    rcases h2.2 with rfl | ⟨t, rfl⟩
    · exact Below.refl _ _
    · exact Lib.bytesWorld_below _ _ _
  · obtain ⟨te, pe, hc⟩ := h.syn
    refine (Tryd.strconv_Atoi_syntax ⟨s.toArray⟩ (by rw [hz]; exact hs) ha _ w hc (.inr ⟨te, pe, rfl⟩)).mono fun e w' h2 => ?_
    obtain ⟨N, he, _, _, hb⟩ := h2
    exact ⟨hb, .inr ⟨by unfold decM; rw [ha], _, _, _, ⟨by omega, by omega⟩, he⟩⟩
  · obtain ⟨te, pe, hc⟩ := h.rng
    refine (Tryd.strconv_Atoi_range ⟨s.toArray⟩ (by rw [hz]; exact hs) ha _ w hc (.inr ⟨te, pe, rfl⟩)).mono fun e w' h2 => ?_
    obtain ⟨N, he, _, _, hb⟩ := h2
    refine ⟨hb, .inr ⟨by unfold decM; rw [ha], _, _, _, ?_, he⟩⟩
    unfold Lib.atoiSat I64
    split <;> (try split) <;> omega

/-- A number that was read, or none. -/
def Read (w : World) (s : Str) (e : Ending) (w' : World) : Prop :=
  Below w.heap.size w w' ∧ ∃ v ok, e = .returned (.tuple #[.int .i64 v, .bool ok]) ∧ decM s = if ok = true then some v else none

theorem eqb (a b : Str) (h : a ≠ b) : (a == b) = false := by
  rw [beq_eq_false_iff_ne]
  exact h
set_option maxRecDepth 100000 in
theorem decimal_any (s : Str) (w : World) (h : Env w) (hs : s.length ≤ 281474976710656) : Calls Tryd.prog 60 #[str s] w (Read w s) := by
  have HA := Lib.hid (atoi_any s w h hs)
  have HE := Lib.hid h
  have hif : Tryd.prog.isIface 97 = true := by kernel_rfl
  clear h
  go_enter Tryd.func60, Tryd.ntmps60
  go_wp2_with fail
  refine HA.out.mono ?_
  rintro e w1 ⟨hb, ⟨v, hv, rfl⟩ | ⟨hn, v, t, p, hv, rfl⟩⟩
  · have HB := Lib.hid hb
    have HV := Lib.hid hv
    have HI := Lib.hid (itoa_any v (Lib.atoiAll_bounds hv) w1 (HE.out.below hb))
    have HD := Lib.hid (show decM s = if Lib.itoa v = s then some v else none by unfold decM; rw [hv])
    clear hb hv HA
    generalize Lib.itoa v = x at *
    by_cases hx : x = s
    · have HD := Lib.hid (HD.out.trans (if_pos hx))
      subst hx
      have hq : (x == x) = true := beq_self_eq_true x
      go_wp2_with fail
      refine HI.out.mono ?_
      rintro e w2 ⟨rfl, hb2⟩
      have HB2 := Lib.hid (HB.out.trans (hb2.mono HB.out.size))
      clear hb2
      go_wp2
      go_ret2
      exact ⟨HB2.out, v, true, rfl, HD.out⟩
    · have HD := Lib.hid (HD.out.trans (if_neg hx))
      have hq : (x == s) = false := eqb x s hx
      clear hx
      go_wp2_with fail
      refine HI.out.mono ?_
      rintro e w2 ⟨rfl, hb2⟩
      have HB2 := Lib.hid (HB.out.trans (hb2.mono HB.out.size))
      clear hb2
      go_wp2
      go_ret2
      exact ⟨HB2.out, v, false, rfl, HD.out⟩
  · have HB := Lib.hid hb
    have HN := Lib.hid hn
    clear hb hn HA
    go_wp2
    go_ret2
    exact ⟨HB.out, v, false, rfl, HN.out⟩

set_option maxRecDepth 100000 in
theorem number_any (s : Str) (w : World) (h : Env w) (hs : s.length ≤ 281474976710656) : Calls Tryd.prog 53 #[str s] w (Read w s) := by
  have HA := Lib.hid (atoi_any s w h hs)
  have HE := Lib.hid h
  clear h
  go_enter Tryd.func53, Tryd.ntmps53
  go_wp2_with fail
  refine HA.out.mono ?_
  rintro e w1 ⟨hb, ⟨v, hv, rfl⟩ | ⟨hn, v, t, p, hv, rfl⟩⟩
  · have HB := Lib.hid hb
    have HI := Lib.hid (itoa_any v (Lib.atoiAll_bounds hv) w1 (HE.out.below hb))
    have HD := Lib.hid (show decM s = if Lib.itoa v = s then some v else none by unfold decM; rw [hv])
    clear hb hv HA
    generalize Lib.itoa v = x at *
    by_cases hx : x = s
    · have HD := Lib.hid (HD.out.trans (if_pos hx))
      subst hx
      have hq : (x == x) = true := beq_self_eq_true x
      go_wp2_with fail
      refine HI.out.mono ?_
      rintro e w2 ⟨rfl, hb2⟩
      have HB2 := Lib.hid (HB.out.trans (hb2.mono HB.out.size))
      clear hb2
      go_wp2
      go_ret2
      exact ⟨HB2.out, v, true, rfl, HD.out⟩
    · have HD := Lib.hid (HD.out.trans (if_neg hx))
      have hq : (x == s) = false := eqb x s hx
      clear hx
      go_wp2_with fail
      refine HI.out.mono ?_
      rintro e w2 ⟨rfl, hb2⟩
      have HB2 := Lib.hid (HB.out.trans (hb2.mono HB.out.size))
      clear hb2
      go_wp2
      go_ret2
      exact ⟨HB2.out, v, false, rfl, HD.out⟩
  · have HB := Lib.hid hb
    have HN := Lib.hid hn
    have HI := Lib.hid (itoa_any v hv w1 (HE.out.below hb))
    have hq : (Lib.itoa v == s) = false := eqb _ s (decM_none hn v hv)
    clear hb hn HA
    generalize Lib.itoa v = x at *
    go_wp2_with fail
    refine HI.out.mono ?_
    rintro e w2 ⟨rfl, hb2⟩
    have HB2 := Lib.hid (HB.out.trans (hb2.mono HB.out.size))
    clear hb2
    go_wp2
    go_ret2
    exact ⟨HB2.out, v, false, rfl, HN.out⟩
end Go.Proofs.YtoebboimdkogpaaDoor
