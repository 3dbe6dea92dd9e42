/-
  What is known: the first one with a name.
-/
import Derived.Test.YtkpmfahmhmdccaaDoorB
namespace Go.Proofs.YtkpmfahmhmdccaaDoor
open Go.RowKit

/-! What is known. -/
theorem hasName_any (x : Str × Str) (nm : Str) (bn : Nat) (w : World) (hb : Bx w bn #[str nm] 9) :
    Calls Tryd.prog 28 #[.agg (knA x), .pointer (some ⟨bn, 0, none⟩)] w fun e w' => e = .returned (.bool (x.1 == nm)) ∧ Below w.heap.size w w' := by
  have k0 : w.cell? ⟨bn, 0, none⟩ = some (str nm) := hb.c 0
  have hlt := hb.lt
  have k1 := Fil.cell_alloc k0 (.cells (knA x) 50)
  clear hb
  have HB := Lib.hid ((Below.refl w.heap.size w).alloc (Nat.le_refl _) (.cells (knA x) 50))
  go_enter Tryd.func28, Tryd.ntmps28
  go_wp2
  go_ret
  exact ⟨rfl, HB.out⟩

abbrev hasF (bn : Nat) : Value := .func (.func 28) #[] #[.pointer (some ⟨bn, 0, none⟩)]
/-- The place of the first one with a name. -/
def firstK (nm : Str) : List (Str × Str) → Option Nat
  | [] => none
  | x :: r => if x.1 = nm then some 0 else (firstK nm r).map (· + 1)
theorem firstK_none {nm : Str} : ∀ {kn : List (Str × Str)}, (∀ x ∈ kn, x.1 ≠ nm) → firstK nm kn = none ∧ cacheP nm kn = []
  | [], _ => ⟨rfl, rfl⟩
  | (a, p) :: r, h => by
    have h1 := h (a, p) (by simp)
    have := firstK_none (kn := r) (fun x hx => h x (by simp [hx]))
    rw [firstK, cacheP, if_neg h1, if_neg h1, this.1, this.2]
    exact ⟨rfl, rfl⟩
theorem firstK_some {nm : Str} : ∀ {kn : List (Str × Str)} {k : Nat} (hk : k < kn.length), kn[k].1 = nm → (∀ x ∈ kn.take k, x.1 ≠ nm) → firstK nm kn = some k ∧ cacheP nm kn = addP kn[k].2
  | [], _, hk, _, _ => absurd hk (Nat.not_lt_zero _)
  | (a, p) :: r, 0, _, h, _ => by
    have h1 : a = nm := h
    rw [firstK, cacheP, if_pos h1, if_pos h1]
    exact ⟨rfl, rfl⟩
  | (a, p) :: r, k + 1, hk, h, hn => by
    have h1 := hn (a, p) (by simp)
    have := firstK_some (kn := r) (k := k) (by simpa using hk) (by simpa using h) (fun x hx => hn x (by simp [hx]))
    rw [firstK, cacheP, if_neg h1, if_neg h1, this.1, this.2]
    exact ⟨rfl, by simp⟩
theorem firstK_cases (nm : Str) (kn : List (Str × Str)) : (firstK nm kn = none ∧ cacheP nm kn = []) ∨ ∃ k, ∃ h : k < kn.length, firstK nm kn = some k ∧ cacheP nm kn = addP kn[k].2 := by
  induction kn with
  | nil => exact .inl ⟨rfl, rfl⟩
  | cons x r ih =>
    obtain ⟨a, p⟩ := x
    by_cases h : a = nm
    · exact .inr ⟨0, by simp, by rw [firstK, if_pos h], by rw [cacheP, if_pos h]; rfl⟩
    · rcases ih with ⟨h1, h2⟩ | ⟨k, hk, h1, h2⟩
      · exact .inl ⟨by rw [firstK, if_neg h, h1]; rfl, by rw [cacheP, if_neg h, h2]⟩
      · exact .inr ⟨k + 1, by simpa using hk, by rw [firstK, if_neg h, h1]; rfl, by rw [cacheP, if_neg h, h2]; rfl⟩
def placeI (o : Option Nat) : Int := match o with
  | none => -1
  | some k => k
theorem kn_get {kn : List (Str × Str)} {k : Nat} (hk : k < kn.length) : kn.getD k noKn = kn[k] := by simp [List.getD, hk]
set_option maxRecDepth 100000 in
set_option maxHeartbeats 1000000 in
theorem index_any (Q : Nat → Prop) (A : Option Addr) (c : Nat) (kn : List (Str × Str)) (nm : Str) (bn : Nat) (w : World) (h : Kns w Q A kn.length c kn) (hb : Bx w bn #[str nm] 9) (hl : kn.length ≤ 4611686018427387904) :
    Calls Tryd.prog 29 #[.slice A kn.length c, hasF bn] w fun e w' => e = .returned (.int .i64 (placeI (firstK nm kn))) ∧ Below w.heap.size w w' := by
  have HE := Lib.hid h.2
  have HBN := Lib.hid hb
  have hcap := h.2.cap
  have hbl := hb.lt
  have HCS := Lib.hid (And.intro (@firstK_none nm kn) (fun k hk => @firstK_some nm kn k hk))
  generalize firstK nm kn = F at *
  clear h hb
  go_enter Tryd.func29, Tryd.ntmps29
  go_wp2_with fail
  go_loopw [8] (fun t wr => ∃ k : Nat, k ≤ kn.length ∧ t = .int .i64 (k : Int) ∧ (∀ x ∈ kn.take k, x.1 ≠ nm) ∧ Below w.heap.size w wr) (fun t _ => kn.length - (intOf t).toNat)
  case atStart => exact ⟨0, Nat.zero_le _, rfl, by simp, Below.refl _ _⟩
  case round =>
    obtain ⟨k, hk, rfl, hn, hbl2⟩ := hrel
    have HB := Lib.hid hbl2
    have HN := Lib.hid hn
    clear hbl2 hn
    by_cases hlt : k < kn.length
    · obtain ⟨ad, rfl⟩ : ∃ ad, A = some ad := by
        cases A with
        | none => have := (HE.out.nil rfl).1; omega
        | some ad => exact ⟨ad, rfl⟩
      have HX : Els wr (fun j => j < w.heap.size) (some ad) kn.length c 2 (fun k => knA (kn.getD k noKn)) := by
        refine ⟨HE.out.nil, HE.out.cap, fun ad' hA h0 => ?_, fun ad' hA j hj i u hu => ?_⟩
        · have h1 := HE.out.at_ ad' hA 0 h0 0 (str (kn.getD 0 noKn).1) rfl
          have := World.block_lt_of_cell? w _ h1
          rwa [addBlock] at this
        · exact Fil.cell_below HB.out (HE.out.at_ ad' hA j hj i u hu)
      obtain ⟨b, of, rfl⟩ := HX.plain (by omega) rfl
      have c0 : wr.cell? ⟨b, of + k * 2, none⟩ = some (str kn[k].1) := HX.get k hlt 0 (str kn[k].1) (by rw [kn_get hlt]; rfl)
      have c1 : wr.cell? ⟨b, of + k * 2 + 1, none⟩ = some (str kn[k].2) := HX.get k hlt 1 (str kn[k].2) (by rw [kn_get hlt]; rfl)
      have HF := Lib.hid (hasName_any kn[k] nm bn wr (HBN.out.below HB.out))
      have HYES := Lib.hid (fun (h : kn[k].1 = nm) => (HCS.out.2 k hlt h HN.out).1)
      have HNO := Lib.hid (fun (h : ¬ kn[k].1 = nm) => show ∀ x ∈ kn.take (k + 1), x.1 ≠ nm by
        rw [List.take_succ_eq_append_getElem hlt]
        intro x hx
        rcases List.mem_append.1 hx with hx | hx
        · exact HN.out x hx
        · rw [List.mem_singleton.1 hx]; exact h)
      generalize kn[k] = x at *
      obtain ⟨a, p⟩ := x
      simp only at *
      clear HX
      by_cases hq : a = nm
      · have hF := HYES.out hq
        have hqb : (a == nm) = true := by simpa using hq
        rw [hqb] at HF
        clear HYES HNO hq hqb
        go_wp2_with (go_at_call 28; refine HF.out.mono ?_; rintro e w2 ⟨rfl, hb2⟩; have HB2 := Lib.hid (HB.out.trans (hb2.mono HB.out.size)); clear hb2)
        go_ret
        exact ⟨by rw [hF]; rfl, HB2.out⟩
      · have HN2 := Lib.hid (HNO.out hq)
        have hqb : (a == nm) = false := by simpa using hq
        rw [hqb] at HF
        clear HYES HNO hq hqb
        go_wp2_with (go_at_call 28; refine HF.out.mono ?_; rintro e w2 ⟨rfl, hb2⟩; have HB2 := Lib.hid (HB.out.trans (hb2.mono HB.out.size)); clear hb2)
        go_roundw
        case rel => exact ⟨k + 1, by omega, by go_num, HN2.out, HB2.out⟩
        case measure => simp [intOf]; omega
    · obtain rfl : k = kn.length := by omega
      have hF := (HCS.out.1 (by have := HN.out; rwa [List.take_length] at this)).1
      go_wp2
      go_ret
      exact ⟨by rw [hF]; rfl, HB.out⟩
end Go.Proofs.YtkpmfahmhmdccaaDoor
