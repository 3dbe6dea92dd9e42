/-
  A script in memory; what a store is behind it; how a script, bytes and texts come in.
-/
import Derived.Test.YtmabhciijdceoaaDoorU
import Derived.Test.YtmabhciijdceoaaDoorL
import Derived.Test.YtmabhciijdceoaaDoorOp
namespace Go.Proofs.YtmabhciijdceoaaDoor
open Go.RowKit Go.Maps

theorem AcV.weak {w : World} {P Q : Nat → Prop} {x : Ac} {A : Option Addr} {c : Nat} (h : AcV w P x A c) (hk : ∀ k, P k → Q k) : AcV w Q x A c := ⟨h.by_.weak hk, h.la, h.lb, h.lby⟩
/-- A script in memory. -/
structure Acs (w : World) (P : Nat → Prop) (A : Option Addr) (n c : Nat) (xs : List Ac) : Prop where
  len : xs.length = n
  nil : A = none → n = 0 ∧ c = 0
  cap : n ≤ c
  blk : ∀ ad, A = some ad → 0 < n → P ad.block
  at_ : ∀ ad, A = some ad → ∀ i (hi : i < xs.length), ∃ Ai ci, AcV w P xs[i] Ai ci ∧ ∀ j u, (acells xs[i] Ai ci)[j]? = some u → w.cell? (ad.add (i * 4 + j)) = some u
theorem Acs.keep {w w' : World} {P : Nat → Prop} {A : Option Addr} {n c : Nat} {xs : List Ac} (h : Acs w P A n c xs) (hk : ∀ k, P k → k < w.heap.size → w'.heap[k]? = w.heap[k]?) : Acs w' P A n c xs :=
  ⟨h.len, h.nil, h.cap, h.blk, fun ad hA i hi => by
    obtain ⟨Ai, ci, h1, h2⟩ := h.at_ ad hA i hi
    refine ⟨Ai, ci, h1.keep hk, fun j u hu => ?_⟩
    have h3 := h2 j u hu
    have hb := h.blk ad hA (by rw [← h.len]; omega)
    rw [World.cell?_of_block (hk _ (by rw [addBlock]; exact hb) (World.block_lt_of_cell? w _ h3))]
    exact h3⟩
theorem plainAdd (b o k : Nat) : (⟨b, o, none⟩ : Addr).add k = ⟨b, o + k, none⟩ := by unfold Addr.add; split <;> simp_all
theorem Acs.cells {w : World} {P : Nat → Prop} {ad : Addr} {n c : Nat} {xs : List Ac} (h : Acs w P (some ad) n c xs) (k : Nat) (hk : k < xs.length) :
    ∃ b o Ai ci, ad = ⟨b, o, none⟩ ∧ AcV w P xs[k] Ai ci ∧ w.cell? ⟨b, o + k * 4, none⟩ = some (.int .i64 xs[k].do_) ∧ w.cell? ⟨b, o + k * 4 + 1, none⟩ = some (str xs[k].a) ∧
      w.cell? ⟨b, o + k * 4 + 2, none⟩ = some (str xs[k].b) ∧ w.cell? ⟨b, o + k * 4 + 3, none⟩ = some (.slice Ai xs[k].by_.length ci) := by
  obtain ⟨Ai, ci, hv, hcl⟩ := h.at_ ad rfl k hk
  obtain ⟨b, o, spot⟩ := ad
  have hs : spot = none := by
    obtain ⟨_, _, _, hc0⟩ := h.at_ _ rfl 0 (by omega)
    have h0 := World.cell?_spot (hc0 0 _ rfl)
    simpa [Addr.add] using h0
  subst hs
  have f : ∀ j u, (acells xs[k] Ai ci)[j]? = some u → w.cell? ⟨b, o + (k * 4 + j), none⟩ = some u := fun j u hu => by rw [← plainAdd]; exact hcl j u hu
  exact ⟨b, o, Ai, ci, rfl, hv, f 0 _ rfl, f 1 _ rfl, f 2 _ rfl, f 3 _ rfl⟩

def Played (w : World) (xs : List Ac) (e : Ending) (w' : World) : Prop := ∃ sb mb, e = .returned (.pointer (some ⟨sb, 0, none⟩)) ∧ At w w' sb mb (playM ⟨newD, 0⟩ xs)

set_option maxHeartbeats 2000000 in
set_option maxRecDepth 100000 in
theorem played_any (Ap : Option Addr) (n cp : Nat) (xs : List Ac) (w : World) (h : Acs w (fun k => k < w.heap.size) Ap n cp xs) (hm : Ml w) (hn : n ≤ 140737488351232) :
    Calls Tryd.prog 13 #[.slice Ap n cp] w (Played w xs) := by
  have HL := Lib.hid h.len
  have HN := Lib.hid (new_any w hm)
  have HX := Lib.hid h
  clear h hm
  go_enter Tryd.func13, Tryd.ntmps13
  go_wp2_with fail
  refine HN.out.mono ?_
  rintro en w1 ⟨sb, mb, rfl, h1, h2, h3, h4⟩
  have HA1 := Lib.hid (show At w w1 sb mb ⟨newD, 0⟩ from ⟨h3, h4, h1, h2⟩)
  clear h1 h2 h3 h4
  go_wp2_with fail
  go_loopw [4] (fun i wr => ∃ k : Nat, k ≤ n ∧ i = .int .i64 k ∧ At w wr sb mb (playM ⟨newD, 0⟩ (xs.take k))) (fun i _ => n - (intOf i).toNat)
  case atStart => exact ⟨0, Nat.zero_le _, rfl, HA1.out⟩
  case round =>
    obtain ⟨k, hk, rfl, hat⟩ := hrel
    by_cases hlt : k < n
    · have hkl : k < xs.length := by rw [HL.out]; exact hlt
      obtain ⟨ad, rfl⟩ : ∃ ad, Ap = some ad := by
        cases Ap with
        | none => have := (HX.out.nil rfl).1; omega
        | some ad => exact ⟨ad, rfl⟩
      obtain ⟨hi, hpu⟩ := play_left (xs.take k) ⟨newD, 0⟩ inv_new
      have hpu' : (playM ⟨newD, 0⟩ (xs.take k)).puts ≤ 4611686018427387904 := by
        have : (xs.take k).length ≤ n := by rw [List.length_take]; omega
        simp only at hpu
        omega
      obtain ⟨b, o, Ai, ci, rfl, hv, k0, k1, k2, k3⟩ := (HX.out.keep fun k hk _ => hat.below.block k hk).cells k hkl
      have C := does_any w.heap.size sb mb (playM ⟨newD, 0⟩ (xs.take k)) xs[k] Ai ci wr hat.sto hi.good hv ⟨hat.sb, hat.mb⟩ hpu'
      unfold acells at C
      have HC := Lib.hid C
      have HAT := Lib.hid hat
      have hcp := HX.out.cap
      have HSN := Lib.hid (playM_snoc xs k hkl ⟨newD, 0⟩)
      clear hat hi hpu hpu' hv C
      go_wp2_with (go_at_call 20; refine HC.out.mono ?_; rintro en w7 hdo; have HA := Lib.hid (HAT.out.does hdo); obtain ⟨rfl, _⟩ := HA.out; clear hdo)
      go_roundw
      case rel => exact ⟨k + 1, by omega, by go_num, by rw [HSN.out]; exact HA.out.2⟩
      case measure => simp [intOf]; omega
    · obtain rfl : k = n := by omega
      have htk : xs.take k = xs := List.take_of_length_le (by rw [HL.out]; exact Nat.le_refl _)
      rw [htk] at hat
      have HAT := Lib.hid hat
      clear hat htk
      go_wp2
      go_ret
      exact ⟨sb, mb, rfl, HAT.out⟩

end Go.Proofs.YtmabhciijdceoaaDoor
