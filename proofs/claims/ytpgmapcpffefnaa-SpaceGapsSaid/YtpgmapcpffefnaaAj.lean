/-
  A script in memory, played.
-/
import Derived.Test.YtpgmapcpffefnaaAi
namespace Go.Proofs.Ytpgmapcpffefnaa
open Go.RowKit

structure Acs (w : World) (P : Nat → Prop) (A : Option Addr) (n c : Nat) (xs : List Ac) : Prop where
  len : xs.length = n
  nil : A = none → n = 0 ∧ c = 0
  cap : n ≤ c
  blk : ∀ ad, A = some ad → 0 < n → P ad.block
  at_ : ∀ ad, A = some ad → ∀ i (hi : i < xs.length), ∃ Ai ci, AcV w P xs[i] Ai ci ∧ ∀ j u, (acells xs[i] Ai ci)[j]? = some u → w.cell? (ad.add (i * 5 + j)) = some u
theorem Acs.keep {w w' : World} {P : Nat → Prop} {A : Option Addr} {n c : Nat} {xs : List Ac} (h : Acs w P A n c xs) (hk : ∀ k, P k → k < w.heap.size → w'.heap[k]? = w.heap[k]?) : Acs w' P A n c xs :=
  ⟨h.len, h.nil, h.cap, h.blk, fun ad hA i hi => by
    obtain ⟨Ai, ci, h1, h2⟩ := h.at_ ad hA i hi
    refine ⟨Ai, ci, h1.keep hk, fun j u hu => ?_⟩
    have h3 := h2 j u hu
    have hb := h.blk ad hA (by rw [← h.len]; omega)
    rw [World.cell?_of_block (hk _ (by rw [addBlock]; exact hb) (World.block_lt_of_cell? w _ h3))]
    exact h3⟩
theorem Acs.cells {w : World} {P : Nat → Prop} {ad : Addr} {n c : Nat} {xs : List Ac} (h : Acs w P (some ad) n c xs) (k : Nat) (hk : k < xs.length) :
    ∃ b o Ai ci, ad = ⟨b, o, none⟩ ∧ AcV w P xs[k] Ai ci ∧ w.cell? ⟨b, o + k * 5, none⟩ = some (.int .i64 xs[k].do_) ∧ w.cell? ⟨b, o + k * 5 + 1, none⟩ = some (.int .i64 xs[k].at_) ∧
      w.cell? ⟨b, o + k * 5 + 2, none⟩ = some (.int .i64 xs[k].n) ∧ w.cell? ⟨b, o + k * 5 + 3, none⟩ = some (.int .i64 xs[k].perm) ∧ w.cell? ⟨b, o + k * 5 + 4, none⟩ = some (.slice Ai xs[k].b.length ci) := by
  obtain ⟨Ai, ci, hv, hcl⟩ := h.at_ ad rfl k hk
  obtain ⟨b, o, spot⟩ := ad
  have hs : spot = none := by
    obtain ⟨_, _, _, hc0⟩ := h.at_ _ rfl 0 (by omega)
    have h0 := World.cell?_spot (hc0 0 _ rfl)
    simpa [Addr.add] using h0
  subst hs
  have f : ∀ j u, (acells xs[k] Ai ci)[j]? = some u → w.cell? ⟨b, o + (k * 5 + j), none⟩ = some u := fun j u hu => by rw [← plainAdd]; exact hcl j u hu
  exact ⟨b, o, Ai, ci, rfl, hv, f 0 _ rfl, f 1 _ rfl, f 2 _ rfl, f 3 _ rfl, f 4 _ rfl⟩
def playS (ss : List Seg) (xs : List Ac) : List Seg := xs.foldl (fun ss x => (actS ss x).2.2) ss
theorem playS_snoc (ss : List Seg) (xs : List Ac) (k : Nat) (hk : k < xs.length) : playS ss (xs.take (k + 1)) = (actS (playS ss (xs.take k)) xs[k]).2.2 := by
  unfold playS
  rw [List.take_succ_eq_append_getElem hk, List.foldl_append]
  rfl
theorem good_play (xs : List Ac) : ∀ {ss : List Seg}, Good ss → Good (playS ss xs) := by
  induction xs with
  | nil => exact fun h => h
  | cons x xs ih => exact fun h => ih (good_act h x)
def PlayedS (w0 : World) (xs : List Ac) (e : Ending) (w' : World) : Prop := ∃ g, e = .returned (.pointer (some ⟨g, 0, none⟩)) ∧ Ws w0 w' g (playS [] xs)
set_option maxHeartbeats 2000000 in
set_option maxRecDepth 100000 in
theorem played_any (Ap : Option Addr) (n cp : Nat) (xs : List Ac) (w0 w : World) (hb : Below w0.heap.size w0 w) (h : Acs w0 (fun k => k < w0.heap.size) Ap n cp xs) (hn : n ≤ 140737488351232) :
    Calls Try.prog 21 #[.slice Ap n cp] w (PlayedS w0 xs) := by
  have HL := Lib.hid h.len
  have HN := Lib.hid (New_w w0 w hb)
  have HX := Lib.hid h
  generalize hL : PlayedS w0 xs = L at *
  have HLL := Lib.hid hL
  clear h hb hL
  go_enter Try.func21, Try.ntmps21
  go_wp2_with fail
  refine HN.out.mono ?_
  rintro en w1 ⟨rfl, h1⟩
  have H1 := Lib.hid h1
  clear h1 HN
  generalize w.heap.size = g at *
  go_wp2_with fail
  go_loopw [4] (fun i wr => ∃ k : Nat, k ≤ n ∧ i = .int .i64 k ∧ Ws w0 wr g (playS [] (xs.take k))) (fun i _ => n - (intOf i).toNat)
  case atStart => exact ⟨0, Nat.zero_le _, rfl, H1.out⟩
  case round =>
    obtain ⟨k, hk, rfl, hat⟩ := hrel
    by_cases hlt : k < n
    · have hkl : k < xs.length := by rw [HL.out]; exact hlt
      obtain ⟨ad, rfl⟩ : ∃ ad, Ap = some ad := by
        cases Ap with
        | none => have := (HX.out.nil rfl).1; omega
        | some ad => exact ⟨ad, rfl⟩
      obtain ⟨b, o, Ai, ci, rfl, hv, k0, k1, k2, k3, k4⟩ := (HX.out.keep fun k hk _ => hat.1.block k hk).cells k hkl
      have hcp := HX.out.cap
      have hsz := hat.1.size
      have HC := Lib.hid (hat.act (f := 17) (args := #[.pointer (some ⟨g, 0, none⟩), .agg (acells xs[k] Ai ci)]) (v := .tuple #[.int .i64 (actS (playS [] (xs.take k)) xs[k]).1, .int .i64 (actS (playS [] (xs.take k)) xs[k]).2.1]) (ss' := (actS (playS [] (xs.take k)) xs[k]).2.2) fun F hl => does_any xs[k] Ai ci hl hv fun q hq => ⟨fun hf => by have := (hl.lt hf).1; omega, by omega⟩)
      rw [← playS_snoc [] xs k hkl] at HC
      unfold acells at HC
      generalize (actS (playS [] (xs.take k)) xs[k]).1 = r0 at *
      generalize (actS (playS [] (xs.take k)) xs[k]).2.1 = r1 at *
      generalize hv0 : xs[k].do_ = x0 at *
      generalize hv1 : xs[k].at_ = x1 at *
      generalize hv2 : xs[k].n = x2 at *
      generalize hv3 : xs[k].perm = x3 at *
      generalize hv4 : xs[k].b.length = x4 at *
      clear hat hv hv0 hv1 hv2 hv3 hv4 hsz
      go_wp2_with (go_at_call 17; refine HC.out.mono ?_; rintro en w7 ⟨rfl, hw⟩; have HA := Lib.hid hw; clear hw)
      go_roundw
      case rel => exact ⟨k + 1, by omega, by go_num, HA.out⟩
      case measure => simp [intOf]; omega
    · obtain rfl : k = n := by omega
      have htk : xs.take k = xs := List.take_of_length_le (by rw [HL.out]; exact Nat.le_refl _)
      rw [htk] at hat
      have HAT := Lib.hid hat
      clear hat htk
      go_wp2
      first | go_ret | skip
      rw [← HLL.out]
      exact ⟨g, rfl, HAT.out⟩
end Go.Proofs.Ytpgmapcpffefnaa
