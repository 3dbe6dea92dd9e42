/-
  The law of regions that lie apart, walked.
-/
import Derived.Test.YthbdncojekpanaaAj
namespace Go.Proofs.Ythbdncojekpanaa
open Go.RowKit

/-- A slice of regions that reads as this list. -/
structure Gls (w : World) (A : Option Addr) (n c : Nat) (l : List Rg) : Prop where
  len : l.length = n
  nil : A = none → n = 0 ∧ c = 0
  cap : n ≤ c
  at_ : ∀ b o j, A = some ⟨b, o, none⟩ → ∀ (hj : j < l.length), w.cell? ⟨b, o + j * 3, none⟩ = some (.int .i64 l[j].at_) ∧ w.cell? ⟨b, o + j * 3 + 1, none⟩ = some (.int .i64 l[j].size) ∧ w.cell? ⟨b, o + j * 3 + 2, none⟩ = some (.int .i64 l[j].perm)
  plain : ∀ ad, A = some ad → ∃ b o, ad = ⟨b, o, none⟩
theorem Gls.below {w w' : World} {A : Option Addr} {n c : Nat} {l : List Rg} (h : Gls w A n c l) (hb : Below w.heap.size w w') : Gls w' A n c l :=
  ⟨h.len, h.nil, h.cap, fun b o j hA hj => by
    obtain ⟨h0, h1, h2⟩ := h.at_ b o j hA hj
    exact ⟨cell_below hb h0, cell_below hb h1, cell_below hb h2⟩, h.plain⟩
theorem gcells_at (l : List Rg) : ∀ (k : Nat) (hk : k < l.length) (j : Nat), j < 3 → (gcells l)[k * 3 + j]? = (rgC l[k])[j]? := by
  induction l with
  | nil => intro k hk; simp at hk
  | cons r l ih =>
    intro k hk j hj
    have e : gcells (r :: l) = rgC r ++ gcells l := rfl
    rw [e]
    cases k with
    | zero => rw [Nat.zero_mul, Nat.zero_add, List.getElem?_append_left (by show j < 3; exact hj)]; rfl
    | succ k =>
      rw [List.getElem?_append_right (by show 3 ≤ _; omega)]
      have : (k + 1) * 3 + j - (rgC r).length = k * 3 + j := by show (k + 1) * 3 + j - 3 = _; omega
      rw [this]
      exact ih k (by simpa using hk) j hj
theorem Gls.of_own {w : World} {B : Nat} {A : Option Addr} {c : Nat} {l : List Rg} (h : w.ownsRow B 49 3 (.slice A l.length c) l.length (gcells l)) : Gls w A l.length c l := by
  rcases h.2 with ⟨hv, h0⟩ | ⟨g, cap, cur, hv, _, _, hle, _⟩
  · injection hv with h1 _ h2
    subst h1 h2
    exact ⟨rfl, fun _ => ⟨h0, rfl⟩, by omega, (by intro b o j hA; cases hA), (by intro ad hA; cases hA)⟩
  · injection hv with h1 _ h2
    subst h1 h2
    refine ⟨rfl, (by intro hA; cases hA), hle, ?_, (by intro ad hA; cases hA; exact ⟨_, _, rfl⟩)⟩
    intro b o j hA hj
    cases hA
    have hc := h.cells (g := g) rfl
    have e := fun i hi => gcells_at l j hj i hi
    have k := fun i u (hu : (gcells l)[j * 3 + i]? = some u) => hc (j * 3 + i) u hu
    have k0 := k 0 _ (e 0 (by omega))
    have k1 := k 1 _ (e 1 (by omega))
    have k2 := k 2 _ (e 2 (by omega))
    rw [plainAdd] at k0 k1 k2
    simp only [Nat.zero_add, Nat.add_zero, ← Nat.add_assoc] at k0 k1 k2 ⊢
    exact ⟨k0, k1, k2⟩
theorem Ws.regions {w0 w : World} {g : Nat} {ss : List Seg} (h : Ws w0 w g ss) : Calls Try.prog 22 #[.pointer (some ⟨g, 0, none⟩)] w fun e w' => ∃ A c, e = .returned (.slice A ss.length c) ∧ Gls w' A ss.length c (ss.map rgS) ∧ Ws w0 w' g ss := by
  obtain ⟨hb, F, hl⟩ := h
  refine (Regions_s hl).mono fun e w' ⟨A, c, h1, h2, h3⟩ => ⟨A, c, ?_, ?_, Ws.quiet ⟨hb, F, hl⟩ h3⟩
  · rw [h1, List.length_map]
  · have := Gls.of_own h2
    rwa [List.length_map] at this
theorem Good.next_at {ss : List Seg} (h : Good ss) {j k : Nat} (hj : j < ss.length) (hk : k < ss.length) (hjk : j < k) : ss[j].at_ + ss[j].size ≤ ss[k].at_ := List.pairwise_iff_getElem.1 h.next j k hj hk hjk
theorem rgs_at {ss : List Seg} {k : Nat} (hk : k < ss.length) : (ss.map rgS)[k]'(by rw [List.length_map]; exact hk) = rgS ss[k] := List.getElem_map ..
set_option maxRecDepth 100000 in
set_option maxHeartbeats 4000000 in
theorem apart_any (A0 : Option Addr) (n0 c0 : Nat) (xs : List Ac) (w : World) (h : Acs w (fun k => k < w.heap.size) A0 n0 c0 xs) (hn : n0 ≤ 140737488351232) :
    Calls Try.prog 4 #[.slice A0 n0 c0] w fun e w' => e = .returned (.bool true) ∧ Below w.heap.size w w' := by
  have HX := Lib.hid h
  clear h
  go_enter Try.func4, Try.ntmps4
  go_wp2_with fail
  refine (awake_any w).mono ?_
  rintro e w1 ⟨rfl, hb⟩
  have HP := Lib.hid (played_any A0 n0 c0 xs w w1 hb HX.out hn)
  clear hb
  go_wp2_with fail
  refine HP.out.mono ?_
  rintro e w2 ⟨g, rfl, h2⟩
  have HR := Lib.hid h2.regions
  have hg := good_play xs good_nil
  have HG := Lib.hid hg
  generalize playS [] xs = ss at *
  clear HP h2 hg
  go_wp2_with fail
  refine HR.out.mono ?_
  rintro e w3 ⟨A, c, rfl, hl, h3⟩
  have HL := Lib.hid hl
  have HW := Lib.hid h3
  have hfew : ss.length ≤ 67108864 := by
    obtain ⟨_, F, A', c', rs, h1, h2, _, _⟩ := h3
    rw [← h2, segs_len]
    exact ord_few h1.ord
  generalize hn1 : ss.length = n at *
  have HN := Lib.hid hn1
  clear hl h3 HR hn1
  go_wp2_with fail
  go_loopw [5, 7] (fun t5 t7 wr => ∃ (k : Nat) (e : Int), k ≤ n ∧ t7 = .int .i64 k ∧ t5 = .int .i64 e ∧ (∀ (j : Nat) (hj : j < ss.length), k ≤ j → e ≤ ss[j].at_) ∧ e ≤ 4294967296 ∧ Below w3.heap.size w3 wr) (fun _ t7 _ => n - (intOf t7).toNat)
  case atStart => exact ⟨0, 4096, Nat.zero_le _, rfl, rfl, fun j hj _ => (HG.out.fit _ (List.getElem_mem hj)).1, by omega, Below.refl _ _⟩
  case round =>
    obtain ⟨k, e, hk, rfl, rfl, he, he2, hb⟩ := hrel
    have HE := Lib.hid he
    have HB := Lib.hid hb
    clear he hb
    by_cases hlt : k < n
    · have hkr : k < ss.length := by rw [HN.out]; exact hlt
      obtain ⟨ad, rfl⟩ : ∃ ad, A = some ad := by
        cases A with
        | none => have := (HL.out.nil rfl).1; omega
        | some ad => exact ⟨ad, rfl⟩
      obtain ⟨b, o, rfl⟩ := HL.out.plain ad rfl
      obtain ⟨k0, k1, k2⟩ := (HL.out.below HB.out).at_ b o k rfl (by rw [List.length_map]; exact hkr)
      rw [rgs_at hkr] at k0 k1 k2
      have hcap := HL.out.cap
      obtain ⟨f1, f2, f3, f4, f5, f6, f7, f8⟩ := HG.out.fit ss[k] (List.getElem_mem hkr)
      have f0 := HE.out k hkr (Nat.le_refl _)
      have HNX := Lib.hid (show ∀ (j : Nat) (hj : j < ss.length), k + 1 ≤ j → ss[k].at_ + ss[k].size ≤ ss[j].at_ from fun j hj hkj => HG.out.next_at hkr hj (by omega))
      have k0' : wr.cell? ⟨b, o + k * 3, none⟩ = some (.int .i64 ss[k].at_) := k0
      have k1' : wr.cell? ⟨b, o + k * 3 + 1, none⟩ = some (.int .i64 ss[k].size) := k1
      have k2' : wr.cell? ⟨b, o + k * 3 + 2, none⟩ = some (.int .i64 ss[k].perm) := k2
      clear k0 k1 k2
      generalize ss[k].at_ = a0 at *
      generalize ss[k].size = s0 at *
      generalize ss[k].perm = p0 at *
      have t1 : (a0.tmod 64 == 0) = true := by rw [tmod64]; exact decide_eq_true f2
      have t2 : (s0.tmod 64 == 0) = true := by rw [tmod64]; exact decide_eq_true f5
      have e1 : IntKind.i64.wrap (a0 + s0) = a0 + s0 := by rw [IntKind.wrap_i64]; omega
      clear HN
      go_wp2_with fail
      go_quiet (fail)
      go_wp2_with fail
      exact ⟨⟨k + 1, a0 + s0, by omega, by go_num, rfl, HNX.out, by omega, below_drewN HB.out _⟩, by simp [intOf]; omega⟩
    · obtain rfl : k = n := by omega
      have HE3 := Lib.hid (HW.out.quiet HB.out).1
      have e3 : decide (e ≤ 4294967296) = true := decide_eq_true he2
      go_wp2_with fail
      first | go_ret | skip
      exact ⟨by first | rfl | simp [*], HE3.out⟩
end Go.Proofs.Ythbdncojekpanaa
