/-
  Instructions in memory; whether all of them may be.
-/
import Derived.Test.YtoebboimdkogpaaDoorC
import Derived.Test.YtoebboimdkogpaaDoorE
namespace Go.Proofs.YtoebboimdkogpaaDoor
open Go.RowKit

theorem may_any (i : Ins) (w : World) (hs : Shps w) : Calls Tryd.prog 16 #[insV i] w fun e w' => e = .returned (.int .i64 (if mayB i then 0 else 40)) ∧ Below w.heap.size w w' := by
  by_cases h : i.op < 0 ∨ 23 ≤ i.op
  · have hm : mayB i = false := by rw [mayB, shapeOf_out h]
    rw [hm]
    exact may_out i h w
  · exact may_in i i.op.toNat (by omega) (by omega) w hs

/-- Instructions in memory. -/
structure Isl (w : World) (P : Nat → Prop) (A : Option Addr) (n c : Nat) (is : List Ins) : Prop where
  len : is.length = n
  nil : A = none → n = 0 ∧ c = 0
  cap : n ≤ c
  blk : ∀ ad, A = some ad → 0 < n → P ad.block
  at_ : ∀ ad, A = some ad → ∀ k (hk : k < is.length), w.cell? (ad.add (k * 5)) = some (.int .i64 is[k].op) ∧ w.cell? (ad.add (k * 5 + 1)) = some (.int .i64 is[k].a) ∧ w.cell? (ad.add (k * 5 + 2)) = some (.int .i64 is[k].b) ∧ w.cell? (ad.add (k * 5 + 3)) = some (.int .i64 is[k].c) ∧ w.cell? (ad.add (k * 5 + 4)) = some (.int .i64 is[k].n)
section
variable {w w' : World} {P Q : Nat → Prop} {A : Option Addr} {n c : Nat} {is : List Ins}
theorem Isl.keep (h : Isl w P A n c is) (hk : ∀ k, P k → k < w.heap.size → w'.heap[k]? = w.heap[k]?) : Isl w' P A n c is :=
  ⟨h.len, h.nil, h.cap, h.blk, fun ad hA k hk' => by
    obtain ⟨h0, h1, h2, h3, h4⟩ := h.at_ ad hA k hk'
    have hb := h.blk ad hA (by rw [← h.len]; omega)
    have hh := World.block_lt_of_cell? w _ h0
    rw [addBlock] at hh
    have hkk := hk _ hb hh
    refine ⟨?_, ?_, ?_, ?_, ?_⟩
    · exact (World.cell?_of_block (w := w) (w' := w') (by rw [addBlock]; exact hkk)).trans h0
    · exact (World.cell?_of_block (w := w) (w' := w') (by rw [addBlock]; exact hkk)).trans h1
    · exact (World.cell?_of_block (w := w) (w' := w') (by rw [addBlock]; exact hkk)).trans h2
    · exact (World.cell?_of_block (w := w) (w' := w') (by rw [addBlock]; exact hkk)).trans h3
    · exact (World.cell?_of_block (w := w) (w' := w') (by rw [addBlock]; exact hkk)).trans h4⟩
theorem Isl.weak (h : Isl w P A n c is) (hk : ∀ k, P k → Q k) : Isl w Q A n c is := ⟨h.len, h.nil, h.cap, fun ad hA hn => hk _ (h.blk ad hA hn), h.at_⟩
theorem Isl.below {B : Nat} (h : Isl w P A n c is) (hb : Below B w w') (hP : ∀ k, P k → k < B) : Isl w' P A n c is :=
  h.keep fun k hk _ => hb.block k (hP k hk)
theorem Isl.lt (h : Isl w P A n c is) : Isl w (fun k => k < w.heap.size) A n c is :=
  ⟨h.len, h.nil, h.cap, fun ad hA hn => (by
    have h2 := (h.at_ ad hA 0 (by rw [h.len]; exact hn)).1
    have := World.block_lt_of_cell? w _ h2
    rw [addBlock] at this
    exact this), h.at_⟩
theorem Isl.plain {ad : Addr} (h : Isl w P (some ad) n c is) (h0 : 0 < n) : ∃ b o, ad = ⟨b, o, none⟩ := by
  obtain ⟨b, o, spot⟩ := ad
  have hs : spot = none := by
    have h0 := World.cell?_spot (h.at_ _ rfl 0 (by rw [h.len]; exact h0)).1
    simpa [Addr.add] using h0
  subst hs
  exact ⟨b, o, rfl⟩
theorem Isl.get {b o : Nat} (h : Isl w P (some ⟨b, o, none⟩) n c is) (k : Nat) (hk : k < is.length) :
    w.cell? ⟨b, o + k * 5, none⟩ = some (.int .i64 is[k].op) ∧ w.cell? ⟨b, o + k * 5 + 1, none⟩ = some (.int .i64 is[k].a) ∧ w.cell? ⟨b, o + k * 5 + 2, none⟩ = some (.int .i64 is[k].b) ∧ w.cell? ⟨b, o + k * 5 + 3, none⟩ = some (.int .i64 is[k].c) ∧ w.cell? ⟨b, o + k * 5 + 4, none⟩ = some (.int .i64 is[k].n) := by
  have := h.at_ _ rfl k hk
  simpa only [plainAdd, Nat.add_assoc] using this
end
/-- Their cells, one behind the other. -/
def icells (is : List Ins) : List Value := is.flatMap insC
theorem icells_len (is : List Ins) : (icells is).length = is.length * 5 := by
  induction is with
  | nil => rfl
  | cons i is ih =>
    have : icells (i :: is) = insC i ++ icells is := rfl
    rw [this, List.length_append, ih, List.length_cons]
    simp
    omega
theorem icells_app (a b : List Ins) : icells (a ++ b) = icells a ++ icells b := by simp [icells]
theorem icells_one (is : List Ins) : ∀ u ∈ icells is, u.oneCell' = true := by
  intro u hu
  obtain ⟨i, _, hi⟩ := List.mem_flatMap.1 hu
  simp at hi
  rcases hi with rfl | rfl | rfl | rfl | rfl <;> rfl
theorem icells_at (is : List Ins) : ∀ (k : Nat) (hk : k < is.length) (j : Nat), j < 5 → (icells is)[k * 5 + j]? = (insC is[k])[j]? := by
  induction is with
  | nil => intro k hk; simp at hk
  | cons i is ih =>
    intro k hk j hj
    have hc : icells (i :: is) = insC i ++ icells is := rfl
    cases k with
    | zero =>
      rw [hc, List.getElem?_append_left (by simp; omega)]
      simp
    | succ k =>
      rw [hc, List.getElem?_append_right (by simp; omega)]
      have := ih k (by simpa using hk) j hj
      rw [show (k + 1) * 5 + j - (insC i).length = k * 5 + j by simp; omega, this]
      rfl
theorem Isl.of_own {w : World} {base : Nat} {e : TypeId} {A : Option Addr} {n c : Nat} {is : List Ins} (h : w.ownsRow base e 5 (.slice A n c) n (icells is)) : Isl w (fun k => row A = some k ∧ base ≤ k ∧ k < w.heap.size) A n c is := by
  have hlen : is.length = n := by
    have := h.1
    rw [icells_len] at this
    omega
  refine ⟨hlen, fun hA => ?_, ?_, fun ad hA _ => ?_, fun ad hA k hk => ?_⟩
  · rcases h.2 with ⟨hv, h0⟩ | ⟨g, cap, cur, hv, _⟩
    · injection hv with _ _ hc
      exact ⟨h0, hc⟩
    · subst hA; injection hv with h1; cases h1
  · rcases h.2 with ⟨hv, h0⟩ | ⟨g, cap, cur, hv, _, _, hle, _⟩
    · omega
    · injection hv with _ _ hc; subst hc; exact hle
  · subst hA
    exact ⟨rfl, h.lt ad.block rfl⟩
  · subst hA
    rcases h.2 with ⟨hv, h0⟩ | ⟨g, cap, cur, hv, _⟩
    · cases hv
    · have hcs := h.cells (g := ad.block) rfl
      injection hv with h1
      injection h1 with h1
      subst h1
      exact ⟨hcs _ _ (icells_at is k hk 0 (by omega)), hcs _ _ (icells_at is k hk 1 (by omega)), hcs _ _ (icells_at is k hk 2 (by omega)), hcs _ _ (icells_at is k hk 3 (by omega)), hcs _ _ (icells_at is k hk 4 (by omega))⟩

set_option maxRecDepth 100000 in
set_option maxHeartbeats 1000000 in
theorem areValid_any (P : Nat → Prop) (A : Option Addr) (n c : Nat) (is : List Ins) (w : World) (h : Isl w P A n c is) (hn : n ≤ 4611686018427387904) (hs : Shps w) :
    Calls Tryd.prog 26 #[.slice A n c] w fun e w' => e = .returned (.bool (is.all mayB)) ∧ Below w.heap.size w w' := by
  have H := Lib.hid h.lt
  have HS := Lib.hid hs
  have hl := h.len
  clear h hs
  generalize hR : is.all mayB = R
  have HR := Lib.hid hR
  clear hR
  go_enter Tryd.func26, Tryd.ntmps26
  go_wp2_with fail
  go_loopw [7] (fun t wr => ∃ k : Nat, k ≤ n ∧ t = .int .i64 k ∧ Below w.heap.size w wr ∧ (is.take k).all mayB = true) (fun t _ => n - (intOf t).toNat)
  case atStart => exact ⟨0, Nat.zero_le _, rfl, Below.refl _ _, rfl⟩
  case round =>
    obtain ⟨k, hk, rfl, hb, hall⟩ := hrel
    have HB := Lib.hid hb
    have HA := Lib.hid hall
    clear hb hall
    by_cases hkn : k < n
    · have hki : k < is.length := by omega
      cases A with
      | none => have := (H.out.nil rfl).1; omega
      | some ad =>
        obtain ⟨b, o, rfl⟩ := H.out.plain (by omega)
        obtain ⟨c0, c1, c2, c3, c4⟩ := (H.out.below HB.out (fun _ h => h)).get k hki
        have HTK := Lib.hid (show (is.take (k + 1)).all mayB = mayB is[k] by
          rw [List.take_succ_eq_append_getElem hki, List.all_append, HA.out]
          simp)
        have HNO := Lib.hid (show mayB is[k] = false → is.all mayB = false by
          intro h
          rw [List.all_eq_false]
          exact ⟨_, List.getElem_mem hki, fun e => Bool.noConfusion (h.symm.trans e)⟩)
        have hm := fun w1 (hb1 : Below w.heap.size w w1) => may_any is[k] w1 (HS.out.below hb1)
        generalize is[k] = i at *
        obtain ⟨op, a, b', c', n'⟩ := i
        simp only at c0 c1 c2 c3 c4
        have HM := Lib.hid hm
        clear hm
        cases hmay : mayB ⟨op, a, b', c', n'⟩
        · rw [hmay] at HM HNO
          have HRF := Lib.hid (show R = false by rw [← HR.out]; exact HNO.out rfl)
          clear hmay HTK HNO HA
          go_wp2_with fail
          refine (HM.out _ (HB.out.alloc HB.out.size _)).mono ?_
          rintro e w2 ⟨rfl, hb2⟩
          have HB2 := Lib.hid hb2
          clear hb2
          go_wp2
          go_ret
          exact ⟨by rw [HRF.out]; rfl, (HB.out.alloc HB.out.size _).trans (HB2.out.mono (by have := HB.out.size; simp; omega))⟩
        · rw [hmay] at HM HTK
          clear hmay HNO HA
          go_wp2_with fail
          refine (HM.out _ (HB.out.alloc HB.out.size _)).mono ?_
          rintro e w2 ⟨rfl, hb2⟩
          have HB2 := Lib.hid hb2
          clear hb2
          go_wp2
          exact ⟨⟨k + 1, by omega, by go_num, (HB.out.alloc HB.out.size _).trans (HB2.out.mono (by have := HB.out.size; simp; omega)), HTK.out⟩, by simp [intOf]; omega⟩
    · obtain rfl : k = n := by omega
      have HRT := Lib.hid (show R = true by
        have := HA.out
        rw [List.take_of_length_le (by omega)] at this
        exact HR.out.symm.trans this)
      clear HA
      go_wp2
      go_ret
      exact ⟨by rw [HRT.out]; rfl, HB.out⟩
end Go.Proofs.YtoebboimdkogpaaDoor
