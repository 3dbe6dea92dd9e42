/-
  Which block holds a range: reach.
-/
import Derived.Test.YthbdncojekpanaaE
import Derived.Laws.BitsAllLaws
namespace Go.Proofs.Ythbdncojekpanaa
open Go.RowKit

/-- Behind a reach: the block that holds the range, one that lacks the permission, or none. -/
def Reached (w : World) (A : Option Addr) (rs : List Raw) (a s need : Int) (e : Ending) (w' : World) : Prop :=
  Below w.heap.size w w' ∧ ((∃ (k : Nat) (hk : k < rs.length) (b o : Nat), A = some ⟨b, o, none⟩ ∧ rs[k].b.at_ ≤ a ∧ a + s ≤ rs[k].b.at_ + rs[k].b.size ∧ bits .and .i64 rs[k].b.perm need = need ∧ e = .returned (.tuple #[.pointer (some ⟨b, o + k * 4, none⟩), .int .i64 0])) ∨
    (∃ (k : Nat) (hk : k < rs.length), rs[k].b.at_ ≤ a ∧ a + s ≤ rs[k].b.at_ + rs[k].b.size ∧ bits .and .i64 rs[k].b.perm need ≠ need ∧ e = .returned (.tuple #[.pointer none, .int .i64 52])) ∨
    ((∀ (k : Nat) (hk : k < rs.length), ¬ (rs[k].b.at_ ≤ a ∧ a + s ≤ rs[k].b.at_ + rs[k].b.size)) ∧ e = .returned (.tuple #[.pointer none, .int .i64 50])))
/-- The one block that may hold a range: the last one that begins at or ahead of it. -/
theorem only_one {rs : List Raw} (h : Ord rs) {a s : Int} (hs : 1 ≤ s) {i m : Nat} {f : Bool} (hp : Pos rs a i f) (hm : if f = true then m = i else m + 1 = i) (hmr : m < rs.length) :
    rs[m].b.at_ ≤ a ∧ ∀ (k : Nat) (hk : k < rs.length), rs[k].b.at_ ≤ a ∧ a + s ≤ rs[k].b.at_ + rs[k].b.size → k = m := by
  have hma : rs[m].b.at_ ≤ a := by
    cases f with
    | true =>
      rw [if_pos rfl] at hm
      subst hm
      obtain ⟨_, h1⟩ := hp.hit.1 rfl
      omega
    | false =>
      rw [if_neg (by decide)] at hm
      have := hp.lo m hmr (by omega)
      omega
  refine ⟨hma, fun k hk ⟨h1, h2⟩ => ?_⟩
  by_cases hkm : k < m
  · have h3 := h.next k m hk hmr hkm
    omega
  · by_cases hmk : m < k
    · have h3 := h.next m k hmr hk hmk
      have h4 := (h.fit rs[m] (List.getElem_mem hmr)).2.1
      have h5 : i ≤ k := by
        cases f with
        | true => rw [if_pos rfl] at hm; omega
        | false => rw [if_neg (by decide)] at hm; omega
      have h6 := hp.hi k hk h5
      cases f with
      | true =>
        rw [if_pos rfl] at hm
        subst hm
        obtain ⟨_, h7⟩ := hp.hit.1 rfl
        omega
      | false =>
        have h8 : rs[k].b.at_ = a := by omega
        by_cases h9 : i = k
        · subst h9
          have := hp.hit.2 ⟨hk, h8⟩
          cases this
        · rw [if_neg (by decide)] at hm
          have hir : i < rs.length := by omega
          have h10 := h.next i k hir hk (by omega)
          have h11 := hp.hi i hir (Nat.le_refl _)
          have h12 := (h.fit rs[i] (List.getElem_mem hir)).2.1
          omega
    · omega

set_option maxRecDepth 100000 in
set_option maxHeartbeats 4000000 in
theorem reach_any (A : Option Addr) (n c g : Nat) (rs : List Raw) (a s need : Int) (ha : I64 a) (hs : 1 ≤ s ∧ s ≤ 1048576) (w : World) (hc : w.cell? ⟨g, 0, none⟩ = some (.slice A n c)) (h : Bls w A n c rs) (ho : Ord rs) (hn : n ≤ 1152921504606846976) :
    Calls Try.prog 63 #[.pointer (some ⟨g, 0, none⟩), .int .i64 a, .int .i64 s, .int .i64 need] w (Reached w A rs a s need) := by
  have HPO := Lib.hid (position_any A n c g rs a w hc h ho.asc hn)
  have H := Lib.hid h
  have hl := h.len
  have HO := Lib.hid ho
  generalize hL : Reached w A rs a s need = L
  have HL := Lib.hid hL
  clear h ho hL
  go_enter Try.func63, Try.ntmps63
  go_wp2_with fail
  refine HPO.out.mono ?_
  rintro e w1 ⟨i, f, rfl, hb, hp⟩
  have HB := Lib.hid hb
  have hile := hp.le
  have hc1 := cell_below hb hc
  clear hb HPO
  by_cases hnone : f = false ∧ i = 0
  · obtain ⟨rfl, rfl⟩ := hnone
    have HNO := Lib.hid (show ∀ (k : Nat) (hk : k < rs.length), ¬ (rs[k].b.at_ ≤ a ∧ a + s ≤ rs[k].b.at_ + rs[k].b.size) from fun k hk ⟨h1, h2⟩ => by
      have h3 := hp.hi k hk (Nat.zero_le _)
      have h4 : rs[k].b.at_ = a := by omega
      have h0 : 0 < rs.length := by omega
      have h5 := hp.hi 0 h0 (Nat.le_refl _)
      have h6 : rs[0].b.at_ ≠ a := fun e => by have := hp.hit.2 ⟨h0, e⟩; cases this
      by_cases hk0 : k = 0
      · subst hk0; exact h6 h4
      · have h7 := HO.out.asc 0 k h0 hk (by omega); omega)
    clear hp
    go_wp2_with fail
    rw [← HL.out]
    exact ⟨HB.out, .inr (.inr ⟨HNO.out, rfl⟩)⟩
  · obtain ⟨m, hm⟩ : ∃ m : Nat, if f = true then m = i else m + 1 = i := by
      cases f with
      | true => exact ⟨i, by simp⟩
      | false => exact ⟨i - 1, by simp at hnone ⊢; omega⟩
    have hmr : m < rs.length := by
      cases f with
      | true => obtain ⟨h1, _⟩ := hp.hit.1 rfl; simp at hm; omega
      | false => simp at hm; omega
    have hmn : m < n := by omega
    obtain ⟨ad, rfl⟩ : ∃ ad, A = some ad := by
      cases A with
      | none => have := (H.out.nil rfl).1; omega
      | some ad => exact ⟨ad, rfl⟩
    obtain ⟨b, o, rfl⟩ := H.out.plain ad rfl
    obtain ⟨c0, c1, c2, _⟩ := (H.out.below HB.out).at_ b o m rfl hmr
    obtain ⟨hma, honly⟩ := only_one HO.out hs.1 hp hm hmr
    obtain ⟨i1, i2, i3⟩ := HO.out.fit rs[m] (List.getElem_mem hmr)
    have HNO := Lib.hid (show ¬ (a + s ≤ rs[m].b.at_ + rs[m].b.size) → ∀ (k : Nat) (hk : k < rs.length), ¬ (rs[k].b.at_ ≤ a ∧ a + s ≤ rs[k].b.at_ + rs[k].b.size) from fun h0 k hk h1 => by
      have e := honly k hk h1
      subst e
      exact h0 h1.2)
    have HYE := Lib.hid (show ∀ e w', Below w.heap.size w w' → a + s ≤ rs[m].b.at_ + rs[m].b.size → ((bits .and .i64 rs[m].b.perm need = need ∧ e = .returned (.tuple #[.pointer (some ⟨b, o + m * 4, none⟩), .int .i64 0])) ∨ (bits .and .i64 rs[m].b.perm need ≠ need ∧ e = .returned (.tuple #[.pointer none, .int .i64 52]))) → Reached w (some ⟨b, o, none⟩) rs a s need e w' from fun e w' hbw hfit hor => by
      rcases hor with ⟨h1, h2⟩ | ⟨h1, h2⟩
      · exact ⟨hbw, .inl ⟨m, hmr, b, o, rfl, hma, hfit, h1, h2⟩⟩
      · exact ⟨hbw, .inr (.inl ⟨m, hmr, hma, hfit, h1, h2⟩)⟩)
    have HEN := Lib.hid (end_any b (o + m * 4) rs[m].b.at_ rs[m].b.size w1 c0 c1 ⟨by omega, by omega⟩)
    generalize rs[m].b.at_ = a0 at *
    generalize rs[m].b.size = s0 at *
    generalize rs[m].b.perm = p0 at *
    have e1 : wrap64 (a0 + s0 - a) = a0 + s0 - a := IntWalk.wrap64_in _ (by have := ha.1; have := ha.2; omega)
    have hm1 : ¬ ((m : Int) < 0) := by omega
    clear honly hp
    cases f with
    | true =>
      simp only [if_true] at hm
      subst hm
      by_cases hfit : a + s ≤ a0 + s0
      · have hcmp : ¬ (a0 + s0 - a < s) := by omega
        by_cases hand : bits .and .i64 p0 need = need
        · have hbn : (bits .and .i64 p0 need != need) = false := by rw [hand]; simp
          have HND := Lib.hid hand
          clear HNO hand
          go_wp2_with fail
          refine HEN.out.mono ?_
          rintro e w2 ⟨rfl, hb2⟩
          have HB2 := Lib.hid (HB.out.trans (hb2.mono HB.out.size))
          have hc2 := cell_below hb2 hc1
          have k2 := cell_below hb2 c2
          clear hb2 HEN HB hc1 c0 c1 c2
          go_wp2_with fail
          first | go_ret2 | skip
          rw [← HL.out]
          exact HYE.out _ _ HB2.out hfit (.inl ⟨HND.out, rfl⟩)
        · have hbn : (bits .and .i64 p0 need != need) = true := by simpa using hand
          have HND := Lib.hid hand
          clear HNO hand
          go_wp2_with fail
          refine HEN.out.mono ?_
          rintro e w2 ⟨rfl, hb2⟩
          have HB2 := Lib.hid (HB.out.trans (hb2.mono HB.out.size))
          have hc2 := cell_below hb2 hc1
          have k2 := cell_below hb2 c2
          clear hb2 HEN HB hc1 c0 c1 c2
          go_wp2_with fail
          first | go_ret2 | skip
          rw [← HL.out]
          exact HYE.out _ _ HB2.out hfit (.inr ⟨HND.out, rfl⟩)
      · have hcmp : a0 + s0 - a < s := by omega
        have HN2 := Lib.hid (HNO.out hfit)
        clear HNO HYE
        go_wp2_with fail
        refine HEN.out.mono ?_
        rintro e w2 ⟨rfl, hb2⟩
        have HB2 := Lib.hid (HB.out.trans (hb2.mono HB.out.size))
        clear hb2 HEN HB hc1 c0 c1 c2
        go_wp2_with fail
        first | go_ret2 | skip
        rw [← HL.out]
        exact ⟨HB2.out, .inr (.inr ⟨HN2.out, rfl⟩)⟩
    | false =>
      simp only [Bool.false_eq_true, if_false] at hm
      subst hm
      have hmw : wrap64 ((m : Int) + 1 - 1) = (m : Int) := by rw [IntWalk.wrap64_in _ (by omega)]; omega
      by_cases hfit : a + s ≤ a0 + s0
      · have hcmp : ¬ (a0 + s0 - a < s) := by omega
        by_cases hand : bits .and .i64 p0 need = need
        · have hbn : (bits .and .i64 p0 need != need) = false := by rw [hand]; simp
          have HND := Lib.hid hand
          clear HNO hand
          go_wp2_with fail
          refine HEN.out.mono ?_
          rintro e w2 ⟨rfl, hb2⟩
          have HB2 := Lib.hid (HB.out.trans (hb2.mono HB.out.size))
          have hc2 := cell_below hb2 hc1
          have k2 := cell_below hb2 c2
          clear hb2 HEN HB hc1 c0 c1 c2
          go_wp2_with fail
          first | go_ret2 | skip
          rw [← HL.out]
          exact HYE.out _ _ HB2.out hfit (.inl ⟨HND.out, rfl⟩)
        · have hbn : (bits .and .i64 p0 need != need) = true := by simpa using hand
          have HND := Lib.hid hand
          clear HNO hand
          go_wp2_with fail
          refine HEN.out.mono ?_
          rintro e w2 ⟨rfl, hb2⟩
          have HB2 := Lib.hid (HB.out.trans (hb2.mono HB.out.size))
          have hc2 := cell_below hb2 hc1
          have k2 := cell_below hb2 c2
          clear hb2 HEN HB hc1 c0 c1 c2
          go_wp2_with fail
          first | go_ret2 | skip
          rw [← HL.out]
          exact HYE.out _ _ HB2.out hfit (.inr ⟨HND.out, rfl⟩)
      · have hcmp : a0 + s0 - a < s := by omega
        have HN2 := Lib.hid (HNO.out hfit)
        clear HNO HYE
        go_wp2_with fail
        refine HEN.out.mono ?_
        rintro e w2 ⟨rfl, hb2⟩
        have HB2 := Lib.hid (HB.out.trans (hb2.mono HB.out.size))
        clear hb2 HEN HB hc1 c0 c1 c2
        go_wp2_with fail
        first | go_ret2 | skip
        rw [← HL.out]
        exact ⟨HB2.out, .inr (.inr ⟨HN2.out, rfl⟩)⟩
end Go.Proofs.Ythbdncojekpanaa
