/-
  Protect.
-/
import Derived.Test.YthbdncojekpanaaQ
namespace Go.Proofs.Ythbdncojekpanaa
open Go.RowKit

/-- The space, with one block's permission anew. -/
theorem Sp.perm {w w' : World} {B g b : Nat} {c : Nat} {rs : List Raw} {cur : Array Value} {k : Nat} {p : Int} (h : Sp w B g (some ⟨b, 0, none⟩) c rs) (hnc : rs.length ≤ c) (hcm : c ≤ maxLen) (hcs : cur.size = c * 4) (ht : cur.toList.take (rs.length * 4) = rcells rs) (hk : k < rs.length)
    (hx : Bx w' b (cur.setIfInBounds (k * 4 + 2) (.int .i64 p)) 69) (hb : Beside w w' (fun q => q = b)) :
    Sp w' B g (some ⟨b, 0, none⟩) c (rs.set k ⟨⟨rs[k].b.at_, rs[k].b.size, p, rs[k].b.bytes⟩, rs[k].A, rs[k].c⟩) := by
  have hmem := List.getElem_mem hk
  have hgb : g ≠ b := fun e => h.ne (by rw [e]; rfl)
  have hbB : B ≤ b := (h.lt (k := b) (.inr (.inl rfl))).1
  have hall : ∀ j (hj : j < rs.length), j ≠ k → ∀ q, row rs[k].A = some q → row rs[j].A ≠ some q := by
    intro j hj hne q hq e
    have hp := List.pairwise_iff_getElem.1 h.pair
    rcases Nat.lt_or_gt_of_ne hne with hl | hl
    · exact hp j k hj hk hl q e hq
    · exact hp k j hk hj hl q hq e
  have hold : ∀ r ∈ rs, w'.ownsRow B 5 1 (.slice r.A r.b.bytes.length r.c) r.b.bytes.length (cells r.b.bytes) := by
    intro r hr
    refine own_beside (h.bytes r hr) hb fun q hq e => ?_
    rw [row_own] at hq
    exact (h.apart r hr q hq).2 (by rw [e]; rfl)
  have hat : ∀ (r : Raw), r ∈ rs.set k ⟨⟨rs[k].b.at_, rs[k].b.size, p, rs[k].b.bytes⟩, rs[k].A, rs[k].c⟩ → ∃ r0 ∈ rs, r.A = r0.A ∧ r.c = r0.c ∧ r.b.bytes = r0.b.bytes ∧ r.b.size = r0.b.size := by
    intro r hr
    obtain ⟨j, hj, rfl⟩ := List.getElem_of_mem hr
    rw [List.length_set] at hj
    rw [List.getElem_set]
    by_cases e : k = j
    · rw [if_pos e]
      exact ⟨_, hmem, rfl, rfl, rfl, rfl⟩
    · rw [if_neg e]
      exact ⟨_, List.getElem_mem hj, rfl, rfl, rfl, rfl⟩
  refine ⟨h.hg, ?_, row_set hbB hnc hcm hcs ht hk rfl (by omega) hx, ?_, ?_, h.ne, ?_, pair_set h.pair hall, ?_⟩
  · rw [List.length_set]
    exact h.box.beside hb hgb
  · intro r hr
    obtain ⟨r0, hr0, e1, e2, e3, _⟩ := hat r hr
    rw [e1, e2, e3]
    exact hold r0 hr0
  · intro r hr
    obtain ⟨r0, hr0, _, _, e3, e4⟩ := hat r hr
    rw [e3, e4]
    exact h.short r0 hr0
  · intro r hr
    obtain ⟨r0, hr0, e1, _⟩ := hat r hr
    rw [e1]
    exact h.apart r0 hr0
  · exact ord_same h.ord (by rw [List.length_set]) fun j hj => by
      rw [List.getElem_set]
      split
      · rename_i e; subst e; exact ⟨rfl, rfl⟩
      · exact ⟨rfl, rfl⟩
/-- Behind a Protect. -/
def Guarded (w : World) (B g : Nat) (A : Option Addr) (c : Nat) (rs : List Raw) (a p : Int) (e : Ending) (w' : World) : Prop :=
  (permB p = false ∧ e = .returned (.int .i64 1) ∧ Below w.heap.size w w') ∨
  (permB p = true ∧ (∀ (k : Nat) (hk : k < rs.length), rs[k].b.at_ ≠ a) ∧ e = .returned (.int .i64 50) ∧ Below w.heap.size w w') ∨
  (permB p = true ∧ ∃ (k : Nat) (hk : k < rs.length), rs[k].b.at_ = a ∧ e = .returned (.int .i64 0) ∧ Sp w' B g A c (rs.set k ⟨⟨rs[k].b.at_, rs[k].b.size, p, rs[k].b.bytes⟩, rs[k].A, rs[k].c⟩) ∧ Beside w w' (Foot g A rs))
theorem perm_in {w w1 : World} {B g b o k : Nat} {c : Nat} {rs : List Raw} {p a : Int} (h : Sp w B g (some ⟨b, o, none⟩) c rs) (hb : Below w.heap.size w w1) (hk : k < rs.length) (hp : permB p = true) (ha : rs[k].b.at_ = a) :
    w1.frozen? ⟨b, o + k * 4 + 2, none⟩ = false ∧ (∃ v, w1.cell? ⟨b, o + k * 4 + 2, none⟩ = some v) ∧ Guarded w B g (some ⟨b, o, none⟩) c rs a p (.returned (.int .i64 0)) (w1.setCell ⟨b, o + k * 4 + 2, none⟩ (.int .i64 p)) := by
  have h1 := h.beside (Beside.of_below hb (fun _ => False)) fun _ _ e => e
  obtain ⟨rfl, hbB, hnc, hcm, cur, hx, hcs, ht⟩ := h1.cur
  rw [Nat.zero_add]
  refine ⟨hx.f _, ⟨_, (hx.c _).trans (cur_at ht hk (j := 2) (by omega))⟩, .inr (.inr ⟨hp, k, hk, ha, rfl, h1.perm hnc hcm hcs ht hk ?_ ((Beside.refl w1 _).set _ _ rfl), (Beside.of_below hb _).set _ _ (.inr (.inl rfl))⟩)⟩
  show (World.setCell _ _ _).heap[b]? = _
  rw [setCell_eq_setRow w1 b _ cur 69 _ _ hx]
  exact setRow_heap w1 b _ _ 69 _ hx
set_option maxRecDepth 100000 in
set_option maxHeartbeats 2000000 in
theorem Protect_any (B g : Nat) (A : Option Addr) (c : Nat) (rs : List Raw) (a p : Int) (w : World) (h : Sp w B g A c rs) :
    Calls Try.prog 40 #[.pointer (some ⟨g, 0, none⟩), .int .i64 a, .int .i64 p] w (Guarded w B g A c rs a p) := by
  have HS := Lib.hid h
  have hc : w.cell? ⟨g, 0, none⟩ = some (.slice A rs.length c) := h.box.c 0
  have HZ := Lib.hid (isPerm_any p w)
  have HPO := Lib.hid (position_any A rs.length c g rs a w hc h.bls h.ord.asc (by have := ord_few h.ord; omega))
  clear h
  cases hpb : permB p with
  | false =>
    have HW := Lib.hid (show ∀ w', Below w.heap.size w w' → Guarded w B g A c rs a p (.returned (.int .i64 1)) w' from fun w' hb => .inl ⟨hpb, rfl, hb⟩)
    rw [hpb] at HZ
    generalize Guarded w B g A c rs a p = L at *
    go_enter Try.func40, Try.ntmps40
    go_wp2_with fail
    refine HZ.out.mono ?_
    rintro e w1 ⟨rfl, rfl⟩
    clear HZ
    go_wp2_with fail
    exact HW.out _ (Below.refl _ _)
  | true =>
    have HPI := Lib.hid (fun (w1 : World) (b o k : Nat) (hA : A = some ⟨b, o, none⟩) hb (hk : k < rs.length) (ha : rs[k].b.at_ = a) => perm_in (w1 := w1) (hA ▸ HS.out) hb hk hpb ha)
    have HN := Lib.hid (show ∀ w', Below w.heap.size w w' → (∀ (k : Nat) (hk : k < rs.length), rs[k].b.at_ ≠ a) → Guarded w B g A c rs a p (.returned (.int .i64 50)) w' from fun w' hb hn => .inr (.inl ⟨hpb, hn, rfl, hb⟩))
    rw [hpb] at HZ
    generalize hL : Guarded w B g A c rs a p = L at *
    have HL := Lib.hid hL
    clear hL hpb
    go_enter Try.func40, Try.ntmps40
    go_wp2_with fail
    refine HZ.out.mono ?_
    rintro e w1 ⟨rfl, rfl⟩
    clear HZ
    go_wp2_with fail
    refine HPO.out.mono ?_
    rintro e w1 ⟨i, f, rfl, hb, hp⟩
    have HB := Lib.hid hb
    have hc1 := cell_below hb hc
    clear hb HPO hc
    cases f with
    | false =>
      have HNO := Lib.hid (show ∀ (k : Nat) (hk : k < rs.length), rs[k].b.at_ ≠ a from fun k hk e => by
        by_cases h1 : k < i
        · have := hp.lo k hk h1; omega
        · have h2 := hp.hi k hk (by omega)
          by_cases h3 : k = i
          · subst h3
            have := hp.hit.2 ⟨hk, e⟩
            cases this
          · have hi2 : i < rs.length := by omega
            have h4 := hp.hi i hi2 (Nat.le_refl _)
            have h5 := HS.out.ord.asc i k hi2 hk (by omega)
            omega)
      clear hp
      go_wp2_with fail
      exact HN.out _ HB.out HNO.out
    | true =>
      obtain ⟨hi, hat⟩ := hp.hit.1 rfl
      obtain ⟨ad, rfl⟩ : ∃ ad, A = some ad := by
        cases A with
        | none => have := (HS.out.bls.nil rfl).1; omega
        | some ad => exact ⟨ad, rfl⟩
      obtain ⟨b, o, rfl⟩ := HS.out.bls.plain ad rfl
      obtain ⟨hf, ⟨v, hv⟩, hG⟩ := HPI.out w1 b o i rfl HB.out hi hat
      have HG := Lib.hid hG
      clear hG hp hat HPI HN
      go_wp2_with fail
      rw [← HL.out]
      exact HG.out
end Go.Proofs.Ythbdncojekpanaa
