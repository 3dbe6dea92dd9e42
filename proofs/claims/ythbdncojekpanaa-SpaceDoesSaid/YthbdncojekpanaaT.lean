/-
  Unmap.
-/
import Derived.Test.YthbdncojekpanaaS
namespace Go.Proofs.Ythbdncojekpanaa
open Go.RowKit

theorem mem_erase {rs : List Raw} {i : Nat} {r : Raw} (h : r ∈ rs.eraseIdx i) : r ∈ rs := List.mem_of_mem_eraseIdx h
theorem erase_at {rs : List Raw} {i j : Nat} (hj : j < (rs.eraseIdx i).length) : ∃ j', ∃ hj' : j' < rs.length, (rs.eraseIdx i)[j] = rs[j'] ∧ j' = (if j < i then j else j + 1) := by
  rw [List.length_eraseIdx] at hj
  by_cases h : j < i
  · refine ⟨j, by split at hj <;> omega, ?_, by rw [if_pos h]⟩
    rw [List.getElem_eraseIdx, dif_pos h]
  · refine ⟨j + 1, by split at hj <;> omega, ?_, by rw [if_neg h]⟩
    rw [List.getElem_eraseIdx, dif_neg h]
theorem Sp.erase {w w' : World} {B g b c i : Nat} {rs : List Raw} (h : Sp w B g (some ⟨b, 0, none⟩) c rs) (hi : i < rs.length) (hbox : Bx w' g #[.slice (some ⟨b, 0, none⟩) (rs.length - 1) c] 66) (hnc : rs.length ≤ c) (hcm : c ≤ maxLen)
    (hrow : ∃ cur' : Array Value, Bx w' b cur' 69 ∧ cur'.size = c * 4 ∧ cur'.toList.take ((rs.length - 1) * 4) = rcells (rs.eraseIdx i)) (hb : Beside w w' (fun k => k = b ∨ k = g)) : Sp w' B g (some ⟨b, 0, none⟩) c (rs.eraseIdx i) := by
  have hlen : (rs.eraseIdx i).length = rs.length - 1 := by rw [List.length_eraseIdx, if_pos hi]
  obtain ⟨cur', hx, hcs, ht⟩ := hrow
  refine ⟨h.hg, by rw [hlen]; exact hbox, ?_, ?_, fun r hr => h.short r (mem_erase hr), h.ne, fun r hr => h.apart r (mem_erase hr), h.pair.sublist (List.eraseIdx_sublist _ _), ?_⟩
  · rw [hlen]
    exact ⟨by rw [rcells_len, hlen], .inr ⟨b, c, cur', rfl, (h.lt (k := b) (.inr (.inl rfl))).1, hx, by omega, hcm, hcs, ht⟩⟩
  · intro r hr
    refine own_beside (h.bytes r (mem_erase hr)) hb fun q hq e => ?_
    rw [row_own] at hq
    obtain ⟨p1, p2⟩ := h.apart r (mem_erase hr) q hq
    rcases e with e | e
    · exact p2 (by rw [e]; rfl)
    · exact p1 e
  · refine ⟨fun r hr => h.ord.fit r (mem_erase hr), fun j k hj hk hjk => ?_⟩
    obtain ⟨j', hj', e1, e1'⟩ := erase_at hj
    obtain ⟨k', hk', e2, e2'⟩ := erase_at hk
    rw [e1, e2]
    refine h.ord.next j' k' hj' hk' ?_
    rw [e1', e2']
    split <;> split <;> omega
theorem pos_none {rs : List Raw} (ho : Ord rs) {a : Int} {i : Nat} (hp : Pos rs a i false) (k : Nat) (hk : k < rs.length) : rs[k].b.at_ ≠ a := fun e => by
  by_cases h1 : k < i
  · have := hp.lo k hk h1; omega
  · have h2 := hp.hi k hk (by omega)
    by_cases h3 : k = i
    · subst h3
      have := hp.hit.2 ⟨hk, e⟩
      cases this
    · have hi2 : i < rs.length := by omega
      have h4 := hp.hi i hi2 (Nat.le_refl _)
      have h5 := ho.asc i k hi2 hk (by omega)
      omega
/-- Behind an Unmap. -/
def Unmapped (w : World) (B g : Nat) (A : Option Addr) (c : Nat) (rs : List Raw) (a : Int) (e : Ending) (w' : World) : Prop :=
  ((∀ (k : Nat) (hk : k < rs.length), rs[k].b.at_ ≠ a) ∧ e = .returned (.int .i64 50) ∧ Below w.heap.size w w') ∨
  (∃ (k : Nat) (hk : k < rs.length), rs[k].b.at_ = a ∧ e = .returned (.int .i64 0) ∧ Sp w' B g A c (rs.eraseIdx k) ∧ Beside w w' (Foot g A rs))
theorem unmap_in {w w1 w2 : World} {B g b o k : Nat} {c : Nat} {rs : List Raw} {a : Int} {v : Value} (h : Sp w B g (some ⟨b, o, none⟩) c rs) (hb : Below w.heap.size w w1) (hk : k < rs.length) (ha : rs[k].b.at_ = a) (hd : Deleted w1 B b c k rs (.returned v) w2) :
    v = .slice (some ⟨b, o, none⟩) (rs.length - 1) c ∧ w2.frozen? ⟨g, 0, none⟩ = false ∧ (∃ u, w2.cell? ⟨g, 0, none⟩ = some u) ∧ Unmapped w B g (some ⟨b, o, none⟩) c rs a (.returned (.int .i64 0)) (w2.setCell ⟨g, 0, none⟩ (.slice (some ⟨b, o, none⟩) (rs.length - 1) c)) := by
  have h1 := h.beside (Beside.of_below hb (fun _ => False)) fun _ _ e => e
  obtain ⟨rfl, hbB, hnc, hcm, cur, hx, hcs, ht⟩ := h1.cur
  obtain ⟨hv, ⟨cur', hx', hcs', ht'⟩, hbe, _⟩ := hd
  have hgb : g ≠ b := fun e => h.ne (by rw [e]; rfl)
  have hbox := h1.box.beside hbe hgb
  have hbes : Beside w1 (w2.setCell ⟨g, 0, none⟩ (.slice (some ⟨b, 0, none⟩) (rs.length - 1) c)) (fun k => k = b ∨ k = g) := (hbe.weak fun k _ e => .inl e).set _ _ (.inr rfl)
  refine ⟨by injection hv, hbox.f _, ⟨_, hbox.c 0⟩, .inr ⟨k, hk, ha, rfl, h1.erase hk ?_ hnc hcm ⟨cur', hx'.other (fun e => hgb e.symm) _, hcs', ht'⟩ hbes, ?_⟩⟩
  · show (World.setCell _ _ _).heap[g]? = _
    rw [setCell_eq_setRow w2 g 0 _ 66 _ _ hbox]
    exact setRow_heap w2 g _ _ 66 _ hbox
  · refine (Beside.of_below hb _).then hbes fun q _ e => ?_
    rcases e with rfl | rfl
    · exact .inr (.inl rfl)
    · exact .inl rfl
set_option maxRecDepth 100000 in
set_option maxHeartbeats 2000000 in
theorem Unmap_any (B g : Nat) (A : Option Addr) (c : Nat) (rs : List Raw) (a : Int) (w : World) (h : Sp w B g A c rs) :
    Calls Try.prog 15 #[.pointer (some ⟨g, 0, none⟩), .int .i64 a] w (Unmapped w B g A c rs a) := by
  have HS := Lib.hid h
  have hc : w.cell? ⟨g, 0, none⟩ = some (.slice A rs.length c) := h.box.c 0
  have HPO := Lib.hid (position_any A rs.length c g rs a w hc h.bls h.ord.asc (by have := ord_few h.ord; omega))
  clear h
  have HPI := Lib.hid (fun (w1 w2 : World) (b o k : Nat) (v : Value) (hA : A = some ⟨b, o, none⟩) hb (hk : k < rs.length) (ha : rs[k].b.at_ = a) hd => unmap_in (w1 := w1) (w2 := w2) (v := v) (hA ▸ HS.out) hb hk ha hd)
  have HN := Lib.hid (show ∀ w', Below w.heap.size w w' → (∀ (k : Nat) (hk : k < rs.length), rs[k].b.at_ ≠ a) → Unmapped w B g A c rs a (.returned (.int .i64 50)) w' from fun w' hb hn => .inl ⟨hn, rfl, hb⟩)
  generalize hL : Unmapped w B g A c rs a = L at *
  have HL := Lib.hid hL
  clear hL
  go_enter Try.func15, Try.ntmps15
  go_wp2_with fail
  refine HPO.out.mono ?_
  rintro e w1 ⟨i, f, rfl, hb, hp⟩
  have HB := Lib.hid hb
  have hc1 := cell_below hb hc
  clear hb HPO hc
  cases f with
  | false =>
    have HNO := Lib.hid (show ∀ (k : Nat) (hk : k < rs.length), rs[k].b.at_ ≠ a from pos_none HS.out.ord hp)
    clear hp
    go_wp2_with fail
    exact HN.out _ HB.out HNO.out
  | true =>
    obtain ⟨hi, hat⟩ := hp.hit.1 rfl
    obtain ⟨ad, rfl⟩ : ∃ ad, A = some ad := by
      cases A with
      | none => have := (HS.out.bls.nil rfl).1; omega
      | some ad => exact ⟨ad, rfl⟩
    obtain ⟨b, o, rfl⟩ := HS.out.bls.plain ad rfl
    obtain ⟨rfl, hbB, hnc, hcm, cur, hx, hcs, ht⟩ := (HS.out.beside (Beside.of_below HB.out (fun _ => False)) fun _ _ e => e).cur
    have hfew := ord_few HS.out.ord
    have HD := Lib.hid (Delete_any B b c i (i + 1) cur rs w1 hbB hx hnc hcm hcs ht rfl hi)
    rw [show ((i + 1 : Nat) : Int) = (i : Int) + 1 from by omega] at HD
    have HAT := Lib.hid hat
    clear hp hat HN hx hcs ht
    go_wp2_with fail
    refine HD.out.mono ?_
    intro e w2 hd
    obtain ⟨v, rfl⟩ : ∃ v, e = .returned v := ⟨_, hd.1⟩
    obtain ⟨rfl, hf, ⟨u, hu⟩, hG⟩ := HPI.out w1 w2 b 0 i v rfl HB.out hi HAT.out hd
    have HG := Lib.hid hG
    clear hG hd HPI HD
    go_wp2_with fail
    rw [← HL.out]
    exact HG.out
end Go.Proofs.Ythbdncojekpanaa
