/-
  Where an address stands among the blocks: the library's search, and position.
-/
import Derived.Test.YthbdncojekpanaaB
namespace Go.Proofs.Ythbdncojekpanaa
open Go.RowKit

/-- Where an address stands: all regions ahead begin below it, all from there on do not. -/
structure Pos (rs : List Raw) (a : Int) (i : Nat) (f : Bool) : Prop where
  le : i ≤ rs.length
  lo : ∀ (k : Nat) (hk : k < rs.length), k < i → rs[k].b.at_ < a
  hi : ∀ (k : Nat) (hk : k < rs.length), i ≤ k → a ≤ rs[k].b.at_
  hit : f = true ↔ ∃ hk : i < rs.length, rs[i].b.at_ = a
/-- In order by their beginnings. -/
def Asc (rs : List Raw) : Prop := ∀ (j k : Nat) (hj : j < rs.length) (hk : k < rs.length), j < k → rs[j].b.at_ < rs[k].b.at_

set_option maxRecDepth 100000 in
set_option maxHeartbeats 2000000 in
theorem search_any (A : Option Addr) (n c : Nat) (rs : List Raw) (a : Int) (w : World) (h : Bls w A n c rs) (hs : Asc rs) (hn : n ≤ 1152921504606846976) :
    Calls Try.prog 65 #[.slice A n c, .int .i64 a, .func (.func 66) #[] #[]] w fun e w' => ∃ i f, e = .returned (.tuple #[.int .i64 (i : Nat), .bool f]) ∧ Below w.heap.size w w' ∧ Pos rs a i f := by
  have H := Lib.hid h
  have hl := h.len
  have HS := Lib.hid hs
  clear h hs
  go_enter Try.func65, Try.ntmps65
  go_wp2_with fail
  go_loopw [9, 10] (fun t9 t10 wr => ∃ i j : Nat, i ≤ j ∧ j ≤ n ∧ t9 = .int .i64 i ∧ t10 = .int .i64 j ∧ (∀ (k : Nat) (hk : k < rs.length), k < i → rs[k].b.at_ < a) ∧ (∀ (k : Nat) (hk : k < rs.length), j ≤ k → a ≤ rs[k].b.at_) ∧ Below w.heap.size w wr) (fun t9 t10 _ => (intOf t10 - intOf t9).toNat)
  case atStart => exact ⟨0, n, Nat.zero_le _, Nat.le_refl _, rfl, rfl, by intro k _ h; omega, by intro k hk h; omega, Below.refl _ _⟩
  case round =>
    obtain ⟨i, j, hij, hjn, rfl, rfl, hlo, hhi, hb⟩ := hrel
    have HLO := Lib.hid hlo
    have HHI := Lib.hid hhi
    have HB := Lib.hid hb
    clear hlo hhi hb
    by_cases hlt : i < j
    · obtain ⟨m, hm⟩ : ∃ m : Nat, m = (i + j) / 2 := ⟨_, rfl⟩
      have hmid : ((i : Int) + (j : Int)) / 2 = (m : Int) := by omega
      have hm1 : i ≤ m := by omega
      have hm2 : m < j := by omega
      have hmr : m < rs.length := by omega
      obtain ⟨ad, rfl⟩ : ∃ ad, A = some ad := by
        cases A with
        | none => have := (H.out.nil rfl).1; omega
        | some ad => exact ⟨ad, rfl⟩
      obtain ⟨b, o, rfl⟩ := H.out.plain ad rfl
      obtain ⟨c0, c1, c2, c3⟩ := (H.out.below HB.out).at_ b o m rfl hmr
      have HM1 := Lib.hid (fun (h : rs[m].b.at_ < a) (k : Nat) (hk : k < rs.length) (hkm : k < m + 1) => (show rs[k].b.at_ < a by
        by_cases e : k = m
        · subst e; exact h
        · have := HS.out k m hk hmr (by omega); omega))
      have HM2 := Lib.hid (fun (h : a ≤ rs[m].b.at_) (k : Nat) (hk : k < rs.length) (hkm : m ≤ k) => (show a ≤ rs[k].b.at_ by
        by_cases e : k = m
        · subst e; exact h
        · have := HS.out m k hmr hk (by omega); omega))
      generalize hsz : rs[m].b.size = s0 at *
      generalize hpm : rs[m].b.perm = p0 at *
      generalize (Value.slice rs[m].A rs[m].b.bytes.length rs[m].c) = v0 at *
      generalize rs[m].b.at_ = a0 at *
      have HP := Lib.hid (position1_any a0 s0 p0 v0 a wr)
      clear hm hsz hpm
      by_cases hlt2 : a0 < a
      · have HLO2 := Lib.hid (HM1.out hlt2)
        have hc : cmp3 a0 a = -1 := by unfold cmp3; rw [if_pos hlt2]
        rw [hc] at HP
        clear hc HM1 HM2 HLO
        go_wp2_with fail
        refine HP.out.mono ?_
        rintro e w1 ⟨rfl, hb1⟩
        have HB1 := Lib.hid (HB.out.trans (hb1.mono HB.out.size))
        clear hb1 HP HB c0 c1 c2 c3
        go_wp2_with fail
        exact ⟨⟨m + 1, j, by omega, hjn, by go_num, rfl, HLO2.out, HHI.out, HB1.out⟩, by simp [intOf]; omega⟩
      · have HHI2 := Lib.hid (HM2.out (by omega))
        have hc0 : ¬ cmp3 a0 a < 0 := by unfold cmp3; split; omega; split <;> omega
        generalize cmp3 a0 a = cc at *
        clear HM1 HM2 HHI hlt2
        go_wp2_with fail
        refine HP.out.mono ?_
        rintro e w1 ⟨rfl, hb1⟩
        have HB1 := Lib.hid (HB.out.trans (hb1.mono HB.out.size))
        clear hb1 HP HB c0 c1 c2 c3
        go_wp2_with fail
        exact ⟨⟨i, m, hm1, by omega, rfl, by go_num, HLO.out, HHI2.out, HB1.out⟩, by simp [intOf]; omega⟩
    · obtain rfl : i = j := by omega
      by_cases hin : i < n
      · have hir : i < rs.length := by omega
        obtain ⟨ad, rfl⟩ : ∃ ad, A = some ad := by
          cases A with
          | none => have := (H.out.nil rfl).1; omega
          | some ad => exact ⟨ad, rfl⟩
        obtain ⟨b, o, rfl⟩ := H.out.plain ad rfl
        obtain ⟨c0, c1, c2, c3⟩ := (H.out.below HB.out).at_ b o i rfl hir
        have HPO := Lib.hid (fun (f : Bool) (hf : f = true ↔ rs[i].b.at_ = a) => (show Pos rs a i f from ⟨by omega, HLO.out, HHI.out, ⟨fun h => ⟨hir, hf.1 h⟩, fun ⟨_, h⟩ => hf.2 h⟩⟩))
        generalize hsz : rs[i].b.size = s0 at *
        generalize hpm : rs[i].b.perm = p0 at *
        generalize (Value.slice rs[i].A rs[i].b.bytes.length rs[i].c) = v0 at *
        generalize rs[i].b.at_ = a0 at *
        have HP := Lib.hid (position1_any a0 s0 p0 v0 a wr)
        have HC := Lib.hid (show (cmp3 a0 a == 0) = decide (a0 = a) by
          unfold cmp3
          by_cases h1 : a0 < a
          · rw [if_pos h1, decide_eq_false (by omega)]; rfl
          · by_cases h2 : a < a0
            · rw [if_neg h1, if_pos h2, decide_eq_false (by omega)]; rfl
            · rw [if_neg h1, if_neg h2, decide_eq_true (by omega)]; rfl)
        generalize cmp3 a0 a = cc at *
        clear hsz hpm HLO HHI
        go_wp2_with fail
        refine HP.out.mono ?_
        rintro e w1 ⟨rfl, hb1⟩
        have HB1 := Lib.hid (HB.out.trans (hb1.mono HB.out.size))
        clear hb1 HP HB c0 c1 c2 c3
        go_wp2_with fail
        go_ret2
        exact ⟨i, cc == 0, rfl, HB1.out, HPO.out _ (by rw [HC.out]; exact decide_eq_true_iff)⟩
      · have HPO := Lib.hid (show Pos rs a i false from ⟨by omega, HLO.out, HHI.out, ⟨(fun h => by cases h), (fun ⟨h, _⟩ => absurd h (by omega))⟩⟩)
        clear HLO HHI
        go_wp2_with fail
        go_ret2
        exact ⟨i, false, rfl, HB.out, HPO.out⟩

theorem position_any (A : Option Addr) (n c g : Nat) (rs : List Raw) (a : Int) (w : World) (hc : w.cell? ⟨g, 0, none⟩ = some (.slice A n c)) (h : Bls w A n c rs) (hs : Asc rs) (hn : n ≤ 1152921504606846976) :
    Calls Try.prog 38 #[.pointer (some ⟨g, 0, none⟩), .int .i64 a] w fun e w' => ∃ i f, e = .returned (.tuple #[.int .i64 (i : Nat), .bool f]) ∧ Below w.heap.size w w' ∧ Pos rs a i f := by
  have HSE := Lib.hid (search_any A n c rs a w h hs hn)
  clear h hs
  go_enter Try.func38, Try.ntmps38
  go_wp2_with fail
  refine HSE.out.mono ?_
  rintro e w1 ⟨i, f, rfl, hb, hp⟩
  have HB := Lib.hid hb
  have HP := Lib.hid hp
  clear hb hp HSE
  go_wp2_with fail
  go_ret2
  exact ⟨i, f, rfl, HB.out, HP.out⟩
end Go.Proofs.Ythbdncojekpanaa
