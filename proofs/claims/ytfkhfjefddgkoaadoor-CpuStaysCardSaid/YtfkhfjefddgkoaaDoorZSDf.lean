/-
  The document's model: which region begins at an address; a range with or without a permission.
  The document's model: what a range holds.
-/
import Derived.Test.YtfkhfjefddgkoaaDoorZSDd
namespace Go.Proofs.YtfkhfjefddgkoaaDoor
open Go.RowKit

def BegD (rs : List Raw) (a : Int) (w : World) (e : Ending) (w' : World) : Prop := Below w.heap.size w w' ∧
  ((∀ (k : Nat) (hk : k < rs.length), rs[k].b.at_ ≠ a) ∧ e = .returned (.int .i64 (-1)) ∨ ∃ (k : Nat) (hk : k < rs.length), rs[k].b.at_ = a ∧ e = .returned (.int .i64 (k : Nat)))
set_option maxRecDepth 100000 in
set_option maxHeartbeats 4000000 in
theorem rBegins_any (g : Nat) (A : Option Addr) (c : Nat) (rs : List Raw) (a : Int) (w : World) (h : Seen w g A c rs) :
    Calls Tryd.prog 83 #[.pointer (some ⟨g, 0, none⟩), .int .i64 a] w (BegD rs a w) := by
  have H := Lib.hid h
  have hfew := h.few
  have HY : Hid (∀ (k : Nat) (hk : k < rs.length) w', Below w.heap.size w w' → rs[k].b.at_ = a → BegD rs a w (.returned (.int .i64 (k : Nat))) w') := Lib.hid fun k hk w' hb he => ⟨hb, .inr ⟨k, hk, he, rfl⟩⟩
  have HN : Hid (∀ w', Below w.heap.size w w' → (∀ (k : Nat) (hk : k < rs.length), rs[k].b.at_ ≠ a) → BegD rs a w (.returned (.int .i64 (-1))) w') := Lib.hid fun w' hb he => ⟨hb, .inl ⟨he, rfl⟩⟩
  generalize BegD rs a w = L at *
  obtain ⟨M, hlen⟩ : ∃ M, rs.length = M := ⟨_, rfl⟩
  have HLEN := Lib.hid hlen
  have hc := h.box
  rw [hlen] at hc hfew
  clear h hlen
  go_enter Tryd.func83, Tryd.ntmps83
  go_wp2_with fail
  go_loopw [5] (fun t5 wr => ∃ k : Nat, k ≤ M ∧ t5 = .int .i64 k ∧ (∀ (j : Nat) (hj : j < rs.length), j < k → rs[j].b.at_ ≠ a) ∧ Below w.heap.size w wr) (fun t5 _ => M - (intOf t5).toNat)
  case atStart => exact ⟨0, Nat.zero_le _, rfl, (by intro j _ hj; omega), Below.refl _ _⟩
  case round =>
    obtain ⟨k, hk, rfl, hno, hb⟩ := hrel
    have HNO := Lib.hid hno
    have HB := Lib.hid hb
    have hcr := cell_below hb hc
    clear hno hb
    by_cases hlt : k < M
    · have hkr : k < rs.length := by rw [HLEN.out]; exact hlt
      obtain ⟨ad, rfl⟩ : ∃ ad, A = some ad := by
        cases A with
        | none => have := (H.out.bls.nil rfl).1; omega
        | some ad => exact ⟨ad, rfl⟩
      obtain ⟨b, o, rfl⟩ := H.out.bls.plain ad rfl
      obtain ⟨c0, _, _, _⟩ := (H.out.bls.below HB.out).at_ b o k rfl hkr
      have HSK := Lib.hid (show rs[k].b.at_ ≠ a → ∀ (j : Nat) (hj : j < rs.length), j < k + 1 → rs[j].b.at_ ≠ a from fun h j hj hjk => by
        by_cases e : j = k
        · subst e; exact h
        · exact HNO.out j hj (by omega))
      have HYY := Lib.hid (fun w' hb h => HY.out k hkr w' hb h)
      generalize rs[k].b.at_ = a0 at *
      by_cases h1 : a0 = a
      · have HR := Lib.hid (HYY.out wr HB.out h1)
        subst h1
        clear HYY HSK HY HN
        go_wp2_with fail
        first | go_ret | skip
        exact HR.out
      · have HS := Lib.hid (HSK.out h1)
        have b1 : (a0 == a) = false := by simpa using h1
        clear HYY HSK HY HN
        go_wp2_with fail
        exact ⟨⟨k + 1, by omega, by go_num, HS.out, HB.out⟩, by simp [intOf]; omega⟩
    · obtain rfl : k = M := by omega
      have HR := Lib.hid (HN.out wr HB.out fun j hj => HNO.out j hj (by have := HLEN.out; omega))
      clear HY HN HNO
      go_wp2_with fail
      first | go_ret | skip
      exact HR.out
theorem rng_any {rs : List Raw} {a n need E : Int} {k : Nat} (h : Rng rs a n need E k) (he : E ≠ 52) : Rng rs a n 0 E k := by
  refine ⟨?_, h.here⟩
  have h1 := h.goes
  rw [h1] at he ⊢
  unfold goesS at he ⊢
  by_cases hs : n < 1 ∨ 1048576 < n
  · rw [if_pos hs, if_pos hs]
  · rw [if_neg hs] at he ⊢
    rw [if_neg hs]
    cases hh : holdS (segs rs) a n with
    | none => rfl
    | some s =>
      rw [hh] at he
      simp only at he ⊢
      rw [if_pos (and_zero s.perm)]
      by_cases hb : bits .and .i64 s.perm need = need
      · rw [if_pos hb]
      · rw [if_neg hb] at he
        exact absurd rfl he
theorem goes_refused {rs : List Raw} {a n need : Int} (h : goesS (segs rs) a n need = 52) : (1 ≤ n ∧ n ≤ 1048576) ∧ ∃ s, holdS (segs rs) a n = some s := by
  unfold goesS at h
  by_cases hs : n < 1 ∨ 1048576 < n
  · rw [if_pos hs] at h; omega
  · rw [if_neg hs] at h
    cases hh : holdS (segs rs) a n with
    | none => rw [hh] at h; simp at h
    | some s => exact ⟨by omega, s, rfl⟩
theorem hold_raw {rs : List Raw} {a n : Int} {s : Seg} (h : holdS (segs rs) a n = some s) : ∃ (k : Nat) (hk : k < rs.length), rs[k].b.at_ ≤ a ∧ a + n ≤ rs[k].b.at_ + rs[k].b.size := by
  obtain ⟨hs, h1, h2⟩ := hold_in h
  obtain ⟨r, hr, rfl⟩ := segs_mem hs
  obtain ⟨k, hk, rfl⟩ := List.getElem_of_mem hr
  exact ⟨k, hk, h1, h2⟩
set_option maxRecDepth 100000 in
set_option maxHeartbeats 4000000 in
theorem rany_any (g : Nat) (A : Option Addr) (c : Nat) (rs : List Raw) (a n : Int) (ha : I64 a) (hd : Dis rs) (w : World) (h : Seen w g A c rs) :
    Calls Tryd.prog 77 #[.pointer (some ⟨g, 0, none⟩), .int .i64 a, .int .i64 n] w (RngD rs a n 0 w) := by
  have H := Lib.hid h
  have hfew := h.few
  have HE : Hid (∀ (k : Nat) E w', Below w.heap.size w w' → Rng rs a n 0 E k → RngD rs a n 0 w (.returned (.tuple #[.int .i64 (k : Nat), .int .i64 E])) w') := Lib.hid fun k E w' hb hr => ⟨k, E, rfl, hr, hb⟩
  have HD := Lib.hid hd
  have HRA : Hid (∀ p w', Below w.heap.size w w' → (p = 1 ∨ p = 2 ∨ p = 4) → Calls Tryd.prog 78 #[.pointer (some ⟨g, 0, none⟩), .int .i64 a, .int .i64 n, .int .i64 p] w' (RngD rs a n p w')) := Lib.hid fun p w' hb hp => rranged_any g A c rs a n p ha hp hd w' (H.out.below hb)
  have HA := Lib.hid ha
  generalize RngD rs a n 0 w = L at *
  obtain ⟨M, hlen⟩ : ∃ M, rs.length = M := ⟨_, rfl⟩
  have HLEN := Lib.hid hlen
  have hc := h.box
  rw [hlen] at hc hfew
  have HBX := Lib.hid (Bx.new w #[.int .i64 1, .int .i64 2, .int .i64 4] 53)
  have HB0 := Lib.hid ((Below.refl w.heap.size w).alloc (Nat.le_refl _) (.cells #[.int .i64 1, .int .i64 2, .int .i64 4] 53))
  clear h hlen hd ha
  go_enter Tryd.func77, Tryd.ntmps77
  go_wp2_with fail
  generalize w.alloc (.cells #[.int .i64 1, .int .i64 2, .int .i64 4] 53) = W at *
  go_loopw [15] (fun t15 wr => ∃ k : Nat, k ≤ 3 ∧ t15 = .int .i64 k ∧ (1 ≤ k → goesS (segs rs) a n 1 = 52) ∧ Below W.heap.size W wr) (fun t15 _ => 3 - (intOf t15).toNat)
  case atStart => exact ⟨0, by omega, rfl, fun h => by omega, Below.refl _ _⟩
  case round =>
    obtain ⟨k, hk, rfl, hno, hb⟩ := hrel
    have HNO := Lib.hid hno
    have HBX2 := HBX.out.below hb
    have HB := Lib.hid (HB0.out.trans (hb.mono HB0.out.size))
    have HBW := Lib.hid hb
    have hcr := cell_below HB.out hc
    have c0 := HBX2.c 0
    have c1 := HBX2.c 1
    have c2 := HBX2.c 2
    simp only [List.getElem?_toArray, List.getElem?_cons_zero, List.getElem?_cons_succ] at c0 c1 c2
    clear hno hb HBX2
    have hk3 : k = 0 ∨ k = 1 ∨ k = 2 ∨ k = 3 := by omega
    rcases hk3 with rfl | rfl | rfl | rfl
    · have HX := Lib.hid (HRA.out 1 wr HB.out (by omega))
      clear HRA
      go_wp2_with fail
      refine HX.out.mono ?_
      rintro e w2 ⟨kk, E, rfl, hr, hb2⟩
      have HR := Lib.hid hr
      have HB2 := Lib.hid (HBW.out.trans (hb2.mono HBW.out.size))
      have HB3 := Lib.hid (HB.out.trans (hb2.mono HB.out.size))
      clear HX hr hb2
      by_cases hE : E = 52
      · have HG := Lib.hid (show goesS (segs rs) a n 1 = 52 from HR.out.goes.symm.trans hE)
        subst hE
        clear HR HE HNO
        go_wp2_with fail
        exact ⟨⟨1, by omega, by first | rfl | go_num, fun _ => HG.out, HB2.out⟩, by simp [intOf]⟩
      · have b1 : (E == 52) = false := by simpa using hE
        have HR2 := Lib.hid (HE.out kk E w2 HB3.out (rng_any HR.out hE))
        clear HR HE HNO
        go_wp2_with fail
        first | go_ret2 | skip
        exact HR2.out
    · have HX := Lib.hid (HRA.out 2 wr HB.out (by omega))
      clear HRA
      go_wp2_with fail
      refine HX.out.mono ?_
      rintro e w2 ⟨kk, E, rfl, hr, hb2⟩
      have HR := Lib.hid hr
      have HB2 := Lib.hid (HBW.out.trans (hb2.mono HBW.out.size))
      have HB3 := Lib.hid (HB.out.trans (hb2.mono HB.out.size))
      clear HX hr hb2
      by_cases hE : E = 52
      · have HG := Lib.hid (show goesS (segs rs) a n 1 = 52 from HNO.out (by omega))
        subst hE
        clear HR HE HNO
        go_wp2_with fail
        exact ⟨⟨2, by omega, by first | rfl | go_num, fun _ => HG.out, HB2.out⟩, by simp [intOf]⟩
      · have b1 : (E == 52) = false := by simpa using hE
        have HR2 := Lib.hid (HE.out kk E w2 HB3.out (rng_any HR.out hE))
        clear HR HE HNO
        go_wp2_with fail
        first | go_ret2 | skip
        exact HR2.out
    · have HX := Lib.hid (HRA.out 4 wr HB.out (by omega))
      clear HRA
      go_wp2_with fail
      refine HX.out.mono ?_
      rintro e w2 ⟨kk, E, rfl, hr, hb2⟩
      have HR := Lib.hid hr
      have HB2 := Lib.hid (HBW.out.trans (hb2.mono HBW.out.size))
      have HB3 := Lib.hid (HB.out.trans (hb2.mono HB.out.size))
      clear HX hr hb2
      by_cases hE : E = 52
      · have HG := Lib.hid (show goesS (segs rs) a n 1 = 52 from HNO.out (by omega))
        subst hE
        clear HR HE HNO
        go_wp2_with fail
        exact ⟨⟨3, by omega, by first | rfl | go_num, fun _ => HG.out, HB2.out⟩, by simp [intOf]⟩
      · have b1 : (E == 52) = false := by simpa using hE
        have HR2 := Lib.hid (HE.out kk E w2 HB3.out (rng_any HR.out hE))
        clear HR HE HNO
        go_wp2_with fail
        first | go_ret2 | skip
        exact HR2.out
    · have h52 := HNO.out (by omega)
      obtain ⟨hn, s, hs⟩ := goes_refused h52
      obtain ⟨kk, hkk, hk1, hk2⟩ := hold_raw hs
      have HGO := Lib.hid (show goesS (segs rs) a n 0 = 0 by rw [goes_some hn hs, if_pos (and_zero s.perm)])
      have HNN := Lib.hid hn
      have HKK := Lib.hid (show ∀ (k : Nat) (hk : k < rs.length), (rs[k].b.at_ ≤ a ∧ a < rs[k].b.at_ + rs[k].b.size) → rs[k].b.at_ ≤ a ∧ a + n ≤ rs[k].b.at_ + rs[k].b.size from fun k hk h => by
        have := dis_one HD.out hk hkk h ⟨hk1, by omega⟩
        subst this
        exact ⟨hk1, hk2⟩)
      have HEX := Lib.hid (show (∀ (j : Nat) (hj : j < rs.length), j < M → ¬ (rs[j].b.at_ ≤ a ∧ a < rs[j].b.at_ + rs[j].b.size)) → False from fun h => h kk hkk (by have := HLEN.out; omega) ⟨hk1, by omega⟩)
      clear h52 hn hs hk1 hk2 HRA HNO c0 c1 c2
      go_wp2_with fail
      go_loopw [12] (fun t12 w2 => ∃ k : Nat, k ≤ M ∧ t12 = .int .i64 k ∧ (∀ (j : Nat) (hj : j < rs.length), j < k → ¬ (rs[j].b.at_ ≤ a ∧ a < rs[j].b.at_ + rs[j].b.size)) ∧ Below w.heap.size w w2) (fun t12 _ => M - (intOf t12).toNat)
      case atStart => exact ⟨0, Nat.zero_le _, rfl, (by intro j _ hj; omega), HB.out⟩
      case round =>
        obtain ⟨k, hk, rfl, hno, hb⟩ := hrel
        have HNO := Lib.hid hno
        have HB2 := Lib.hid hb
        have hcr2 := cell_below hb hc
        clear hno hb
        by_cases hlt : k < M
        · have hkr : k < rs.length := by rw [HLEN.out]; exact hlt
          obtain ⟨ad, rfl⟩ : ∃ ad, A = some ad := by
            cases A with
            | none => have := (H.out.bls.nil rfl).1; omega
            | some ad => exact ⟨ad, rfl⟩
          obtain ⟨b, o, rfl⟩ := H.out.bls.plain ad rfl
          obtain ⟨c0, c1, _, _⟩ := (H.out.bls.below HB2.out).at_ b o k rfl hkr
          have hcap := H.out.bls.cap
          have hft := H.out.fit rs[k] (List.getElem_mem hkr)
          have HSK := Lib.hid (show ¬ (rs[k].b.at_ ≤ a ∧ a < rs[k].b.at_ + rs[k].b.size) → ∀ (j : Nat) (hj : j < rs.length), j < k + 1 → ¬ (rs[j].b.at_ ≤ a ∧ a < rs[j].b.at_ + rs[j].b.size) from fun h j hj hjk => by
            by_cases e : j = k
            · subst e; exact h
            · exact HNO.out j hj (by omega))
          have HRR := Lib.hid (show ∀ w', Below w.heap.size w w' → (rs[k].b.at_ ≤ a ∧ a < rs[k].b.at_ + rs[k].b.size) → L (.returned (.tuple #[.int .i64 (k : Nat), .int .i64 0])) w' from fun w' hb h => HE.out k 0 w' hb ⟨HGO.out.symm, fun _ => ⟨hkr, HKK.out k hkr h⟩⟩)
          generalize rs[k].b.at_ = a0 at *
          generalize rs[k].b.size = s0 at *
          obtain ⟨f1, _, f3, f4, _, f6, _⟩ := hft
          have e1 : IntKind.i64.wrap (a0 + s0) = a0 + s0 := by rw [IntKind.wrap_i64]; omega
          clear HE HKK HEX
          by_cases h1 : a0 ≤ a
          · by_cases h2 : a < a0 + s0
            · have HR2 := Lib.hid (fun w' hb => HRR.out w' hb ⟨h1, h2⟩)
              clear HRR HSK
              go_wp2_with fail
              go_quiet (fail)
              go_wp2_with fail
              first | go_ret2 | skip
              exact HR2.out _ (below_drewN HB2.out _)
            · have HS := Lib.hid (HSK.out fun h => h2 h.2)
              clear HRR HSK
              have b2 : decide (a < a0 + s0) = false := decide_eq_false h2
              go_wp2_with fail
              go_quiet (fail)
              go_wp2_with fail
              refine ⟨?_, by simp [intOf]; omega⟩
              first | exact ⟨k + 1, by omega, by go_num, HS.out, below_drewN HB2.out _⟩ | ((repeat apply Exists.intro); exact ⟨⟨k + 1, by omega, by go_num, HS.out, below_drewN HB2.out _⟩, rfl⟩)
          · have HS := Lib.hid (HSK.out fun h => h1 h.1)
            have b1 : decide (a0 ≤ a) = false := decide_eq_false h1
            clear HRR HSK
            go_wp2_with fail
            go_quiet (fail)
            go_wp2_with fail
            refine ⟨?_, by simp [intOf]; omega⟩
            first | exact ⟨k + 1, by omega, by go_num, HS.out, below_drewN HB2.out _⟩ | ((repeat apply Exists.intro); exact ⟨⟨k + 1, by omega, by go_num, HS.out, below_drewN HB2.out _⟩, rfl⟩)
        · exact (HEX.out fun j hj hjm => HNO.out j hj (by omega)).elim
theorem ruse_any (g : Nat) (A : Option Addr) (c : Nat) (rs : List Raw) (a n p : Int) (ha : I64 a) (hp : p = 0 ∨ p = 1 ∨ p = 2 ∨ p = 4) (hd : Dis rs) (w : World) (h : Seen w g A c rs) :
    Calls Tryd.prog 54 #[.pointer (some ⟨g, 0, none⟩), .int .i64 a, .int .i64 n, .int .i64 p] w (RngD rs a n p w) := by
  by_cases h0 : p = 0
  · subst h0
    have HX := Lib.hid (rany_any g A c rs a n ha hd w h)
    clear h hd
    generalize hL : RngD rs a n 0 w = L at *
    have HL := Lib.hid hL
    clear hL
    go_enter Tryd.func54, Tryd.ntmps54
    go_wp2_with fail
    refine HX.out.mono ?_
    intro e w1 hr
    rw [← HL.out] at hr
    have hr0 := hr
    obtain ⟨k, E, rfl, _, _⟩ := hr
    have HR := Lib.hid hr0
    clear hr0
    go_wp2_with fail
    first | go_ret2 | skip
    rw [← HL.out]
    exact HR.out
  · have HX := Lib.hid (rranged_any g A c rs a n p ha (by omega) hd w h)
    have b1 : (p == 0) = false := by simpa using h0
    clear h hd hp
    generalize hL : RngD rs a n p w = L at *
    have HL := Lib.hid hL
    clear hL
    go_enter Tryd.func54, Tryd.ntmps54
    go_wp2_with fail
    refine HX.out.mono ?_
    intro e w1 hr
    rw [← HL.out] at hr
    have hr0 := hr
    obtain ⟨k, E, rfl, _, _⟩ := hr
    have HR := Lib.hid hr0
    clear hr0
    go_wp2_with fail
    first | go_ret2 | skip
    rw [← HL.out]
    exact HR.out
end Go.Proofs.YtfkhfjefddgkoaaDoor

namespace Go.Proofs.YtfkhfjefddgkoaaDoor
open Go.RowKit

theorem slice_mid (A : Option Addr) (n c k m : Nat) (hk : k + m ≤ c) (w' : World) : (Instr.slice 55 (.slice A n c) (some (.int .i64 (k : Int))) (some (.int .i64 ((k + m : Nat) : Int))) none).run Tryd.prog w' = .ok (.slice (dropA A c k) m (c - k)) w' := by
  have hz : (sizeOf (Tryd.prog.elem 55)).run Tryd.prog w' = .ok 1 w' := by kernel_rfl
  rw [run_slice_lh (w := w') 55 A n c (by kernel_rfl) .i64 .i64 k ((k + m : Nat) : Int) (by omega) (by omega) (by omega), hz]
  simp [Result.andThen, sliced, dropA]
  omega
theorem Src.mid {w : World} {P : Nat → Prop} {A : Option Addr} {n c k m : Nat} {xs : Str} (h : Src w P A n c (cells xs)) (hk : k + m ≤ n) (hm : 0 < m) : Src w P (dropA A c k) m (c - k) (cells ((xs.drop k).take m)) := by
  have hl : xs.length = n := by have := h.len; rwa [cells_len] at this
  obtain ⟨ad, rfl⟩ : ∃ ad, A = some ad := by
    cases A with
    | none => have := (h.nil rfl).1; omega
    | some ad => exact ⟨ad, rfl⟩
  have hcap := h.cap
  have hd : dropA (some ad) c k = some (ad.add k) := by
    unfold dropA
    rw [if_neg (by omega), Option.map_some]
  rw [hd]
  refine ⟨by rw [cells_len, List.length_take, List.length_drop]; omega, (by intro e; cases e), by omega, (fun a e _ => by cases e; rw [addBlock]; exact h.blk ad rfl (by omega)), fun a e j u hu => ?_⟩
  cases e
  rw [addAdd]
  refine h.at_ ad rfl (k + j) u ?_
  rw [← cells_take, ← cells_drop] at hu
  have hj : j < m := by
    have := (List.getElem?_eq_some_iff.1 hu).1
    rw [List.length_take] at this
    omega
  rw [← hu, List.getElem?_take_of_lt hj, List.getElem?_drop]
theorem got_mid {rs : List Raw} (hd : Dis rs) {a n : Int} (hn : 1 ≤ n) {k : Nat} (hk : k < rs.length) (hf : (rs[k].b.bytes.length : Int) = rs[k].b.size) (h1 : rs[k].b.at_ ≤ a) (h2 : a + n ≤ rs[k].b.at_ + rs[k].b.size) :
    gotS (segs rs) a n = (rs[k].b.bytes.drop (a - rs[k].b.at_).toNat).take n.toNat := by
  unfold gotS
  rw [hold_dis hd hn hk h1 h2]
  apply List.ext_getElem
  · simp only [List.length_map, List.length_range, List.length_take, List.length_drop]
    omega
  · intro j h3 h4
    simp only [List.length_map, List.length_range] at h3
    simp only [List.getElem_map, List.getElem_range, List.getElem_take, List.getElem_drop]
    show rs[k].b.bytes.getD ((a - rs[k].b.at_).toNat + j) 0 = _
    rw [List.getD_eq_getElem?_getD, List.getElem?_eq_getElem (by omega)]
    rfl
set_option maxRecDepth 100000 in
set_option maxHeartbeats 4000000 in
theorem rGet_any (B g : Nat) (A : Option Addr) (c : Nat) (rs : List Raw) (a n p : Int) (ha : I64 a) (hp : p = 0 ∨ p = 1 ∨ p = 2 ∨ p = 4) (hd : Dis rs) (w : World) (h : Seen w g A c rs) (hb : ∀ r ∈ rs, w.ownsRow B 5 1 (.slice r.A r.b.bytes.length r.c) r.b.bytes.length (cells r.b.bytes)) (hf : ∀ r ∈ rs, (r.b.bytes.length : Int) = r.b.size) :
    Calls Tryd.prog 38 #[.pointer (some ⟨g, 0, none⟩), .int .i64 a, .int .i64 n, .int .i64 p] w (TookS w (segs rs) a n p) := by
  obtain ⟨i0, hi, hz0, hz1, hz2⟩ := info_parts Tryd.info_u8
  have H := Lib.hid h
  have HU := Lib.hid (ruse_any g A c rs a n p ha hp hd w h)
  have HD := Lib.hid hd
  have HBY := Lib.hid hb
  have HFU := Lib.hid hf
  have HN : Hid (∀ E w', Below w.heap.size w w' → E = goesS (segs rs) a n p → E ≠ 0 → TookS w (segs rs) a n p (.returned (.tuple #[.slice none 0 0, .int .i64 E])) w') := Lib.hid fun E w' hb he h0 => by
    subst he
    exact ⟨hb, none, 0, 0, rfl, by rw [if_neg h0]; rfl, by rw [if_neg h0]; exact ⟨rfl, .inl ⟨rfl, rfl⟩⟩⟩
  have HY : Hid (∀ (bs : Str) A' c' w', goesS (segs rs) a n p = 0 → gotS (segs rs) a n = bs → Below w.heap.size w w' → w'.ownsRow w.heap.size 5 1 (.slice A' bs.length c') bs.length (cells bs) → TookS w (segs rs) a n p (.returned (.tuple #[.slice A' bs.length c', .int .i64 0])) w') := Lib.hid fun bs A' c' w' h0 hg hb ho => by
    refine ⟨hb, A', _, c', by rw [h0], ?_, ?_⟩
    · rw [if_pos h0, hg]
    · rw [if_pos h0, hg]
      exact ho
  generalize TookS w (segs rs) a n p = L at *
  clear h hd hb hf hp ha
  go_enter Tryd.func38, Tryd.ntmps38
  go_wp2_with fail
  refine HU.out.mono ?_
  rintro e w1 ⟨k, E, rfl, hr, hb1⟩
  have HR := Lib.hid hr
  have HB := Lib.hid hb1
  clear hr hb1 HU
  by_cases hE : E = 0
  · obtain ⟨hkr, h1, h2⟩ := HR.out.here hE
    have h0 : goesS (segs rs) a n p = 0 := HR.out.goes.symm.trans hE
    have hn := goes_len h0
    have hmem := List.getElem_mem hkr
    have hfu := HFU.out rs[k] hmem
    have HG := Lib.hid (got_mid HD.out hn.1 hkr hfu h1 h2)
    obtain ⟨ad, rfl⟩ : ∃ ad, A = some ad := by
      cases A with
      | none => have := (H.out.bls.nil rfl).1; omega
      | some ad => exact ⟨ad, rfl⟩
    obtain ⟨b, o, rfl⟩ := H.out.bls.plain ad rfl
    have hc := cell_below HB.out H.out.box
    obtain ⟨c0, _, _, c3⟩ := (H.out.bls.below HB.out).at_ b o k rfl hkr
    have hcap := H.out.bls.cap
    have hft := H.out.fit rs[k] hmem
    have HS := Lib.hid (Src.of_own (own_beside (HBY.out rs[k] hmem) (Beside.of_below HB.out (fun _ => False)) fun _ _ e => e)).lt
    have HZ := Lib.hid h0
    obtain ⟨f, hf⟩ : ∃ f : Nat, (f : Int) = a - rs[k].b.at_ := ⟨(a - rs[k].b.at_).toNat, by omega⟩
    obtain ⟨m, rfl⟩ : ∃ m : Nat, n = (m : Int) := ⟨n.toNat, by omega⟩
    have hff : (a - rs[k].b.at_).toNat = f := by omega
    have hmm : ((m : Int)).toNat = m := by omega
    rw [hff, hmm] at HG
    subst hE
    generalize rs[k].b.bytes = bs at *
    generalize rs[k].A = A0 at *
    generalize rs[k].c = cc at *
    generalize rs[k].b.at_ = a0 at *
    generalize rs[k].b.size = s0 at *
    obtain ⟨f1, _, f3, f4, _, f6, _⟩ := hft
    have hfl : f + m ≤ bs.length := by omega
    have hcc := HS.out.cap
    have HM := Lib.hid (HS.out.mid hfl (by omega))
    have e1 : wrap64 (a - a0) = (f : Int) := by rw [hf]; exact IntWalk.wrap64_in _ (by omega)
    have hfb : f + m ≤ 1048576 := by omega
    have hsl : ∀ w', (Instr.slice 55 (.slice A0 bs.length cc) (some (.int .i64 (f : Int))) (some (.int .i64 ((f : Int) + (m : Int)))) none).run Tryd.prog w' = .ok (.slice (dropA A0 cc f) m (cc - f)) w' := fun w' => by rw [← Int.natCast_add]; exact slice_mid A0 bs.length cc f m (by omega) w'
    have hml : ((bs.drop f).take m).length = m := by rw [List.length_take, List.length_drop]; omega
    have HML := Lib.hid hml
    have HO := Lib.hid (show w1.ownsRow w.heap.size 5 1 (.slice none 0 0) 0 [] from ⟨rfl, .inl ⟨rfl, rfl⟩⟩)
    have h1c := cells_one ((bs.drop f).take m)
    have m1 : 0 + m ≤ maxLen := by simp only [maxLen]; omega
    have m2 : (0 + m) * 1 ≤ 140737488355328 := by omega
    have hsz := HB.out.size
    clear HN h0 hn hmem hfu HD HBY HFU HR hml hff hmm hf f1 f3 f4 f6 hfl hcc h1 h2
    generalize (bs.drop f).take m = mid at *
    go_wp2_with (at_builtin; refine wpList_append_src rfl (.tmp 36) (.tmp 49) _ rfl w.heap.size 5 i0 _ 1 Tryd.underlying55 hi hz0 hz1 hz2 rfl (.slice none 0 0) 0 [] rfl HO.out _ (dropA A0 cc f) m (cc - f) (cells mid) rfl HM.out h1c m1 m2 hsz ?_; intro v' w2 hown hg hat; obtain ⟨A', c', rfl⟩ := own_slice hown; have HO2 := Lib.hid hown; have HB2 := Lib.hid (HB.out.grown hg hsz (fun k hk => by cases hk)); clear hown hg hat)
    have hown := HO2.out
    simp only [Nat.zero_add, List.nil_append] at hown
    have hmm := HML.out
    subst hmm
    first | go_ret2 | skip
    try simp only [Nat.zero_add]
    exact HY.out mid A' c' w2 HZ.out HG.out HB2.out hown
  · have HE := Lib.hid (HN.out E w1 HB.out HR.out.goes hE)
    have b1 : (E == 0) = false := by simpa using hE
    have b2 : (E != 0) = true := by simpa using hE
    clear HN HY HR hE
    go_wp2_with fail
    first | go_ret2 | skip
    exact HE.out
end Go.Proofs.YtfkhfjefddgkoaaDoor
