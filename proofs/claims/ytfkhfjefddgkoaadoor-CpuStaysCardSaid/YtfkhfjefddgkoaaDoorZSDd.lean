/-
  The document's model: which region begins at an address, and which one holds a range.
-/
import Derived.Test.YtfkhfjefddgkoaaDoorZSDc
namespace Go.Proofs.YtfkhfjefddgkoaaDoor
open Go.RowKit

/-- No two regions share an address. -/
def Dis (rs : List Raw) : Prop := ∀ (j k : Nat) (hj : j < rs.length) (hk : k < rs.length), j ≠ k → rs[j].b.at_ + rs[j].b.size ≤ rs[k].b.at_ ∨ rs[k].b.at_ + rs[k].b.size ≤ rs[j].b.at_
theorem dis_of {rs : List Raw} {ss : List Seg} (hg : Good ss) (hp : (segs rs).Perm ss) : Dis rs := by
  have h1 : ss.Pairwise fun a b => a.at_ + a.size ≤ b.at_ ∨ b.at_ + b.size ≤ a.at_ := hg.next.imp fun h => .inl h
  have h2 := (hp.pairwise_iff (R := fun a b => a.at_ + a.size ≤ b.at_ ∨ b.at_ + b.size ≤ a.at_) (fun h => h.symm)).2 h1
  have h3 := List.pairwise_iff_getElem.1 h2
  intro j k hj hk hne
  rcases Nat.lt_or_gt_of_ne hne with h | h
  · have := h3 j k (by rw [segs_len]; exact hj) (by rw [segs_len]; exact hk) h
    rw [segs_at _ _ hj, segs_at _ _ hk] at this
    exact this
  · have := h3 k j (by rw [segs_len]; exact hk) (by rw [segs_len]; exact hj) h
    rw [segs_at _ _ hj, segs_at _ _ hk] at this
    exact this.symm
theorem dis_one {rs : List Raw} (hd : Dis rs) {a : Int} {j k : Nat} (hj : j < rs.length) (hk : k < rs.length) (h1 : rs[j].b.at_ ≤ a ∧ a < rs[j].b.at_ + rs[j].b.size) (h2 : rs[k].b.at_ ≤ a ∧ a < rs[k].b.at_ + rs[k].b.size) : j = k := by
  by_cases e : j = k
  · exact e
  · rcases hd j k hj hk e with h | h <;> omega
theorem hold_dis {rs : List Raw} (hd : Dis rs) {a n : Int} (hn : 1 ≤ n) {k : Nat} (hk : k < rs.length) (h1 : rs[k].b.at_ ≤ a) (h2 : a + n ≤ rs[k].b.at_ + rs[k].b.size) : holdS (segs rs) a n = some (seg rs[k].b) := by
  unfold holdS
  rw [List.find?_eq_some_iff_getElem]
  refine ⟨by unfold inS; simpa using ⟨h1, h2⟩, k, by rw [segs_len]; exact hk, segs_at rs k hk, fun j hj => ?_⟩
  rw [segs_at rs j (by omega)]
  unfold inS
  have hne : ¬ (rs[j].b.at_ ≤ a ∧ a + n ≤ rs[j].b.at_ + rs[j].b.size) := fun h => by
    have := dis_one hd (a := a) (by omega) hk ⟨h.1, by omega⟩ ⟨h1, by omega⟩
    omega
  have hne2 := decide_eq_false hne
  show (!decide (rs[j].b.at_ ≤ a ∧ a + n ≤ rs[j].b.at_ + rs[j].b.size)) = true
  rw [hne2]
  rfl
theorem hold_no {rs : List Raw} {a n : Int} (h : ∀ (k : Nat) (hk : k < rs.length), ¬ (rs[k].b.at_ ≤ a ∧ a + n ≤ rs[k].b.at_ + rs[k].b.size)) : holdS (segs rs) a n = none := by
  unfold holdS
  rw [List.find?_eq_none]
  intro s hs
  obtain ⟨r, hr, rfl⟩ := segs_mem hs
  obtain ⟨k, hk, rfl⟩ := List.getElem_of_mem hr
  unfold inS
  simpa [seg] using h k hk
/-- Where a range stands, and whether it may be so used. -/
structure Rng (rs : List Raw) (a n need E : Int) (k : Nat) : Prop where
  goes : E = goesS (segs rs) a n need
  here : E = 0 → ∃ hk : k < rs.length, rs[k].b.at_ ≤ a ∧ a + n ≤ rs[k].b.at_ + rs[k].b.size
def RngD (rs : List Raw) (a n need : Int) (w : World) (e : Ending) (w' : World) : Prop := ∃ (k : Nat) (E : Int), e = .returned (.tuple #[.int .i64 (k : Nat), .int .i64 E]) ∧ Rng rs a n need E k ∧ Below w.heap.size w w'
theorem perm_bit {p q : Int} (hp : p = 1 ∨ p = 2 ∨ p = 4) (hq : 0 ≤ q ∧ q ≤ 7) : bits .and .i64 q p = p ↔ ¬ q / p % 2 = 0 := by
  have : q = 0 ∨ q = 1 ∨ q = 2 ∨ q = 3 ∨ q = 4 ∨ q = 5 ∨ q = 6 ∨ q = 7 := by omega
  rcases this with rfl | rfl | rfl | rfl | rfl | rfl | rfl | rfl <;> rcases hp with rfl | rfl | rfl <;> decide
theorem goes_some {rs : List Raw} {a n need : Int} {s : Seg} (hn : 1 ≤ n ∧ n ≤ 1048576) (h : holdS (segs rs) a n = some s) : goesS (segs rs) a n need = if bits .and .i64 s.perm need = need then 0 else 52 := by
  unfold goesS
  rw [if_neg (by omega), h]
theorem goes_none {rs : List Raw} {a n need : Int} (hn : 1 ≤ n ∧ n ≤ 1048576) (h : holdS (segs rs) a n = none) : goesS (segs rs) a n need = 50 := by
  unfold goesS
  rw [if_neg (by omega), h]
set_option maxRecDepth 100000 in
set_option maxHeartbeats 4000000 in
theorem rranged_1 (g : Nat) (A : Option Addr) (c : Nat) (rs : List Raw) (a n : Int) (ha : I64 a) (hd : Dis rs) (w : World) (h : Seen w g A c rs) :
    Calls Tryd.prog 78 #[.pointer (some ⟨g, 0, none⟩), .int .i64 a, .int .i64 n, .int .i64 1] w (RngD rs a n 1 w) := by
  have H := Lib.hid h
  have hfew := h.few
  have HE : Hid (∀ (k : Nat) E w', Below w.heap.size w w' → Rng rs a n 1 E k → RngD rs a n 1 w (.returned (.tuple #[.int .i64 (k : Nat), .int .i64 E])) w') := Lib.hid fun k E w' hb hr => ⟨k, E, rfl, hr, hb⟩
  have HD := Lib.hid hd
  have HA := Lib.hid ha
  generalize RngD rs a n 1 w = L at *
  generalize hlen : rs.length = M at *
  have HLEN := Lib.hid hlen
  have hc := h.box
  rw [hlen] at hc
  clear h hlen hd ha
  by_cases hn : n < 1 ∨ 1048576 < n
  · have HE2 := Lib.hid (HE.out 0 1 w (Below.refl _ _) ⟨by unfold goesS; rw [if_pos hn], fun e => by omega⟩)
    clear HE
    rcases hn with hn | hn
    all_goals
      go_enter Tryd.func78, Tryd.ntmps78
      go_wp2_with fail
      first | go_ret2 | skip
      exact HE2.out
  · have hn2 : 1 ≤ n ∧ n ≤ 1048576 := by omega
    obtain ⟨n1, n2⟩ := hn2
    clear hn
    have HN := Lib.hid (And.intro n1 n2)
    go_enter Tryd.func78, Tryd.ntmps78
    go_wp2_with fail
    go_loopw [10] (fun t10 wr => ∃ k : Nat, k ≤ M ∧ t10 = .int .i64 k ∧ (∀ (j : Nat) (hj : j < rs.length), j < k → ¬ (rs[j].b.at_ ≤ a ∧ a < rs[j].b.at_ + rs[j].b.size)) ∧ Below w.heap.size w wr) (fun t10 _ => M - (intOf t10).toNat)
    case atStart => exact ⟨0, Nat.zero_le _, rfl, (by intro j _ hj; omega), Below.refl _ _⟩
    case round =>
      obtain ⟨k, hk, rfl, hno, hb⟩ := hrel
      have HNO := Lib.hid hno
      have HB := Lib.hid hb
      have hcr := cell_below hb hc
      clear hno hb
      by_cases hlt : k < M
      · have hkr : k < rs.length := by rw [HLEN.out]; exact hlt
        obtain ⟨ad, rfl⟩ : ∃ ad, A = some ad := by
          cases A with
          | none => have := (H.out.bls.nil rfl).1; omega
          | some ad => exact ⟨ad, rfl⟩
        obtain ⟨b, o, rfl⟩ := H.out.bls.plain ad rfl
        obtain ⟨c0, c1, c2, _⟩ := (H.out.bls.below HB.out).at_ b o k rfl hkr
        have hft := H.out.fit rs[k] (List.getElem_mem hkr)
        have HSK := Lib.hid (show ¬ (rs[k].b.at_ ≤ a ∧ a < rs[k].b.at_ + rs[k].b.size) → ∀ (j : Nat) (hj : j < rs.length), j < k + 1 → ¬ (rs[j].b.at_ ≤ a ∧ a < rs[j].b.at_ + rs[j].b.size) from fun h j hj hjk => by
          by_cases e : j = k
          · subst e; exact h
          · exact HNO.out j hj (by omega))
        have HSH := Lib.hid (show rs[k].b.at_ ≤ a ∧ a < rs[k].b.at_ + rs[k].b.size → rs[k].b.at_ + rs[k].b.size - a < n → holdS (segs rs) a n = none from fun h1 h2 => hold_no fun j hj h3 => by
          have := dis_one HD.out hj hkr ⟨h3.1, by omega⟩ h1
          subst this
          omega)
        have HHO := Lib.hid (show rs[k].b.at_ ≤ a → a + n ≤ rs[k].b.at_ + rs[k].b.size → holdS (segs rs) a n = some (seg rs[k].b) from fun h1 h2 => hold_dis HD.out HN.out.1 hkr h1 h2)
        have HHR := Lib.hid (show rs[k].b.at_ ≤ a → a + n ≤ rs[k].b.at_ + rs[k].b.size → ∃ hk : k < rs.length, rs[k].b.at_ ≤ a ∧ a + n ≤ rs[k].b.at_ + rs[k].b.size from fun h1 h2 => ⟨hkr, h1, h2⟩)
        have HPM := Lib.hid (show (seg rs[k].b).perm = rs[k].b.perm from rfl)
        generalize seg rs[k].b = S at *
        generalize rs[k].b.at_ = a0 at *
        generalize rs[k].b.size = s0 at *
        generalize rs[k].b.perm = p0 at *
        obtain ⟨f1, _, f3, f4, _, f6, f7, f8⟩ := hft
        have e2 : wrap64 (a0 + s0) = a0 + s0 := IntWalk.wrap64_in _ (by omega)
        have HBA := Lib.hid (HB.out.alloc HB.out.size (.cells #[.int .i64 a0, .int .i64 s0, .int .i64 p0] 89))
        by_cases h1 : a < a0
        · have HS := Lib.hid (HSK.out (by omega))
          clear HE HSK HSH HHO HHR HPM
          go_wp2_with fail
          exact ⟨⟨k + 1, by omega, by go_num, HS.out, HBA.out⟩, by simp [intOf]; omega⟩
        · by_cases h2 : a0 + s0 ≤ a
          · have HS := Lib.hid (HSK.out (by omega))
            clear HE HSK HSH HHO HHR HPM
            go_wp2_with fail
            exact ⟨⟨k + 1, by omega, by go_num, HS.out, HBA.out⟩, by simp [intOf]; omega⟩
          · have e3 : wrap64 (a0 + s0 - a) = a0 + s0 - a := IntWalk.wrap64_in _ (by omega)
            by_cases h3 : a0 + s0 - a < n
            · have HR := Lib.hid (HE.out 0 50 _ HBA.out ⟨(goes_none HN.out (HSH.out (by omega) h3)).symm, fun e => by omega⟩)
              clear HE HSK HSH HHO HHR HPM
              go_wp2_with fail
              first | go_ret2 | skip
              exact HR.out
            · have hgo := goes_some (need := 1) HN.out (HHO.out (by omega) (by omega))
              rw [HPM.out] at hgo
              have hpb := perm_bit (p := 1) (by omega) (q := p0) ⟨f7, f8⟩
              have HX := HHR.out (by omega) (by omega)
              by_cases hq : p0 / 1 % 2 = 0
              · rw [if_neg fun e => hpb.1 e hq] at hgo
                have HR := Lib.hid (HE.out 0 52 _ HBA.out ⟨hgo.symm, fun e => by omega⟩)
                have b1 : (p0 / 1 % 2 == 0) = true := by rw [hq]; rfl
                clear HE HSK HSH HHO HHR HPM hgo hpb HX
                go_wp2_with fail
                first | go_ret2 | skip
                exact HR.out
              · rw [if_pos (hpb.2 hq)] at hgo
                have HR := Lib.hid (HE.out k 0 _ HBA.out ⟨hgo.symm, fun _ => HX⟩)
                have b1 : (p0 / 1 % 2 == 0) = false := by simpa using hq
                clear HE HSK HSH HHO HHR HPM hgo hpb HX
                go_wp2_with fail
                first | go_ret2 | skip
                exact HR.out
      · obtain rfl : k = M := by omega
        have hhn : holdS (segs rs) a n = none := hold_no fun j hj h3 => HNO.out j hj (by have := HLEN.out; omega) ⟨h3.1, by have := HN.out; omega⟩
        have HR := Lib.hid (HE.out 0 50 _ HB.out ⟨(goes_none HN.out hhn).symm, fun e => by omega⟩)
        clear HE HNO hhn
        go_wp2_with fail
        first | go_ret2 | skip
        exact HR.out
set_option maxRecDepth 100000 in
set_option maxHeartbeats 4000000 in
theorem rranged_2 (g : Nat) (A : Option Addr) (c : Nat) (rs : List Raw) (a n : Int) (ha : I64 a) (hd : Dis rs) (w : World) (h : Seen w g A c rs) :
    Calls Tryd.prog 78 #[.pointer (some ⟨g, 0, none⟩), .int .i64 a, .int .i64 n, .int .i64 2] w (RngD rs a n 2 w) := by
  have H := Lib.hid h
  have hfew := h.few
  have HE : Hid (∀ (k : Nat) E w', Below w.heap.size w w' → Rng rs a n 2 E k → RngD rs a n 2 w (.returned (.tuple #[.int .i64 (k : Nat), .int .i64 E])) w') := Lib.hid fun k E w' hb hr => ⟨k, E, rfl, hr, hb⟩
  have HD := Lib.hid hd
  have HA := Lib.hid ha
  generalize RngD rs a n 2 w = L at *
  generalize hlen : rs.length = M at *
  have HLEN := Lib.hid hlen
  have hc := h.box
  rw [hlen] at hc
  clear h hlen hd ha
  by_cases hn : n < 1 ∨ 1048576 < n
  · have HE2 := Lib.hid (HE.out 0 1 w (Below.refl _ _) ⟨by unfold goesS; rw [if_pos hn], fun e => by omega⟩)
    clear HE
    rcases hn with hn | hn
    all_goals
      go_enter Tryd.func78, Tryd.ntmps78
      go_wp2_with fail
      first | go_ret2 | skip
      exact HE2.out
  · have hn2 : 1 ≤ n ∧ n ≤ 1048576 := by omega
    obtain ⟨n1, n2⟩ := hn2
    clear hn
    have HN := Lib.hid (And.intro n1 n2)
    go_enter Tryd.func78, Tryd.ntmps78
    go_wp2_with fail
    go_loopw [10] (fun t10 wr => ∃ k : Nat, k ≤ M ∧ t10 = .int .i64 k ∧ (∀ (j : Nat) (hj : j < rs.length), j < k → ¬ (rs[j].b.at_ ≤ a ∧ a < rs[j].b.at_ + rs[j].b.size)) ∧ Below w.heap.size w wr) (fun t10 _ => M - (intOf t10).toNat)
    case atStart => exact ⟨0, Nat.zero_le _, rfl, (by intro j _ hj; omega), Below.refl _ _⟩
    case round =>
      obtain ⟨k, hk, rfl, hno, hb⟩ := hrel
      have HNO := Lib.hid hno
      have HB := Lib.hid hb
      have hcr := cell_below hb hc
      clear hno hb
      by_cases hlt : k < M
      · have hkr : k < rs.length := by rw [HLEN.out]; exact hlt
        obtain ⟨ad, rfl⟩ : ∃ ad, A = some ad := by
          cases A with
          | none => have := (H.out.bls.nil rfl).1; omega
          | some ad => exact ⟨ad, rfl⟩
        obtain ⟨b, o, rfl⟩ := H.out.bls.plain ad rfl
        obtain ⟨c0, c1, c2, _⟩ := (H.out.bls.below HB.out).at_ b o k rfl hkr
        have hft := H.out.fit rs[k] (List.getElem_mem hkr)
        have HSK := Lib.hid (show ¬ (rs[k].b.at_ ≤ a ∧ a < rs[k].b.at_ + rs[k].b.size) → ∀ (j : Nat) (hj : j < rs.length), j < k + 1 → ¬ (rs[j].b.at_ ≤ a ∧ a < rs[j].b.at_ + rs[j].b.size) from fun h j hj hjk => by
          by_cases e : j = k
          · subst e; exact h
          · exact HNO.out j hj (by omega))
        have HSH := Lib.hid (show rs[k].b.at_ ≤ a ∧ a < rs[k].b.at_ + rs[k].b.size → rs[k].b.at_ + rs[k].b.size - a < n → holdS (segs rs) a n = none from fun h1 h2 => hold_no fun j hj h3 => by
          have := dis_one HD.out hj hkr ⟨h3.1, by omega⟩ h1
          subst this
          omega)
        have HHO := Lib.hid (show rs[k].b.at_ ≤ a → a + n ≤ rs[k].b.at_ + rs[k].b.size → holdS (segs rs) a n = some (seg rs[k].b) from fun h1 h2 => hold_dis HD.out HN.out.1 hkr h1 h2)
        have HHR := Lib.hid (show rs[k].b.at_ ≤ a → a + n ≤ rs[k].b.at_ + rs[k].b.size → ∃ hk : k < rs.length, rs[k].b.at_ ≤ a ∧ a + n ≤ rs[k].b.at_ + rs[k].b.size from fun h1 h2 => ⟨hkr, h1, h2⟩)
        have HPM := Lib.hid (show (seg rs[k].b).perm = rs[k].b.perm from rfl)
        generalize seg rs[k].b = S at *
        generalize rs[k].b.at_ = a0 at *
        generalize rs[k].b.size = s0 at *
        generalize rs[k].b.perm = p0 at *
        obtain ⟨f1, _, f3, f4, _, f6, f7, f8⟩ := hft
        have e2 : wrap64 (a0 + s0) = a0 + s0 := IntWalk.wrap64_in _ (by omega)
        have HBA := Lib.hid (HB.out.alloc HB.out.size (.cells #[.int .i64 a0, .int .i64 s0, .int .i64 p0] 89))
        by_cases h1 : a < a0
        · have HS := Lib.hid (HSK.out (by omega))
          clear HE HSK HSH HHO HHR HPM
          go_wp2_with fail
          exact ⟨⟨k + 1, by omega, by go_num, HS.out, HBA.out⟩, by simp [intOf]; omega⟩
        · by_cases h2 : a0 + s0 ≤ a
          · have HS := Lib.hid (HSK.out (by omega))
            clear HE HSK HSH HHO HHR HPM
            go_wp2_with fail
            exact ⟨⟨k + 1, by omega, by go_num, HS.out, HBA.out⟩, by simp [intOf]; omega⟩
          · have e3 : wrap64 (a0 + s0 - a) = a0 + s0 - a := IntWalk.wrap64_in _ (by omega)
            by_cases h3 : a0 + s0 - a < n
            · have HR := Lib.hid (HE.out 0 50 _ HBA.out ⟨(goes_none HN.out (HSH.out (by omega) h3)).symm, fun e => by omega⟩)
              clear HE HSK HSH HHO HHR HPM
              go_wp2_with fail
              first | go_ret2 | skip
              exact HR.out
            · have hgo := goes_some (need := 2) HN.out (HHO.out (by omega) (by omega))
              rw [HPM.out] at hgo
              have hpb := perm_bit (p := 2) (by omega) (q := p0) ⟨f7, f8⟩
              have HX := HHR.out (by omega) (by omega)
              by_cases hq : p0 / 2 % 2 = 0
              · rw [if_neg fun e => hpb.1 e hq] at hgo
                have HR := Lib.hid (HE.out 0 52 _ HBA.out ⟨hgo.symm, fun e => by omega⟩)
                have b1 : (p0 / 2 % 2 == 0) = true := by rw [hq]; rfl
                clear HE HSK HSH HHO HHR HPM hgo hpb HX
                go_wp2_with fail
                first | go_ret2 | skip
                exact HR.out
              · rw [if_pos (hpb.2 hq)] at hgo
                have HR := Lib.hid (HE.out k 0 _ HBA.out ⟨hgo.symm, fun _ => HX⟩)
                have b1 : (p0 / 2 % 2 == 0) = false := by simpa using hq
                clear HE HSK HSH HHO HHR HPM hgo hpb HX
                go_wp2_with fail
                first | go_ret2 | skip
                exact HR.out
      · obtain rfl : k = M := by omega
        have hhn : holdS (segs rs) a n = none := hold_no fun j hj h3 => HNO.out j hj (by have := HLEN.out; omega) ⟨h3.1, by have := HN.out; omega⟩
        have HR := Lib.hid (HE.out 0 50 _ HB.out ⟨(goes_none HN.out hhn).symm, fun e => by omega⟩)
        clear HE HNO hhn
        go_wp2_with fail
        first | go_ret2 | skip
        exact HR.out
set_option maxRecDepth 100000 in
set_option maxHeartbeats 4000000 in
theorem rranged_4 (g : Nat) (A : Option Addr) (c : Nat) (rs : List Raw) (a n : Int) (ha : I64 a) (hd : Dis rs) (w : World) (h : Seen w g A c rs) :
    Calls Tryd.prog 78 #[.pointer (some ⟨g, 0, none⟩), .int .i64 a, .int .i64 n, .int .i64 4] w (RngD rs a n 4 w) := by
  have H := Lib.hid h
  have hfew := h.few
  have HE : Hid (∀ (k : Nat) E w', Below w.heap.size w w' → Rng rs a n 4 E k → RngD rs a n 4 w (.returned (.tuple #[.int .i64 (k : Nat), .int .i64 E])) w') := Lib.hid fun k E w' hb hr => ⟨k, E, rfl, hr, hb⟩
  have HD := Lib.hid hd
  have HA := Lib.hid ha
  generalize RngD rs a n 4 w = L at *
  generalize hlen : rs.length = M at *
  have HLEN := Lib.hid hlen
  have hc := h.box
  rw [hlen] at hc
  clear h hlen hd ha
  by_cases hn : n < 1 ∨ 1048576 < n
  · have HE2 := Lib.hid (HE.out 0 1 w (Below.refl _ _) ⟨by unfold goesS; rw [if_pos hn], fun e => by omega⟩)
    clear HE
    rcases hn with hn | hn
    all_goals
      go_enter Tryd.func78, Tryd.ntmps78
      go_wp2_with fail
      first | go_ret2 | skip
      exact HE2.out
  · have hn2 : 1 ≤ n ∧ n ≤ 1048576 := by omega
    obtain ⟨n1, n2⟩ := hn2
    clear hn
    have HN := Lib.hid (And.intro n1 n2)
    go_enter Tryd.func78, Tryd.ntmps78
    go_wp2_with fail
    go_loopw [10] (fun t10 wr => ∃ k : Nat, k ≤ M ∧ t10 = .int .i64 k ∧ (∀ (j : Nat) (hj : j < rs.length), j < k → ¬ (rs[j].b.at_ ≤ a ∧ a < rs[j].b.at_ + rs[j].b.size)) ∧ Below w.heap.size w wr) (fun t10 _ => M - (intOf t10).toNat)
    case atStart => exact ⟨0, Nat.zero_le _, rfl, (by intro j _ hj; omega), Below.refl _ _⟩
    case round =>
      obtain ⟨k, hk, rfl, hno, hb⟩ := hrel
      have HNO := Lib.hid hno
      have HB := Lib.hid hb
      have hcr := cell_below hb hc
      clear hno hb
      by_cases hlt : k < M
      · have hkr : k < rs.length := by rw [HLEN.out]; exact hlt
        obtain ⟨ad, rfl⟩ : ∃ ad, A = some ad := by
          cases A with
          | none => have := (H.out.bls.nil rfl).1; omega
          | some ad => exact ⟨ad, rfl⟩
        obtain ⟨b, o, rfl⟩ := H.out.bls.plain ad rfl
        obtain ⟨c0, c1, c2, _⟩ := (H.out.bls.below HB.out).at_ b o k rfl hkr
        have hft := H.out.fit rs[k] (List.getElem_mem hkr)
        have HSK := Lib.hid (show ¬ (rs[k].b.at_ ≤ a ∧ a < rs[k].b.at_ + rs[k].b.size) → ∀ (j : Nat) (hj : j < rs.length), j < k + 1 → ¬ (rs[j].b.at_ ≤ a ∧ a < rs[j].b.at_ + rs[j].b.size) from fun h j hj hjk => by
          by_cases e : j = k
          · subst e; exact h
          · exact HNO.out j hj (by omega))
        have HSH := Lib.hid (show rs[k].b.at_ ≤ a ∧ a < rs[k].b.at_ + rs[k].b.size → rs[k].b.at_ + rs[k].b.size - a < n → holdS (segs rs) a n = none from fun h1 h2 => hold_no fun j hj h3 => by
          have := dis_one HD.out hj hkr ⟨h3.1, by omega⟩ h1
          subst this
          omega)
        have HHO := Lib.hid (show rs[k].b.at_ ≤ a → a + n ≤ rs[k].b.at_ + rs[k].b.size → holdS (segs rs) a n = some (seg rs[k].b) from fun h1 h2 => hold_dis HD.out HN.out.1 hkr h1 h2)
        have HHR := Lib.hid (show rs[k].b.at_ ≤ a → a + n ≤ rs[k].b.at_ + rs[k].b.size → ∃ hk : k < rs.length, rs[k].b.at_ ≤ a ∧ a + n ≤ rs[k].b.at_ + rs[k].b.size from fun h1 h2 => ⟨hkr, h1, h2⟩)
        have HPM := Lib.hid (show (seg rs[k].b).perm = rs[k].b.perm from rfl)
        generalize seg rs[k].b = S at *
        generalize rs[k].b.at_ = a0 at *
        generalize rs[k].b.size = s0 at *
        generalize rs[k].b.perm = p0 at *
        obtain ⟨f1, _, f3, f4, _, f6, f7, f8⟩ := hft
        have e2 : wrap64 (a0 + s0) = a0 + s0 := IntWalk.wrap64_in _ (by omega)
        have HBA := Lib.hid (HB.out.alloc HB.out.size (.cells #[.int .i64 a0, .int .i64 s0, .int .i64 p0] 89))
        by_cases h1 : a < a0
        · have HS := Lib.hid (HSK.out (by omega))
          clear HE HSK HSH HHO HHR HPM
          go_wp2_with fail
          exact ⟨⟨k + 1, by omega, by go_num, HS.out, HBA.out⟩, by simp [intOf]; omega⟩
        · by_cases h2 : a0 + s0 ≤ a
          · have HS := Lib.hid (HSK.out (by omega))
            clear HE HSK HSH HHO HHR HPM
            go_wp2_with fail
            exact ⟨⟨k + 1, by omega, by go_num, HS.out, HBA.out⟩, by simp [intOf]; omega⟩
          · have e3 : wrap64 (a0 + s0 - a) = a0 + s0 - a := IntWalk.wrap64_in _ (by omega)
            by_cases h3 : a0 + s0 - a < n
            · have HR := Lib.hid (HE.out 0 50 _ HBA.out ⟨(goes_none HN.out (HSH.out (by omega) h3)).symm, fun e => by omega⟩)
              clear HE HSK HSH HHO HHR HPM
              go_wp2_with fail
              first | go_ret2 | skip
              exact HR.out
            · have hgo := goes_some (need := 4) HN.out (HHO.out (by omega) (by omega))
              rw [HPM.out] at hgo
              have hpb := perm_bit (p := 4) (by omega) (q := p0) ⟨f7, f8⟩
              have HX := HHR.out (by omega) (by omega)
              by_cases hq : p0 / 4 % 2 = 0
              · rw [if_neg fun e => hpb.1 e hq] at hgo
                have HR := Lib.hid (HE.out 0 52 _ HBA.out ⟨hgo.symm, fun e => by omega⟩)
                have b1 : (p0 / 4 % 2 == 0) = true := by rw [hq]; rfl
                clear HE HSK HSH HHO HHR HPM hgo hpb HX
                go_wp2_with fail
                first | go_ret2 | skip
                exact HR.out
              · rw [if_pos (hpb.2 hq)] at hgo
                have HR := Lib.hid (HE.out k 0 _ HBA.out ⟨hgo.symm, fun _ => HX⟩)
                have b1 : (p0 / 4 % 2 == 0) = false := by simpa using hq
                clear HE HSK HSH HHO HHR HPM hgo hpb HX
                go_wp2_with fail
                first | go_ret2 | skip
                exact HR.out
      · obtain rfl : k = M := by omega
        have hhn : holdS (segs rs) a n = none := hold_no fun j hj h3 => HNO.out j hj (by have := HLEN.out; omega) ⟨h3.1, by have := HN.out; omega⟩
        have HR := Lib.hid (HE.out 0 50 _ HB.out ⟨(goes_none HN.out hhn).symm, fun e => by omega⟩)
        clear HE HNO hhn
        go_wp2_with fail
        first | go_ret2 | skip
        exact HR.out
theorem rranged_any (g : Nat) (A : Option Addr) (c : Nat) (rs : List Raw) (a n p : Int) (ha : I64 a) (hp : p = 1 ∨ p = 2 ∨ p = 4) (hd : Dis rs) (w : World) (h : Seen w g A c rs) :
    Calls Tryd.prog 78 #[.pointer (some ⟨g, 0, none⟩), .int .i64 a, .int .i64 n, .int .i64 p] w (RngD rs a n p w) := by
  rcases hp with rfl | rfl | rfl
  · exact rranged_1 g A c rs a n ha hd w h
  · exact rranged_2 g A c rs a n ha hd w h
  · exact rranged_4 g A c rs a n ha hd w h
end Go.Proofs.YtfkhfjefddgkoaaDoor
