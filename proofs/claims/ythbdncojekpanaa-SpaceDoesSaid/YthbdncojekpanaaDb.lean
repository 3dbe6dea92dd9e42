/-
  The document's model of a space: its small functions; a space of its in memory.
  The document's model: is a range free, which region begins here, which one holds a range.
-/
import Derived.Test.YthbdncojekpanaaBw
namespace Go.Proofs.Ythbdncojekpanaa
section
open Go.RowKit

theorem rSized_any (n : Int) (w : World) : Calls Try.prog 68 #[.int .i64 n] w fun e w' => e = .returned (.bool (sizeB n)) ∧ w = w' := by
  have hm := Lib.hid (show sizeB n = (decide (1 ≤ n) && decide (n ≤ 1048576)) from rfl)
  go_enter Try.func68, Try.ntmps68
  go_wp2
  all_goals
    go_ret
    refine ⟨?_, rfl⟩
    refine congrArg (fun b => Ending.returned (Value.bool b)) ?_
    rw [hm.out, Bool.eq_iff_iff]
    simp
    try omega
theorem rPerm_any (p : Int) (w : World) : Calls Try.prog 69 #[.int .i64 p] w fun e w' => e = .returned (.bool (permB p)) ∧ w = w' := by
  have hm := Lib.hid (show permB p = (decide (0 ≤ p) && decide (p ≤ 7)) from rfl)
  go_enter Try.func69, Try.ntmps69
  go_wp2
  all_goals
    go_ret
    refine ⟨?_, rfl⟩
    refine congrArg (fun b => Ending.returned (Value.bool b)) ?_
    rw [hm.out, Bool.eq_iff_iff]
    simp
    try omega
theorem rUp_any (n : Int) (h1 : 1 ≤ n ∧ n ≤ 1048576) (w : World) : Calls Try.prog 70 #[.int .i64 n] w fun e w' => e = .returned (.int .i64 (up n)) ∧ w = w' := by
  go_enter Try.func70, Try.ntmps70
  go_wp2_with fail
  go_loop [0] (fun t0 => ∃ m : Int, n ≤ m ∧ m ≤ up n ∧ t0 = .int .i64 m) (fun t0 => (up n - intOf t0).toNat)
  case atStart => exact ⟨n, Int.le_refl _, by unfold up; omega, rfl⟩
  case round =>
    obtain ⟨m, hm1, hm2, rfl⟩ := hrel
    have hu : up n ≤ 1048576 ∧ up n % 64 = 0 ∧ up n < n + 64 := by unfold up; omega
    have ht : m.tmod 64 = m % 64 := Int.tmod_eq_emod_of_nonneg (by omega)
    by_cases hz : m % 64 = 0
    · have hmu : m = up n := by omega
      have b1 : (m % 64 == 0) = true := by rw [hz]; rfl
      have b2 : (m % 64 != 0) = false := by rw [hz]; rfl
      have HM := Lib.hid hmu
      clear hmu hu hm1 hm2
      go_wp2
      first | go_ret | skip
      exact ⟨by first | rfl | (rw [HM.out]; rfl), rfl⟩
    · have b1 : (m % 64 == 0) = false := by simpa using hz
      have b2 : (m % 64 != 0) = true := by simpa using hz
      have HM := Lib.hid (show m + 1 ≤ up n by omega)
      have hu1 := hu.1
      clear hu
      go_wp2
      go_round
      case rel => exact ⟨m + 1, by omega, HM.out, rfl⟩
      case measure =>
        have := HM.out
        simp [intOf]
        omega
/-- A space of the document's, its parts as they came. -/
structure Dp (w : World) (B g : Nat) (A : Option Addr) (c : Nat) (rs : List Raw) : Prop where
  hg : B ≤ g
  box : Bx w g #[.slice A rs.length c] 29
  own : w.ownsRow B 94 4 (.slice A rs.length c) rs.length (rcells rs)
  bytes : ∀ r ∈ rs, w.ownsRow B 5 1 (.slice r.A r.b.bytes.length r.c) r.b.bytes.length (cells r.b.bytes)
  full : ∀ r ∈ rs, (r.b.bytes.length : Int) = r.b.size
  ne : row A ≠ some g
  apart : ∀ r ∈ rs, ∀ q, row r.A = some q → q ≠ g ∧ some q ≠ row A
  pair : rs.Pairwise fun r r' => ∀ q, row r.A = some q → row r'.A ≠ some q
theorem Dp.lt {w : World} {B g : Nat} {A : Option Addr} {c : Nat} {rs : List Raw} (h : Dp w B g A c rs) {k : Nat} (hk : Foot g A rs k) : B ≤ k ∧ k < w.heap.size := by
  rcases hk with rfl | hk | ⟨r, hr, hk⟩
  · exact ⟨h.hg, h.box.lt⟩
  · exact h.own.lt k (by rw [row_own]; exact hk.symm)
  · exact (h.bytes r hr).lt k (by rw [row_own]; exact hk.symm)
theorem Dp.beside {w w' : World} {p : Nat → Prop} {B g : Nat} {A : Option Addr} {c : Nat} {rs : List Raw} (h : Dp w B g A c rs) (hb : Beside w w' p) (hn : ∀ k, Foot g A rs k → ¬ p k) : Dp w' B g A c rs :=
  ⟨h.hg, h.box.beside hb (hn g (.inl rfl)), own_beside h.own hb fun k hk => hn k (.inr (.inl (by rw [row_own] at hk; exact hk.symm))),
    fun r hr => own_beside (h.bytes r hr) hb fun k hk => hn k (.inr (.inr ⟨r, hr, by rw [row_own] at hk; exact hk.symm⟩)), h.full, h.ne, h.apart, h.pair⟩
/-- A slice of parts that reads as this list, whatever owns it. -/
theorem Bls.of_part {w : World} {B : Nat} {e : TypeId} {A : Option Addr} {c : Nat} {rs : List Raw} (h : w.ownsRow B e 4 (.slice A rs.length c) rs.length (rcells rs)) : Bls w A rs.length c rs := by
  rcases h.2 with ⟨hv, h0⟩ | ⟨g, cap, cur, hv, _, _, hle, _⟩
  · injection hv with h1 _ h2
    subst h1 h2
    exact ⟨rfl, fun _ => ⟨h0, rfl⟩, by omega, (by intro b o j hA; cases hA), (by intro ad hA; cases hA)⟩
  · injection hv with h1 _ h2
    subst h1 h2
    refine ⟨rfl, (by intro hA; cases hA), hle, ?_, (by intro ad hA; cases hA; exact ⟨_, _, rfl⟩)⟩
    intro b o j hA hj
    cases hA
    have hc := h.cells (g := g) rfl
    have e := fun i hi => rcells_at rs j hj i hi
    have k := fun i u (hu : (rcells rs)[j * 4 + i]? = some u) => hc (j * 4 + i) u hu
    have k0 := k 0 _ (e 0 (by omega))
    have k1 := k 1 _ (e 1 (by omega))
    have k2 := k 2 _ (e 2 (by omega))
    have k3 := k 3 _ (e 3 (by omega))
    rw [plainAdd] at k0 k1 k2 k3
    simp only [Nat.zero_add, Nat.add_zero, ← Nat.add_assoc] at k0 k1 k2 k3 ⊢
    exact ⟨k0, k1, k2, k3⟩
theorem Dp.bls {w : World} {B g : Nat} {A : Option Addr} {c : Nat} {rs : List Raw} (h : Dp w B g A c rs) : Bls w A rs.length c rs := Bls.of_part h.own
/-- What the model reads: its box, and the list that lies behind it; and what its regions are. -/
structure Seen (w : World) (g : Nat) (A : Option Addr) (c : Nat) (rs : List Raw) : Prop where
  box : w.cell? ⟨g, 0, none⟩ = some (.slice A rs.length c)
  bls : Bls w A rs.length c rs
  fit : ∀ r ∈ rs, 4096 ≤ r.b.at_ ∧ r.b.at_ % 64 = 0 ∧ 64 ≤ r.b.size ∧ r.b.size ≤ 1048576 ∧ r.b.size % 64 = 0 ∧ r.b.at_ + r.b.size ≤ 4294967296 ∧ 0 ≤ r.b.perm ∧ r.b.perm ≤ 7
  few : rs.length ≤ 67108864
theorem Seen.below {w w' : World} {g : Nat} {A : Option Addr} {c : Nat} {rs : List Raw} (h : Seen w g A c rs) (hb : Below w.heap.size w w') : Seen w' g A c rs := ⟨cell_below hb h.box, h.bls.below hb, h.fit, h.few⟩
end

section
open Go.RowKit

/-- May a region of a rounded size stand here? -/
def okAt (ds : List Seg) (a n : Int) : Prop := 4096 ≤ a ∧ a ≤ 4294967296 - n ∧ freeS ds a n
instance (ds : List Seg) (a n : Int) : Decidable (okAt ds a n) := inferInstanceAs (Decidable (_ ∧ _ ∧ _))
theorem segs_mem {rs : List Raw} {s : Seg} (h : s ∈ segs rs) : ∃ r ∈ rs, s = seg r.b := by
  obtain ⟨r, hr, e⟩ := List.mem_map.1 h
  exact ⟨r, hr, e.symm⟩
theorem freeS_take {rs : List Raw} {k : Nat} (hk : k < rs.length) {a n : Int} : freeS (segs (rs.take (k + 1))) a n ↔ freeS (segs (rs.take k)) a n ∧ (a + n ≤ rs[k].b.at_ ∨ rs[k].b.at_ + rs[k].b.size ≤ a) := by
  have e : segs (rs.take (k + 1)) = segs (rs.take k) ++ [seg rs[k].b] := by
    unfold segs
    rw [List.take_succ_eq_append_getElem hk, List.map_append]
    rfl
  unfold freeS
  rw [e]
  constructor
  · intro h
    exact ⟨fun s hs => h s (List.mem_append_left _ hs), h (seg rs[k].b) (List.mem_append_right _ (List.mem_singleton.2 rfl))⟩
  · rintro ⟨h1, h2⟩ s hs
    rcases List.mem_append.1 hs with hs | hs
    · exact h1 s hs
    · obtain rfl := List.mem_singleton.1 hs
      exact h2
def FreeD (ds : List Seg) (a n : Int) (w : World) (e : Ending) (w' : World) : Prop := e = .returned (.bool (decide (okAt ds a n))) ∧ Below w.heap.size w w'
set_option maxRecDepth 100000 in
set_option maxHeartbeats 2000000 in
theorem rfree_any (g : Nat) (A : Option Addr) (c : Nat) (rs : List Raw) (a n : Int) (hn : 1 ≤ n ∧ n ≤ 1048576) (w : World) (h : Seen w g A c rs) :
    Calls Try.prog 71 #[.pointer (some ⟨g, 0, none⟩), .int .i64 a, .int .i64 n] w (FreeD (segs rs) a n w) := by
  have H := Lib.hid h
  have hfew := h.few
  have HN : Hid (∀ w', Below w.heap.size w w' → ¬ okAt (segs rs) a n → FreeD (segs rs) a n w (.returned (.bool false)) w') := Lib.hid fun w' hb hno => ⟨by rw [decide_eq_false hno], hb⟩
  have HY : Hid (∀ w', Below w.heap.size w w' → okAt (segs rs) a n → FreeD (segs rs) a n w (.returned (.bool true)) w') := Lib.hid fun w' hb hno => ⟨by rw [decide_eq_true hno], hb⟩
  have e0 : wrap64 (4294967296 - n) = 4294967296 - n := IntWalk.wrap64_in _ (by omega)
  generalize FreeD (segs rs) a n w = L at *
  generalize hlen : rs.length = N at *
  have HLEN := Lib.hid hlen
  have hc := h.box
  rw [hlen] at hc
  clear h hlen
  by_cases h1 : a < 4096
  · have HE := Lib.hid (HN.out w (Below.refl _ _) fun h => by have := h.1; omega)
    clear HN HY
    go_enter Try.func71, Try.ntmps71
    go_wp2_with fail
    first | go_ret | skip
    exact HE.out
  · by_cases h2 : 4294967296 - n < a
    · have HE := Lib.hid (HN.out w (Below.refl _ _) fun h => by have := h.2.1; omega)
      clear HN HY
      go_enter Try.func71, Try.ntmps71
      go_wp2_with fail
      first | go_ret | skip
      exact HE.out
    · have e1 : wrap64 (a + n) = a + n := IntWalk.wrap64_in _ (by omega)
      go_enter Try.func71, Try.ntmps71
      go_wp2_with fail
      go_loopw [7] (fun t7 wr => ∃ k : Nat, k ≤ N ∧ t7 = .int .i64 k ∧ freeS (segs (rs.take k)) a n ∧ Below w.heap.size w wr) (fun t7 _ => N - (intOf t7).toNat)
      case atStart => exact ⟨0, Nat.zero_le _, rfl, (by intro s hs; cases hs), Below.refl _ _⟩
      case round =>
        obtain ⟨k, hk, rfl, hf, hb⟩ := hrel
        have HF := Lib.hid hf
        have HB := Lib.hid hb
        have hcr := cell_below hb hc
        clear hf hb
        by_cases hlt : k < N
        · have hkr : k < rs.length := by rw [HLEN.out]; exact hlt
          obtain ⟨ad, rfl⟩ : ∃ ad, A = some ad := by
            cases A with
            | none => have := (H.out.bls.nil rfl).1; omega
            | some ad => exact ⟨ad, rfl⟩
          obtain ⟨b, o, rfl⟩ := H.out.bls.plain ad rfl
          obtain ⟨c0, c1, c2, _⟩ := (H.out.bls.below HB.out).at_ b o k rfl hkr
          have HT := Lib.hid (freeS_take (a := a) (n := n) hkr)
          have hft := H.out.fit rs[k] (List.getElem_mem hkr)
          have HAF := Lib.hid (show ¬ (a + n ≤ rs[k].b.at_ ∨ rs[k].b.at_ + rs[k].b.size ≤ a) → ¬ okAt (segs rs) a n from fun h h' => h (h'.2.2 (seg rs[k].b) (List.mem_map_of_mem (List.getElem_mem hkr))))
          generalize rs[k].b.at_ = a0 at *
          generalize rs[k].b.size = s0 at *
          generalize rs[k].b.perm = p0 at *
          obtain ⟨f1, _, f3, f4, _, f6, _⟩ := hft
          have e2 : wrap64 (a0 + s0) = a0 + s0 := IntWalk.wrap64_in _ (by omega)
          have HBA := Lib.hid (HB.out.alloc HB.out.size (.cells #[.int .i64 a0, .int .i64 s0, .int .i64 p0] 49))
          by_cases h3 : a < a0 + s0
          · by_cases h4 : a0 < a + n
            · have HE := Lib.hid (HN.out _ HBA.out (HAF.out (by omega)))
              clear HN HY HAF HF HT HBA
              go_wp2_with fail
              first | go_ret | skip
              exact HE.out
            · have HF2 := Lib.hid (HT.out.2 ⟨HF.out, by omega⟩)
              clear HN HY HAF HF HT
              go_wp2_with fail
              exact ⟨⟨k + 1, by omega, by go_num, HF2.out, HBA.out⟩, by simp [intOf]; omega⟩
          · have HF2 := Lib.hid (HT.out.2 ⟨HF.out, by omega⟩)
            clear HN HY HAF HF HT
            go_wp2_with fail
            exact ⟨⟨k + 1, by omega, by go_num, HF2.out, HBA.out⟩, by simp [intOf]; omega⟩
        · obtain rfl : k = N := by omega
          have htk : rs.take k = rs := List.take_of_length_le (by rw [HLEN.out]; exact Nat.le_refl _)
          have hf := HF.out
          rw [htk] at hf
          have HE := Lib.hid (HY.out _ HB.out ⟨by omega, by omega, hf⟩)
          clear HN HY htk hf HF
          go_wp2_with fail
          first | go_ret | skip
          exact HE.out
end
end Go.Proofs.Ythbdncojekpanaa
