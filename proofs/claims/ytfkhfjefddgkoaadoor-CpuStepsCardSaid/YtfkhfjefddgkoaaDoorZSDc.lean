/-
  The document's model of a space: its small functions; a space of its in memory.
  The document's model: is a range free, which region begins here, which one holds a range.
  The document's model: where a gap is.
-/
import Derived.Test.YtfkhfjefddgkoaaDoorZSBw
namespace Go.Proofs.YtfkhfjefddgkoaaDoor
open Go.RowKit

theorem rSized_any (n : Int) (w : World) : Calls Tryd.prog 45 #[.int .i64 n] w fun e w' => e = .returned (.bool (sizeB n)) ∧ w = w' := by
  have hm := Lib.hid (show sizeB n = (decide (1 ≤ n) && decide (n ≤ 1048576)) from rfl)
  go_enter Tryd.func45, Tryd.ntmps45
  go_wp2
  all_goals
    go_ret
    refine ⟨?_, rfl⟩
    refine congrArg (fun b => Ending.returned (Value.bool b)) ?_
    rw [hm.out, Bool.eq_iff_iff]
    simp
    try omega
theorem rPerm_any (p : Int) (w : World) : Calls Tryd.prog 46 #[.int .i64 p] w fun e w' => e = .returned (.bool (permB p)) ∧ w = w' := by
  have hm := Lib.hid (show permB p = (decide (0 ≤ p) && decide (p ≤ 7)) from rfl)
  go_enter Tryd.func46, Tryd.ntmps46
  go_wp2
  all_goals
    go_ret
    refine ⟨?_, rfl⟩
    refine congrArg (fun b => Ending.returned (Value.bool b)) ?_
    rw [hm.out, Bool.eq_iff_iff]
    simp
    try omega
theorem rUp_any (n : Int) (h1 : 1 ≤ n ∧ n ≤ 1048576) (w : World) : Calls Tryd.prog 47 #[.int .i64 n] w fun e w' => e = .returned (.int .i64 (up n)) ∧ w = w' := by
  go_enter Tryd.func47, Tryd.ntmps47
  go_wp2_with fail
  go_loop [0] (fun t0 => ∃ m : Int, n ≤ m ∧ m ≤ up n ∧ t0 = .int .i64 m) (fun t0 => (up n - intOf t0).toNat)
  case atStart => exact ⟨n, Int.le_refl _, by unfold up; omega, rfl⟩
  case round =>
    obtain ⟨m, hm1, hm2, rfl⟩ := hrel
    have hu : up n ≤ 1048576 ∧ up n % 64 = 0 ∧ up n < n + 64 := by unfold up; omega
    have ht : m.tmod 64 = m % 64 := Int.tmod_eq_emod_of_nonneg (by omega)
    by_cases hz : m % 64 = 0
    · have hmu : m = up n := by omega
      have b1 : (m % 64 == 0) = true := by rw [hz]; rfl
      have b2 : (m % 64 != 0) = false := by rw [hz]; rfl
      have HM := Lib.hid hmu
      clear hmu hu hm1 hm2
      go_wp2
      first | go_ret | skip
      exact ⟨by first | rfl | (rw [HM.out]; rfl), rfl⟩
    · have b1 : (m % 64 == 0) = false := by simpa using hz
      have b2 : (m % 64 != 0) = true := by simpa using hz
      have HM := Lib.hid (show m + 1 ≤ up n by omega)
      have hu1 := hu.1
      clear hu
      go_wp2
      go_round
      case rel => exact ⟨m + 1, by omega, HM.out, rfl⟩
      case measure =>
        have := HM.out
        simp [intOf]
        omega
/-- A space of the document's, its parts as they came. -/
structure Dp (w : World) (B g : Nat) (A : Option Addr) (c : Nat) (rs : List Raw) : Prop where
  hg : B ≤ g
  box : Bx w g #[.slice A rs.length c] 64
  own : w.ownsRow B 101 4 (.slice A rs.length c) rs.length (rcells rs)
  bytes : ∀ r ∈ rs, w.ownsRow B 5 1 (.slice r.A r.b.bytes.length r.c) r.b.bytes.length (cells r.b.bytes)
  full : ∀ r ∈ rs, (r.b.bytes.length : Int) = r.b.size
  ne : row A ≠ some g
  apart : ∀ r ∈ rs, ∀ q, row r.A = some q → q ≠ g ∧ some q ≠ row A
  pair : rs.Pairwise fun r r' => ∀ q, row r.A = some q → row r'.A ≠ some q
theorem Dp.lt {w : World} {B g : Nat} {A : Option Addr} {c : Nat} {rs : List Raw} (h : Dp w B g A c rs) {k : Nat} (hk : Foot g A rs k) : B ≤ k ∧ k < w.heap.size := by
  rcases hk with rfl | hk | ⟨r, hr, hk⟩
  · exact ⟨h.hg, h.box.lt⟩
  · exact h.own.lt k (by rw [row_own]; exact hk.symm)
  · exact (h.bytes r hr).lt k (by rw [row_own]; exact hk.symm)
theorem Dp.beside {w w' : World} {p : Nat → Prop} {B g : Nat} {A : Option Addr} {c : Nat} {rs : List Raw} (h : Dp w B g A c rs) (hb : Beside w w' p) (hn : ∀ k, Foot g A rs k → ¬ p k) : Dp w' B g A c rs :=
  ⟨h.hg, h.box.beside hb (hn g (.inl rfl)), own_beside h.own hb fun k hk => hn k (.inr (.inl (by rw [row_own] at hk; exact hk.symm))),
    fun r hr => own_beside (h.bytes r hr) hb fun k hk => hn k (.inr (.inr ⟨r, hr, by rw [row_own] at hk; exact hk.symm⟩)), h.full, h.ne, h.apart, h.pair⟩
/-- A slice of parts that reads as this list, whatever owns it. -/
theorem Bls.of_part {w : World} {B : Nat} {e : TypeId} {A : Option Addr} {c : Nat} {rs : List Raw} (h : w.ownsRow B e 4 (.slice A rs.length c) rs.length (rcells rs)) : Bls w A rs.length c rs := by
  rcases h.2 with ⟨hv, h0⟩ | ⟨g, cap, cur, hv, _, _, hle, _⟩
  · injection hv with h1 _ h2
    subst h1 h2
    exact ⟨rfl, fun _ => ⟨h0, rfl⟩, by omega, (by intro b o j hA; cases hA), (by intro ad hA; cases hA)⟩
  · injection hv with h1 _ h2
    subst h1 h2
    refine ⟨rfl, (by intro hA; cases hA), hle, ?_, (by intro ad hA; cases hA; exact ⟨_, _, rfl⟩)⟩
    intro b o j hA hj
    cases hA
    have hc := h.cells (g := g) rfl
    have e := fun i hi => rcells_at rs j hj i hi
    have k := fun i u (hu : (rcells rs)[j * 4 + i]? = some u) => hc (j * 4 + i) u hu
    have k0 := k 0 _ (e 0 (by omega))
    have k1 := k 1 _ (e 1 (by omega))
    have k2 := k 2 _ (e 2 (by omega))
    have k3 := k 3 _ (e 3 (by omega))
    rw [plainAdd] at k0 k1 k2 k3
    simp only [Nat.zero_add, Nat.add_zero, ← Nat.add_assoc] at k0 k1 k2 k3 ⊢
    exact ⟨k0, k1, k2, k3⟩
theorem Dp.bls {w : World} {B g : Nat} {A : Option Addr} {c : Nat} {rs : List Raw} (h : Dp w B g A c rs) : Bls w A rs.length c rs := Bls.of_part h.own
/-- What the model reads: its box, and the list that lies behind it; and what its regions are. -/
structure Seen (w : World) (g : Nat) (A : Option Addr) (c : Nat) (rs : List Raw) : Prop where
  box : w.cell? ⟨g, 0, none⟩ = some (.slice A rs.length c)
  bls : Bls w A rs.length c rs
  fit : ∀ r ∈ rs, 4096 ≤ r.b.at_ ∧ r.b.at_ % 64 = 0 ∧ 64 ≤ r.b.size ∧ r.b.size ≤ 1048576 ∧ r.b.size % 64 = 0 ∧ r.b.at_ + r.b.size ≤ 4294967296 ∧ 0 ≤ r.b.perm ∧ r.b.perm ≤ 7
  few : rs.length ≤ 67108864
theorem Seen.below {w w' : World} {g : Nat} {A : Option Addr} {c : Nat} {rs : List Raw} (h : Seen w g A c rs) (hb : Below w.heap.size w w') : Seen w' g A c rs := ⟨cell_below hb h.box, h.bls.below hb, h.fit, h.few⟩
end Go.Proofs.YtfkhfjefddgkoaaDoor

namespace Go.Proofs.YtfkhfjefddgkoaaDoor
open Go.RowKit

/-- May a region of a rounded size stand here? -/
def okAt (ds : List Seg) (a n : Int) : Prop := 4096 ≤ a ∧ a ≤ 4294967296 - n ∧ freeS ds a n
instance (ds : List Seg) (a n : Int) : Decidable (okAt ds a n) := inferInstanceAs (Decidable (_ ∧ _ ∧ _))
theorem segs_mem {rs : List Raw} {s : Seg} (h : s ∈ segs rs) : ∃ r ∈ rs, s = seg r.b := by
  obtain ⟨r, hr, e⟩ := List.mem_map.1 h
  exact ⟨r, hr, e.symm⟩
theorem freeS_take {rs : List Raw} {k : Nat} (hk : k < rs.length) {a n : Int} : freeS (segs (rs.take (k + 1))) a n ↔ freeS (segs (rs.take k)) a n ∧ (a + n ≤ rs[k].b.at_ ∨ rs[k].b.at_ + rs[k].b.size ≤ a) := by
  have e : segs (rs.take (k + 1)) = segs (rs.take k) ++ [seg rs[k].b] := by
    unfold segs
    rw [List.take_succ_eq_append_getElem hk, List.map_append]
    rfl
  unfold freeS
  rw [e]
  constructor
  · intro h
    exact ⟨fun s hs => h s (List.mem_append_left _ hs), h (seg rs[k].b) (List.mem_append_right _ (List.mem_singleton.2 rfl))⟩
  · rintro ⟨h1, h2⟩ s hs
    rcases List.mem_append.1 hs with hs | hs
    · exact h1 s hs
    · obtain rfl := List.mem_singleton.1 hs
      exact h2
def FreeD (ds : List Seg) (a n : Int) (w : World) (e : Ending) (w' : World) : Prop := e = .returned (.bool (decide (okAt ds a n))) ∧ Below w.heap.size w w'
set_option maxRecDepth 100000 in
set_option maxHeartbeats 2000000 in
theorem rfree_any (g : Nat) (A : Option Addr) (c : Nat) (rs : List Raw) (a n : Int) (hn : 1 ≤ n ∧ n ≤ 1048576) (w : World) (h : Seen w g A c rs) :
    Calls Tryd.prog 48 #[.pointer (some ⟨g, 0, none⟩), .int .i64 a, .int .i64 n] w (FreeD (segs rs) a n w) := by
  have H := Lib.hid h
  have hfew := h.few
  have HN : Hid (∀ w', Below w.heap.size w w' → ¬ okAt (segs rs) a n → FreeD (segs rs) a n w (.returned (.bool false)) w') := Lib.hid fun w' hb hno => ⟨by rw [decide_eq_false hno], hb⟩
  have HY : Hid (∀ w', Below w.heap.size w w' → okAt (segs rs) a n → FreeD (segs rs) a n w (.returned (.bool true)) w') := Lib.hid fun w' hb hno => ⟨by rw [decide_eq_true hno], hb⟩
  have e0 : wrap64 (4294967296 - n) = 4294967296 - n := IntWalk.wrap64_in _ (by omega)
  generalize FreeD (segs rs) a n w = L at *
  generalize hlen : rs.length = N at *
  have HLEN := Lib.hid hlen
  have hc := h.box
  rw [hlen] at hc
  clear h hlen
  by_cases h1 : a < 4096
  · have HE := Lib.hid (HN.out w (Below.refl _ _) fun h => by have := h.1; omega)
    clear HN HY
    go_enter Tryd.func48, Tryd.ntmps48
    go_wp2_with fail
    first | go_ret | skip
    exact HE.out
  · by_cases h2 : 4294967296 - n < a
    · have HE := Lib.hid (HN.out w (Below.refl _ _) fun h => by have := h.2.1; omega)
      clear HN HY
      go_enter Tryd.func48, Tryd.ntmps48
      go_wp2_with fail
      first | go_ret | skip
      exact HE.out
    · have e1 : wrap64 (a + n) = a + n := IntWalk.wrap64_in _ (by omega)
      go_enter Tryd.func48, Tryd.ntmps48
      go_wp2_with fail
      go_loopw [7] (fun t7 wr => ∃ k : Nat, k ≤ N ∧ t7 = .int .i64 k ∧ freeS (segs (rs.take k)) a n ∧ Below w.heap.size w wr) (fun t7 _ => N - (intOf t7).toNat)
      case atStart => exact ⟨0, Nat.zero_le _, rfl, (by intro s hs; cases hs), Below.refl _ _⟩
      case round =>
        obtain ⟨k, hk, rfl, hf, hb⟩ := hrel
        have HF := Lib.hid hf
        have HB := Lib.hid hb
        have hcr := cell_below hb hc
        clear hf hb
        by_cases hlt : k < N
        · have hkr : k < rs.length := by rw [HLEN.out]; exact hlt
          obtain ⟨ad, rfl⟩ : ∃ ad, A = some ad := by
            cases A with
            | none => have := (H.out.bls.nil rfl).1; omega
            | some ad => exact ⟨ad, rfl⟩
          obtain ⟨b, o, rfl⟩ := H.out.bls.plain ad rfl
          obtain ⟨c0, c1, c2, _⟩ := (H.out.bls.below HB.out).at_ b o k rfl hkr
          have HT := Lib.hid (freeS_take (a := a) (n := n) hkr)
          have hft := H.out.fit rs[k] (List.getElem_mem hkr)
          have HAF := Lib.hid (show ¬ (a + n ≤ rs[k].b.at_ ∨ rs[k].b.at_ + rs[k].b.size ≤ a) → ¬ okAt (segs rs) a n from fun h h' => h (h'.2.2 (seg rs[k].b) (List.mem_map_of_mem (List.getElem_mem hkr))))
          generalize rs[k].b.at_ = a0 at *
          generalize rs[k].b.size = s0 at *
          generalize rs[k].b.perm = p0 at *
          obtain ⟨f1, _, f3, f4, _, f6, _⟩ := hft
          have e2 : wrap64 (a0 + s0) = a0 + s0 := IntWalk.wrap64_in _ (by omega)
          have HBA := Lib.hid (HB.out.alloc HB.out.size (.cells #[.int .i64 a0, .int .i64 s0, .int .i64 p0] 89))
          by_cases h3 : a < a0 + s0
          · by_cases h4 : a0 < a + n
            · have HE := Lib.hid (HN.out _ HBA.out (HAF.out (by omega)))
              clear HN HY HAF HF HT HBA
              go_wp2_with fail
              first | go_ret | skip
              exact HE.out
            · have HF2 := Lib.hid (HT.out.2 ⟨HF.out, by omega⟩)
              clear HN HY HAF HF HT
              go_wp2_with fail
              exact ⟨⟨k + 1, by omega, by go_num, HF2.out, HBA.out⟩, by simp [intOf]; omega⟩
          · have HF2 := Lib.hid (HT.out.2 ⟨HF.out, by omega⟩)
            clear HN HY HAF HF HT
            go_wp2_with fail
            exact ⟨⟨k + 1, by omega, by go_num, HF2.out, HBA.out⟩, by simp [intOf]; omega⟩
        · obtain rfl : k = N := by omega
          have htk : rs.take k = rs := List.take_of_length_le (by rw [HLEN.out]; exact Nat.le_refl _)
          have hf := HF.out
          rw [htk] at hf
          have HE := Lib.hid (HY.out _ HB.out ⟨by omega, by omega, hf⟩)
          clear HN HY htk hf HF
          go_wp2_with fail
          first | go_ret | skip
          exact HE.out
end Go.Proofs.YtfkhfjefddgkoaaDoor

namespace Go.Proofs.YtfkhfjefddgkoaaDoor
open Go.RowKit

theorem gap_none {n : Int} : ∀ {ss : List Seg} {a : Int}, gapS n a ss = none → ∀ a', a ≤ a' → a' + n ≤ 4294967296 → ¬ freeS ss a' n
  | [], a, h, a', h1, h2 => by
    unfold gapS at h
    split at h
    · cases h
    · omega
  | s :: ss, a, h, a', h1, h2 => by
    intro hf
    unfold gapS at h
    split at h
    · cases h
    · by_cases h3 : a' < s.at_ + s.size
      · rcases hf s (List.mem_cons_self ..) with h4 | h4 <;> omega
      · exact gap_none h a' (by omega) h2 fun x hx => hf x (List.mem_cons_of_mem _ hx)
theorem gap_cand {n : Int} : ∀ {ss : List Seg} {a r : Int}, gapS n a ss = some r → r = a ∨ ∃ s ∈ ss, r = s.at_ + s.size
  | [], a, r, h => by
    unfold gapS at h
    split at h
    · cases h; exact .inl rfl
    · cases h
  | s :: ss, a, r, h => by
    unfold gapS at h
    split at h
    · cases h; exact .inl rfl
    · rcases gap_cand h with e | ⟨x, hx, e⟩
      · exact .inr ⟨s, List.mem_cons_self .., e⟩
      · exact .inr ⟨x, List.mem_cons_of_mem _ hx, e⟩
theorem free_perm {ds ss : List Seg} (h : ds.Perm ss) (a n : Int) : freeS ds a n ↔ freeS ss a n := ⟨fun hf s hs => hf s (h.mem_iff.2 hs), fun hf s hs => hf s (h.mem_iff.1 hs)⟩
/-- The least of the places looked at so far that may be one; 0: none may. -/
structure Best (ds : List Seg) (N : Int) (cs : List Int) (b : Int) : Prop where
  zero : b = 0 → ∀ c ∈ cs, ¬ okAt ds c N
  ok : b ≠ 0 → okAt ds b N ∧ b ∈ cs
  least : b ≠ 0 → ∀ c ∈ cs, okAt ds c N → b ≤ c
theorem Best.cons {ds : List Seg} {N : Int} {cs : List Int} {b c : Int} (h : Best ds N cs b) : Best ds N (cs ++ [c]) (if okAt ds c N ∧ (b = 0 ∨ c < b) then c else b) := by
  by_cases hc : okAt ds c N
  · by_cases hb : b = 0 ∨ c < b
    · rw [if_pos ⟨hc, hb⟩]
      refine ⟨fun e => by have := hc.1; omega, fun _ => ⟨hc, by simp⟩, fun _ x hx hxo => ?_⟩
      rcases List.mem_append.1 hx with hx | hx
      · rcases hb with hb | hb
        · exact absurd hxo (h.zero hb x hx)
        · by_cases hb0 : b = 0
          · exact absurd hxo (h.zero hb0 x hx)
          · have := h.least hb0 x hx hxo
            omega
      · have := List.mem_singleton.1 hx
        omega
    · rw [if_neg fun e => hb e.2]
      have hb0 : b ≠ 0 := fun e => hb (.inl e)
      refine ⟨fun e => absurd e hb0, fun _ => ⟨(h.ok hb0).1, List.mem_append_left _ (h.ok hb0).2⟩, fun _ x hx hxo => ?_⟩
      rcases List.mem_append.1 hx with hx | hx
      · exact h.least hb0 x hx hxo
      · have := List.mem_singleton.1 hx
        omega
  · rw [if_neg fun e => hc e.1]
    refine ⟨fun e x hx => ?_, fun e => ⟨(h.ok e).1, List.mem_append_left _ (h.ok e).2⟩, fun e x hx hxo => ?_⟩
    · rcases List.mem_append.1 hx with hx | hx
      · exact h.zero e x hx
      · obtain rfl := List.mem_singleton.1 hx
        exact hc
    · rcases List.mem_append.1 hx with hx | hx
      · exact h.least e x hx hxo
      · obtain rfl := List.mem_singleton.1 hx
        exact absurd hxo hc
theorem Best.first (ds : List Seg) (N : Int) : Best ds N [4096] (if okAt ds 4096 N then 4096 else 0) := by
  by_cases h : okAt ds 4096 N
  · rw [if_pos h]
    exact ⟨fun e => by omega, fun _ => ⟨h, by simp⟩, fun _ c hc _ => by have := List.mem_singleton.1 hc; omega⟩
  · rw [if_neg h]
    exact ⟨fun _ c hc => by have := List.mem_singleton.1 hc; rw [this]; exact h, fun e => absurd rfl e, fun e => absurd rfl e⟩
def ends (rs : List Raw) : List Int := rs.map fun r => r.b.at_ + r.b.size
theorem best_gap {rs : List Raw} {ss : List Seg} {n b : Int} (hg : Good ss) (hp : (segs rs).Perm ss) (hn : 1 ≤ n ∧ n ≤ 1048576) (h : Best (segs rs) (up n) (4096 :: ends rs) b) : gapA ss n = if b = 0 then (0, 3) else (b, 0) := by
  have hs : sizeB n = true := by unfold sizeB; simp; omega
  have hu : n ≤ up n := by unfold up; omega
  unfold gapA
  rw [if_pos hs]
  cases hgp : gapS n 4096 ss with
  | none =>
    by_cases hb : b = 0
    · rw [if_pos hb]
    · exfalso
      obtain ⟨⟨h1, h2, h3⟩, _⟩ := h.ok hb
      exact gap_none hgp b h1 (by omega) fun s hs => by rcases (free_perm hp _ _).1 h3 s hs with h4 | h4 <;> omega
  | some r =>
    obtain ⟨g1, g2, g3, g4⟩ := gapS_free hg (fun x hx => (hg.fit x hx).1) hgp
    have g5 := g4 (by omega)
    have hok : okAt (segs rs) r (up n) := ⟨g1, by unfold up; omega, (free_perm hp _ _).2 (freeS_up hg g5 g3)⟩
    have hin : r ∈ 4096 :: ends rs := by
      rcases gap_cand hgp with e | ⟨s, hs, e⟩
      · rw [e]; exact List.mem_cons_self ..
      · obtain ⟨x, hx, rfl⟩ := segs_mem (hp.mem_iff.2 hs)
        exact List.mem_cons_of_mem _ (List.mem_map.2 ⟨x, hx, e.symm⟩)
    by_cases hb : b = 0
    · exact absurd hok (h.zero hb r hin)
    · rw [if_neg hb]
      have h1 := h.least hb r hin hok
      obtain ⟨⟨h2, h3, h4⟩, _⟩ := h.ok hb
      have h5 : ¬ b < r := fun hlt => gap_least hgp b h2 hlt fun s hs => by rcases (free_perm hp _ _).1 h4 s hs with h6 | h6 <;> omega
      have : r = b := by omega
      rw [this]
def GapD (ss : List Seg) (n : Int) (w : World) (e : Ending) (w' : World) : Prop := e = .returned (.tuple #[.int .i64 (gapA ss n).1, .int .i64 (gapA ss n).2]) ∧ Below w.heap.size w w'
set_option maxRecDepth 100000 in
set_option maxHeartbeats 4000000 in
theorem rGap_any (g : Nat) (A : Option Addr) (c : Nat) (rs : List Raw) (ss : List Seg) (n : Int) (hg : Good ss) (hp : (segs rs).Perm ss) (w : World) (h : Seen w g A c rs) :
    Calls Tryd.prog 82 #[.pointer (some ⟨g, 0, none⟩), .int .i64 n] w (GapD ss n w) := by
  have H := Lib.hid h
  have hfew := h.few
  have HZ := Lib.hid (rSized_any n w)
  by_cases hn : 1 ≤ n ∧ n ≤ 1048576
  · have hs : sizeB n = true := by unfold sizeB; simp; omega
    rw [hs] at HZ
    have HU := Lib.hid (rUp_any n hn w)
    have HE : Hid (∀ b w', Below w.heap.size w w' → Best (segs rs) (up n) (4096 :: ends rs) b → GapD ss n w (.returned (if b = 0 then .tuple #[.int .i64 0, .int .i64 3] else .tuple #[.int .i64 b, .int .i64 0])) w') := Lib.hid fun b w' hb hbe => by
      refine ⟨?_, hb⟩
      rw [best_gap hg hp hn hbe]
      split <;> rfl
    have hun : 1 ≤ up n ∧ up n ≤ 1048576 := by unfold up; omega
    generalize up n = N at *
    have HFR : Hid (∀ a w', Below w.heap.size w w' → Calls Tryd.prog 48 #[.pointer (some ⟨g, 0, none⟩), .int .i64 a, .int .i64 N] w' (FreeD (segs rs) a N w')) := Lib.hid fun a w' hb => rfree_any g A c rs a N hun w' (H.out.below hb)
    generalize GapD ss n w = L at *
    generalize hlen : rs.length = M at *
    have HLEN := Lib.hid hlen
    have hc := h.box
    rw [hlen] at hc
    have HB1 := Lib.hid (Best.first (segs rs) N)
    clear h hlen hp hg
    have HF0 := Lib.hid (HFR.out 4096 w (Below.refl _ _))
    by_cases h0 : okAt (segs rs) 4096 N
    all_goals
      have HB2 := HB1.out
      first | rw [if_pos h0] at HB2 | rw [if_neg h0] at HB2
      have HB := Lib.hid HB2
      have hd : ∃ d : Bool, decide (okAt (segs rs) 4096 N) = d := ⟨_, rfl⟩
      clear HB1 HB2
      go_enter Tryd.func82, Tryd.ntmps82
      go_wp2_with fail
      refine HZ.out.mono ?_
      rintro e w1 ⟨rfl, rfl⟩
      clear HZ
      go_wp2_with fail
      refine HU.out.mono ?_
      rintro e w1 ⟨rfl, rfl⟩
      clear HU
      go_wp2_with fail
      refine HF0.out.mono ?_
      rintro e w1 ⟨rfl, hb⟩
      have HBW := Lib.hid hb
      first | rw [decide_eq_true h0] | rw [decide_eq_false h0]
      clear HF0 hb h0 hd
      go_wp2_with fail
      go_loopw [7, 8] (fun t7 t8 wr => ∃ (k : Nat) (b : Int), k ≤ M ∧ t8 = .int .i64 k ∧ t7 = .int .i64 b ∧ Best (segs rs) N (4096 :: ends (rs.take k)) b ∧ Below w.heap.size w wr) (fun _ t8 _ => M - (intOf t8).toNat)
      case atStart => exact ⟨0, _, Nat.zero_le _, rfl, rfl, HB.out, HBW.out⟩
      case round =>
        obtain ⟨k, b, hk, rfl, rfl, hbe, hb⟩ := hrel
        have HBE := Lib.hid hbe
        have HBB := Lib.hid hb
        have hcr := cell_below hb hc
        clear hbe hb HB HBW
        by_cases hlt : k < M
        · have hkr : k < rs.length := by rw [HLEN.out]; exact hlt
          obtain ⟨ad, rfl⟩ : ∃ ad, A = some ad := by
            cases A with
            | none => have := (H.out.bls.nil rfl).1; omega
            | some ad => exact ⟨ad, rfl⟩
          obtain ⟨bl, o, rfl⟩ := H.out.bls.plain ad rfl
          obtain ⟨c0, c1, _, _⟩ := (H.out.bls.below HBB.out).at_ bl o k rfl hkr
          have hcap := H.out.bls.cap
          have hft := H.out.fit rs[k] (List.getElem_mem hkr)
          have he : ends (rs.take (k + 1)) = ends (rs.take k) ++ [rs[k].b.at_ + rs[k].b.size] := by
            unfold ends
            rw [List.take_succ_eq_append_getElem hkr, List.map_append]
            rfl
          have HNX := Lib.hid (show Best (segs rs) N (4096 :: ends (rs.take (k + 1))) _ from by rw [he]; exact HBE.out.cons)
          generalize rs[k].b.at_ = a0 at *
          generalize rs[k].b.size = s0 at *
          obtain ⟨f1, _, f3, f4, _, f6, _⟩ := hft
          have e1 : IntKind.i64.wrap (a0 + s0) = a0 + s0 := by rw [IntKind.wrap_i64]; omega
          clear he
          go_wp2_with fail
          go_quiet (fail)
          clear e1
          generalize hx : a0 + s0 = x at *
          clear c0 c1 hx f1 f3 f4 f6
          have HF2 := Lib.hid (HFR.out x _ (below_drewN HBB.out nq))
          go_wp2_with fail
          refine HF2.out.mono ?_
          rintro e w2 ⟨rfl, hb2⟩
          have HB3 := Lib.hid ((below_drewN HBB.out nq).trans (hb2.mono HBB.out.size))
          clear HF2 hb2
          by_cases hok : okAt (segs rs) x N
          · rw [decide_eq_true hok]
            by_cases hb0 : b = 0
            · have HN := HNX.out
              rw [if_pos ⟨hok, .inl hb0⟩] at HN
              have HN2 := Lib.hid HN
              subst hb0
              clear HN HNX hok
              go_wp2_with fail
              exact ⟨⟨k + 1, _, by omega, by go_num, rfl, HN2.out, HB3.out⟩, by simp [intOf]; omega⟩
            · have b1 : (b == 0) = false := by simpa using hb0
              by_cases hxb : x < b
              · have HN := HNX.out
                rw [if_pos ⟨hok, .inr hxb⟩] at HN
                have HN2 := Lib.hid HN
                clear HN HNX hok
                go_wp2_with fail
                exact ⟨⟨k + 1, _, by omega, by go_num, rfl, HN2.out, HB3.out⟩, by simp [intOf]; omega⟩
              · have HN := HNX.out
                rw [if_neg fun e => e.2.elim hb0 hxb] at HN
                have HN2 := Lib.hid HN
                clear HN HNX hok
                go_wp2_with fail
                exact ⟨⟨k + 1, _, by omega, by go_num, rfl, HN2.out, HB3.out⟩, by simp [intOf]; omega⟩
          · rw [decide_eq_false hok]
            have HN := HNX.out
            rw [if_neg fun e => hok e.1] at HN
            have HN2 := Lib.hid HN
            clear HN HNX hok
            go_wp2_with fail
            exact ⟨⟨k + 1, _, by omega, by go_num, rfl, HN2.out, HB3.out⟩, by simp [intOf]; omega⟩
        · obtain rfl : k = M := by omega
          have htk : rs.take k = rs := List.take_of_length_le (by rw [HLEN.out]; exact Nat.le_refl _)
          have hbe := HBE.out
          rw [htk] at hbe
          have HE2 := Lib.hid (HE.out b _ HBB.out hbe)
          clear HE htk hbe HBE
          by_cases hb0 : b = 0
          · have HE3 := HE2.out
            rw [if_pos hb0] at HE3
            have HE4 := Lib.hid HE3
            subst hb0
            clear HE3 HE2
            go_wp2_with fail
            first | go_ret2 | skip
            exact HE4.out
          · have HE3 := HE2.out
            rw [if_neg hb0] at HE3
            have HE4 := Lib.hid HE3
            have b1 : (b == 0) = false := by simpa using hb0
            clear HE3 HE2
            go_wp2_with fail
            first | go_ret2 | skip
            exact HE4.out
  · have hs : sizeB n = false := by unfold sizeB; simp; omega
    rw [hs] at HZ
    have HE := Lib.hid (show GapD ss n w (.returned (.tuple #[.int .i64 0, .int .i64 1])) w from ⟨by unfold gapA; rw [hs]; rfl, Below.refl _ _⟩)
    generalize GapD ss n w = L at *
    clear hn hs h hp hg
    go_enter Tryd.func82, Tryd.ntmps82
    go_wp2_with fail
    refine HZ.out.mono ?_
    rintro e w1 ⟨rfl, rfl⟩
    clear HZ
    go_wp2_with fail
    first | go_ret2 | skip
    exact HE.out
end Go.Proofs.YtfkhfjefddgkoaaDoor
