/-
  The reading functions of a space: end, gap, free, reach, isStart.
  Which block holds a range, and whether a range is free.
  Which block holds a range: reach.
-/
import Derived.Test.YtfkhfjefddgkoaaDoorZSC
import Derived.Deep.RegionHeld3
import Derived.Laws.BitsAllLaws
namespace Go.Proofs.YtfkhfjefddgkoaaDoor
open Go.RowKit

theorem end_any (b o : Nat) (a s : Int) (w : World) (h0 : w.cell? ⟨b, o, none⟩ = some (.int .i64 a)) (h1 : w.cell? ⟨b, o + 1, none⟩ = some (.int .i64 s)) (hw : I64 (a + s)) :
    Calls Tryd.prog 72 #[.pointer (some ⟨b, o, none⟩)] w fun e w' => e = .returned (.int .i64 (a + s)) ∧ Below w.heap.size w w' := by
  have e1 : wrap64 (a + s) = a + s := IntWalk.wrap64_in _ (by have := hw.1; have := hw.2; omega)
  have e2 : IntKind.i64.wrap (a + s) = a + s := by rw [IntKind.wrap_i64]; have := hw.1; have := hw.2; omega
  clear hw
  go_enter Tryd.func72, Tryd.ntmps72
  go_wp2_with fail
  first | (go_region_with (fail)) | fail
  all_goals
    go_wp2_with fail
    go_ret
    exact ⟨by first | rfl | simp [*], below_drew (Below.refl _ _)⟩

/-- A range within the limits. -/
def startB (a n : Int) : Bool := decide (a % 64 = 0) && (decide (4096 ≤ a) && decide (a ≤ 4294967296 - n))
theorem tmod64 (a : Int) : (a.tmod 64 == 0) = decide (a % 64 = 0) := by
  rw [Bool.eq_iff_iff]
  simp only [beq_iff_eq, decide_eq_true_eq]
  constructor
  · intro h
    exact Int.emod_eq_zero_of_dvd (Int.dvd_of_tmod_eq_zero h)
  · intro h
    exact Int.tmod_eq_zero_of_dvd (Int.dvd_of_emod_eq_zero h)
theorem isStart_any (a n : Int) (hn : 1 ≤ n ∧ n ≤ 1048576) (w : World) : Calls Tryd.prog 42 #[.int .i64 a, .int .i64 n] w fun e w' => e = .returned (.bool (startB a n)) ∧ w = w' := by
  have e1 : wrap64 (4294967296 - n) = 4294967296 - n := IntWalk.wrap64_in _ (by omega)
  have ht := tmod64 a
  have HR := Lib.hid (show startB a n = (decide (a % 64 = 0) && (decide (4096 ≤ a) && decide (a ≤ 4294967296 - n))) from rfl)
  generalize startB a n = R at *
  by_cases h0 : a % 64 = 0
  · rw [decide_eq_true h0] at ht HR
    by_cases h1 : 4096 ≤ a
    · rw [decide_eq_true h1] at HR
      by_cases h2 : a ≤ 4294967296 - n
      · rw [decide_eq_true h2] at HR
        go_enter Tryd.func42, Tryd.ntmps42
        go_wp2_with fail
        go_ret
        exact ⟨by rw [HR.out]; rfl, rfl⟩
      · rw [decide_eq_false h2] at HR
        go_enter Tryd.func42, Tryd.ntmps42
        go_wp2_with fail
        go_ret
        exact ⟨by rw [HR.out]; rfl, rfl⟩
    · rw [decide_eq_false h1] at HR
      go_enter Tryd.func42, Tryd.ntmps42
      go_wp2_with fail
      go_ret
      exact ⟨by rw [HR.out]; rfl, rfl⟩
  · rw [decide_eq_false h0] at ht HR
    go_enter Tryd.func42, Tryd.ntmps42
    go_wp2_with fail
    go_ret
    exact ⟨by rw [HR.out]; rfl, rfl⟩

/-- The least address from a on where so many bytes are free. -/
def gapFrom (n : Int) : Int → List Raw → Option Int
  | a, [] => if a + n ≤ 4294967296 then some a else none
  | a, r :: rs => if a + n ≤ r.b.at_ then some a else gapFrom n (r.b.at_ + r.b.size) rs
/-- Within the limits, each. -/
def In (rs : List Raw) : Prop := ∀ r ∈ rs, 4096 ≤ r.b.at_ ∧ 0 ≤ r.b.size ∧ r.b.at_ + r.b.size ≤ 4294967296
theorem gapFrom_cons (n a : Int) (rs : List Raw) (k : Nat) (hk : k < rs.length) : gapFrom n a (rs.drop k) = if a + n ≤ rs[k].b.at_ then some a else gapFrom n (rs[k].b.at_ + rs[k].b.size) (rs.drop (k + 1)) := by
  rw [List.drop_eq_getElem_cons hk, gapFrom]
theorem gapFrom_nil (n a : Int) (rs : List Raw) (k : Nat) (hk : rs.length ≤ k) : gapFrom n a (rs.drop k) = if a + n ≤ 4294967296 then some a else none := by
  rw [List.drop_of_length_le hk, gapFrom]
def Gapped (w : World) (r : Option Int) (e : Ending) (w' : World) : Prop :=
  Below w.heap.size w w' ∧ e = .returned (match r with
    | some a => .tuple #[.int .i64 a, .int .i64 0]
    | none => .tuple #[.int .i64 0, .int .i64 3])

set_option maxRecDepth 100000 in
set_option maxHeartbeats 2000000 in
theorem gap_any (A : Option Addr) (n c g : Nat) (rs : List Raw) (s : Int) (hs : 1 ≤ s ∧ s ≤ 1048576) (w : World) (hc : w.cell? ⟨g, 0, none⟩ = some (.slice A n c)) (h : Bls w A n c rs) (hin : In rs) (hn : n ≤ 1152921504606846976) :
    Calls Tryd.prog 79 #[.pointer (some ⟨g, 0, none⟩), .int .i64 s] w (Gapped w (gapFrom s 4096 rs)) := by
  have H := Lib.hid h
  have hl := h.len
  have HIN := Lib.hid hin
  clear h hin
  generalize hG : gapFrom s 4096 rs = G
  have HG := Lib.hid hG
  clear hG
  go_enter Tryd.func79, Tryd.ntmps79
  go_wp2_with fail
  go_loopw [6, 14] (fun t6 t14 wr => ∃ (k : Nat) (a : Int), k ≤ n ∧ t14 = .int .i64 k ∧ t6 = .int .i64 a ∧ 4096 ≤ a ∧ a ≤ 4294967296 ∧ G = gapFrom s a (rs.drop k) ∧ Below w.heap.size w wr) (fun _ t14 _ => n - (intOf t14).toNat)
  case atStart => exact ⟨0, 4096, Nat.zero_le _, rfl, rfl, by omega, by omega, HG.out.symm, Below.refl _ _⟩
  case round =>
    obtain ⟨k, a, hk, rfl, rfl, ha1, ha2, hGa, hb⟩ := hrel
    have HGA := Lib.hid hGa
    have HB := Lib.hid hb
    clear hGa hb
    have e1 : wrap64 (a + s) = a + s := IntWalk.wrap64_in _ (by omega)
    by_cases hlt : k < n
    · have hkr : k < rs.length := by omega
      obtain ⟨ad, rfl⟩ : ∃ ad, A = some ad := by
        cases A with
        | none => have := (H.out.nil rfl).1; omega
        | some ad => exact ⟨ad, rfl⟩
      obtain ⟨b, o, rfl⟩ := H.out.plain ad rfl
      obtain ⟨c0, c1, c2, c3⟩ := (H.out.below HB.out).at_ b o k rfl hkr
      obtain ⟨i1, i2, i3⟩ := HIN.out rs[k] (List.getElem_mem hkr)
      have HGC := Lib.hid (gapFrom_cons s a rs k hkr)
      generalize hpm : rs[k].b.perm = p0 at *
      generalize hA0 : rs[k].A = A0 at *
      generalize hl0 : rs[k].b.bytes.length = l0 at *
      generalize hcc : rs[k].c = cc at *
      generalize rs[k].b.size = s0 at *
      generalize rs[k].b.at_ = a0 at *
      have HX := Lib.hid (Bx.new wr #[.int .i64 a0, .int .i64 s0, .int .i64 p0, .slice A0 l0 cc] 122)
      have HBA := Lib.hid (HB.out.alloc HB.out.size (.cells #[.int .i64 a0, .int .i64 s0, .int .i64 p0, .slice A0 l0 cc] 122))
      have HEN := Lib.hid (fun w1 h0 h1 => end_any wr.heap.size 0 a0 s0 w1 h0 h1 ⟨by omega, by omega⟩)
      clear hpm hA0 hl0 hcc
      by_cases hfit : a + s ≤ a0
      · have HF := Lib.hid (show G = some a by rw [HGA.out, HGC.out, if_pos hfit])
        clear HGA HGC HEN HX
        go_wp2_with fail
        go_ret2
        rw [HF.out]
        exact ⟨HBA.out, rfl⟩
      · have HF := Lib.hid (show G = gapFrom s (a0 + s0) (rs.drop (k + 1)) by rw [HGA.out, HGC.out, if_neg hfit])
        clear HGA HGC
        go_wp2_with fail
        refine (HEN.out _ (HX.out.c 0) (HX.out.c 1)).mono ?_
        rintro e w1 ⟨rfl, hb1⟩
        have HB1 := Lib.hid (HBA.out.trans (hb1.mono HBA.out.size))
        clear hb1 HEN HX HBA c0 c1 c2 c3
        go_wp2_with fail
        exact ⟨⟨k + 1, a0 + s0, by omega, by go_num, rfl, by omega, by omega, HF.out, HB1.out⟩, by simp [intOf]; omega⟩
    · have HGC := Lib.hid (gapFrom_nil s a rs k (by omega))
      by_cases hfit : a + s ≤ 4294967296
      · have HF := Lib.hid (show G = some a by rw [HGA.out, HGC.out, if_pos hfit])
        clear HGA HGC
        go_wp2_with fail
        go_ret2
        rw [HF.out]
        exact ⟨HB.out, rfl⟩
      · have HF := Lib.hid (show G = none by rw [HGA.out, HGC.out, if_neg hfit])
        clear HGA HGC
        go_wp2_with fail
        go_ret2
        rw [HF.out]
        exact ⟨HB.out, rfl⟩
end Go.Proofs.YtfkhfjefddgkoaaDoor

namespace Go.Proofs.YtfkhfjefddgkoaaDoor
open Go.RowKit

/-- The regions of a list, in increasing order, none of which reaches into the next one, all within the limits. -/
structure Ord (rs : List Raw) : Prop where
  fit : ∀ r ∈ rs, 4096 ≤ r.b.at_ ∧ 64 ≤ r.b.size ∧ r.b.at_ + r.b.size ≤ 4294967296
  next : ∀ (j k : Nat) (hj : j < rs.length) (hk : k < rs.length), j < k → rs[j].b.at_ + rs[j].b.size ≤ rs[k].b.at_
theorem Ord.asc {rs : List Raw} (h : Ord rs) : Asc rs := fun j k hj hk hjk => by
  have h1 := h.next j k hj hk hjk
  have h2 := (h.fit rs[j] (List.getElem_mem hj)).2.1
  omega
theorem Ord.inn {rs : List Raw} (h : Ord rs) : In rs := fun r hr => by
  obtain ⟨h1, h2, h3⟩ := h.fit r hr
  exact ⟨h1, by omega, h3⟩

/-- A range is free. -/
def Free (rs : List Raw) (a n : Int) : Prop := ∀ r ∈ rs, a + n ≤ r.b.at_ ∨ r.b.at_ + r.b.size ≤ a
theorem free_pos {rs : List Raw} (h : Ord rs) {a n : Int} (hn : 1 ≤ n) {i : Nat} {f : Bool} (hp : Pos rs a i f) :
    Free rs a n ↔ (∀ (k : Nat) (hk : k < rs.length), k + 1 = i → rs[k].b.at_ + rs[k].b.size ≤ a) ∧ (∀ hk : i < rs.length, a + n ≤ rs[i].b.at_) := by
  constructor
  · intro hf
    refine ⟨fun k hk hki => ?_, fun hk => ?_⟩
    · rcases hf rs[k] (List.getElem_mem hk) with h1 | h1
      · have := hp.lo k hk (by omega); omega
      · exact h1
    · rcases hf rs[i] (List.getElem_mem hk) with h1 | h1
      · exact h1
      · have h2 := hp.hi i hk (Nat.le_refl _)
        have h3 := (h.fit rs[i] (List.getElem_mem hk)).2.1
        omega
  · rintro ⟨h1, h2⟩ r hr
    obtain ⟨k, hk, rfl⟩ := List.getElem_of_mem hr
    by_cases hki : k < i
    · right
      by_cases he : k + 1 = i
      · exact h1 k hk he
      · have hk2 : i - 1 < rs.length := by have := hp.le; omega
        have h3 := h1 (i - 1) hk2 (by omega)
        have h4 := h.next k (i - 1) hk hk2 (by omega)
        have h5 := (h.fit rs[i - 1] (List.getElem_mem hk2)).2.1
        omega
    · left
      have hi2 : i < rs.length := by omega
      have h3 := h2 hi2
      by_cases he : k = i
      · subst he; exact h3
      · have h4 := h.next i k hi2 hk (by omega)
        have h5 := (h.fit rs[i] (List.getElem_mem hi2)).2.1
        omega

set_option maxRecDepth 100000 in
set_option maxHeartbeats 2000000 in
theorem free_any (A : Option Addr) (n c g : Nat) (rs : List Raw) (a s : Int) (ha : 4096 ≤ a ∧ a ≤ 4294967296) (hs : 1 ≤ s ∧ s ≤ 1048576) (w : World) (hc : w.cell? ⟨g, 0, none⟩ = some (.slice A n c)) (h : Bls w A n c rs) (ho : Ord rs) (hn : n ≤ 1152921504606846976) :
    Calls Tryd.prog 43 #[.pointer (some ⟨g, 0, none⟩), .int .i64 a, .int .i64 s] w fun e w' => ∃ f : Bool, e = .returned (.bool f) ∧ (f = true ↔ Free rs a s) ∧ Below w.heap.size w w' := by
  have HPO := Lib.hid (position_any A n c g rs a w hc h ho.asc hn)
  have H := Lib.hid h
  have hl := h.len
  have HO := Lib.hid ho
  have e1 : wrap64 (a + s) = a + s := IntWalk.wrap64_in _ (by omega)
  clear h ho
  go_enter Tryd.func43, Tryd.ntmps43
  go_wp2_with fail
  refine HPO.out.mono ?_
  rintro e w1 ⟨i, f, rfl, hb, hp⟩
  have HF := Lib.hid (free_pos HO.out (n := s) (by omega) hp)
  have HB := Lib.hid hb
  have hile := hp.le
  have hc1 := cell_below hb hc
  clear hb hp HPO
  by_cases hi0 : i = 0
  · subst hi0
    have HF1 := Lib.hid (show Free rs a s ↔ ∀ hk : 0 < rs.length, a + s ≤ rs[0].b.at_ from ⟨fun h => (HF.out.1 h).2, fun h => HF.out.2 ⟨fun k hk h0 => by omega, h⟩⟩)
    clear HF
    by_cases hin : n = 0
    · have HF2 := Lib.hid (show Free rs a s from HF1.out.2 (fun hk => by omega))
      subst hin
      clear HF1
      go_wp2_with fail
      go_ret
      exact ⟨true, rfl, ⟨fun _ => HF2.out, fun _ => rfl⟩, HB.out⟩
    · have hir : 0 < rs.length := by omega
      obtain ⟨ad, rfl⟩ : ∃ ad, A = some ad := by
        cases A with
        | none => have := (H.out.nil rfl).1; omega
        | some ad => exact ⟨ad, rfl⟩
      obtain ⟨b, o, rfl⟩ := H.out.plain ad rfl
      obtain ⟨c0, _, _, _⟩ := (H.out.below HB.out).at_ b o 0 rfl hir
      have HF2 := Lib.hid (show Free rs a s ↔ a + s ≤ rs[0].b.at_ from ⟨fun h => HF1.out.1 h hir, fun h => HF1.out.2 (fun _ => h)⟩)
      generalize rs[0].b.at_ = a0 at *
      have hnz : ((0 : Int) == (n : Int)) = false := by rw [beq_eq_false_iff_ne]; omega
      clear HF1
      simp only [Nat.zero_mul, Nat.add_zero] at c0
      go_wp2_with fail
      go_ret
      exact ⟨decide (a + s ≤ a0), rfl, by rw [HF2.out]; exact decide_eq_true_iff, HB.out⟩
  · obtain ⟨m, rfl⟩ : ∃ m, i = m + 1 := ⟨i - 1, by omega⟩
    have hmr : m < rs.length := by omega
    have hmn : m < n := by omega
    obtain ⟨ad, rfl⟩ : ∃ ad, A = some ad := by
      cases A with
      | none => have := (H.out.nil rfl).1; omega
      | some ad => exact ⟨ad, rfl⟩
    obtain ⟨b, o, rfl⟩ := H.out.plain ad rfl
    obtain ⟨c0, c1, _, _⟩ := (H.out.below HB.out).at_ b o m rfl hmr
    have HF1 := Lib.hid (show Free rs a s ↔ rs[m].b.at_ + rs[m].b.size ≤ a ∧ ∀ hk : m + 1 < rs.length, a + s ≤ rs[m + 1].b.at_ from
      ⟨fun h => ⟨(HF.out.1 h).1 m hmr rfl, (HF.out.1 h).2⟩, fun h => HF.out.2 ⟨(fun k hk hkm => (by have e : k = m := (by omega); subst e; exact h.1)), h.2⟩⟩)
    obtain ⟨i1, i2, i3⟩ := HO.out.fit rs[m] (List.getElem_mem hmr)
    have HEN := Lib.hid (end_any b (o + m * 4) rs[m].b.at_ rs[m].b.size w1 c0 c1 ⟨by omega, by omega⟩)
    generalize rs[m].b.at_ = a0 at *
    generalize rs[m].b.size = s0 at *
    clear HF
    have hm1 : wrap64 ((m : Int) + 1 - 1) = (m : Int) := by rw [IntWalk.wrap64_in _ (by omega)]; omega
    by_cases hover : a0 + s0 ≤ a
    · by_cases hin : m + 1 = n
      · have HF2 := Lib.hid (show Free rs a s from HF1.out.2 ⟨hover, fun hk => by omega⟩)
        subst hin
        clear HF1
        go_wp2_with fail
        refine HEN.out.mono ?_
        rintro e w2 ⟨rfl, hb2⟩
        have HB2 := Lib.hid (HB.out.trans (hb2.mono HB.out.size))
        have hc2 := cell_below hb2 hc1
        clear hb2 HEN HB hc1
        go_wp2_with fail
        go_ret
        exact ⟨true, rfl, ⟨fun _ => HF2.out, fun _ => rfl⟩, HB2.out⟩
      · have hir : m + 1 < rs.length := by omega
        obtain ⟨d0, _, _, _⟩ := (H.out.below HB.out).at_ b o (m + 1) rfl hir
        have HF2 := Lib.hid (show Free rs a s ↔ a + s ≤ rs[m + 1].b.at_ from ⟨fun h => (HF1.out.1 h).2 hir, fun h => HF1.out.2 ⟨hover, fun _ => h⟩⟩)
        generalize rs[m + 1].b.at_ = a1 at *
        have hnz : ((m : Int) + 1 == (n : Int)) = false := by rw [beq_eq_false_iff_ne]; omega
        clear HF1
        go_wp2_with fail
        refine HEN.out.mono ?_
        rintro e w2 ⟨rfl, hb2⟩
        have HB2 := Lib.hid (HB.out.trans (hb2.mono HB.out.size))
        have hc2 := cell_below hb2 hc1
        have d2 := cell_below hb2 d0
        clear hb2 HEN HB hc1 d0
        go_wp2_with fail
        go_ret
        exact ⟨decide (a + s ≤ a1), rfl, by rw [HF2.out]; exact decide_eq_true_iff, HB2.out⟩
    · have HF2 := Lib.hid (show ¬ Free rs a s from fun h => absurd (HF1.out.1 h).1 hover)
      clear HF1
      go_wp2_with fail
      refine HEN.out.mono ?_
      rintro e w2 ⟨rfl, hb2⟩
      have HB2 := Lib.hid (HB.out.trans (hb2.mono HB.out.size))
      clear hb2 HEN HB
      go_wp2_with fail
      go_ret
      exact ⟨false, rfl, ⟨(fun h => by cases h), fun h => absurd h HF2.out⟩, HB2.out⟩
end Go.Proofs.YtfkhfjefddgkoaaDoor

namespace Go.Proofs.YtfkhfjefddgkoaaDoor
open Go.RowKit

/-- Behind a reach: the block that holds the range, one that lacks the permission, or none. -/
def Reached (w : World) (A : Option Addr) (rs : List Raw) (a s need : Int) (e : Ending) (w' : World) : Prop :=
  Below w.heap.size w w' ∧ ((∃ (k : Nat) (hk : k < rs.length) (b o : Nat), A = some ⟨b, o, none⟩ ∧ rs[k].b.at_ ≤ a ∧ a + s ≤ rs[k].b.at_ + rs[k].b.size ∧ bits .and .i64 rs[k].b.perm need = need ∧ e = .returned (.tuple #[.pointer (some ⟨b, o + k * 4, none⟩), .int .i64 0])) ∨
    (∃ (k : Nat) (hk : k < rs.length), rs[k].b.at_ ≤ a ∧ a + s ≤ rs[k].b.at_ + rs[k].b.size ∧ bits .and .i64 rs[k].b.perm need ≠ need ∧ e = .returned (.tuple #[.pointer none, .int .i64 52])) ∨
    ((∀ (k : Nat) (hk : k < rs.length), ¬ (rs[k].b.at_ ≤ a ∧ a + s ≤ rs[k].b.at_ + rs[k].b.size)) ∧ e = .returned (.tuple #[.pointer none, .int .i64 50])))
/-- The one block that may hold a range: the last one that begins at or ahead of it. -/
theorem only_one {rs : List Raw} (h : Ord rs) {a s : Int} (hs : 1 ≤ s) {i m : Nat} {f : Bool} (hp : Pos rs a i f) (hm : if f = true then m = i else m + 1 = i) (hmr : m < rs.length) :
    rs[m].b.at_ ≤ a ∧ ∀ (k : Nat) (hk : k < rs.length), rs[k].b.at_ ≤ a ∧ a + s ≤ rs[k].b.at_ + rs[k].b.size → k = m := by
  have hma : rs[m].b.at_ ≤ a := by
    cases f with
    | true =>
      rw [if_pos rfl] at hm
      subst hm
      obtain ⟨_, h1⟩ := hp.hit.1 rfl
      omega
    | false =>
      rw [if_neg (by decide)] at hm
      have := hp.lo m hmr (by omega)
      omega
  refine ⟨hma, fun k hk ⟨h1, h2⟩ => ?_⟩
  by_cases hkm : k < m
  · have h3 := h.next k m hk hmr hkm
    omega
  · by_cases hmk : m < k
    · have h3 := h.next m k hmr hk hmk
      have h4 := (h.fit rs[m] (List.getElem_mem hmr)).2.1
      have h5 : i ≤ k := by
        cases f with
        | true => rw [if_pos rfl] at hm; omega
        | false => rw [if_neg (by decide)] at hm; omega
      have h6 := hp.hi k hk h5
      cases f with
      | true =>
        rw [if_pos rfl] at hm
        subst hm
        obtain ⟨_, h7⟩ := hp.hit.1 rfl
        omega
      | false =>
        have h8 : rs[k].b.at_ = a := by omega
        by_cases h9 : i = k
        · subst h9
          have := hp.hit.2 ⟨hk, h8⟩
          cases this
        · rw [if_neg (by decide)] at hm
          have hir : i < rs.length := by omega
          have h10 := h.next i k hir hk (by omega)
          have h11 := hp.hi i hir (Nat.le_refl _)
          have h12 := (h.fit rs[i] (List.getElem_mem hir)).2.1
          omega
    · omega

set_option maxRecDepth 100000 in
set_option maxHeartbeats 4000000 in
theorem reach_any (A : Option Addr) (n c g : Nat) (rs : List Raw) (a s need : Int) (ha : I64 a) (hs : 1 ≤ s ∧ s ≤ 1048576) (w : World) (hc : w.cell? ⟨g, 0, none⟩ = some (.slice A n c)) (h : Bls w A n c rs) (ho : Ord rs) (hn : n ≤ 1152921504606846976) :
    Calls Tryd.prog 75 #[.pointer (some ⟨g, 0, none⟩), .int .i64 a, .int .i64 s, .int .i64 need] w (Reached w A rs a s need) := by
  have HPO := Lib.hid (position_any A n c g rs a w hc h ho.asc hn)
  have H := Lib.hid h
  have hl := h.len
  have HO := Lib.hid ho
  generalize hL : Reached w A rs a s need = L
  have HL := Lib.hid hL
  clear h ho hL
  go_enter Tryd.func75, Tryd.ntmps75
  go_wp2_with fail
  refine HPO.out.mono ?_
  rintro e w1 ⟨i, f, rfl, hb, hp⟩
  have HB := Lib.hid hb
  have hile := hp.le
  have hc1 := cell_below hb hc
  clear hb HPO
  by_cases hnone : f = false ∧ i = 0
  · obtain ⟨rfl, rfl⟩ := hnone
    have HNO := Lib.hid (show ∀ (k : Nat) (hk : k < rs.length), ¬ (rs[k].b.at_ ≤ a ∧ a + s ≤ rs[k].b.at_ + rs[k].b.size) from fun k hk ⟨h1, h2⟩ => by
      have h3 := hp.hi k hk (Nat.zero_le _)
      have h4 : rs[k].b.at_ = a := by omega
      have h0 : 0 < rs.length := by omega
      have h5 := hp.hi 0 h0 (Nat.le_refl _)
      have h6 : rs[0].b.at_ ≠ a := fun e => by have := hp.hit.2 ⟨h0, e⟩; cases this
      by_cases hk0 : k = 0
      · subst hk0; exact h6 h4
      · have h7 := HO.out.asc 0 k h0 hk (by omega); omega)
    clear hp
    go_wp2_with fail
    rw [← HL.out]
    exact ⟨HB.out, .inr (.inr ⟨HNO.out, rfl⟩)⟩
  · obtain ⟨m, hm⟩ : ∃ m : Nat, if f = true then m = i else m + 1 = i := by
      cases f with
      | true => exact ⟨i, by simp⟩
      | false => exact ⟨i - 1, by simp at hnone ⊢; omega⟩
    have hmr : m < rs.length := by
      cases f with
      | true => obtain ⟨h1, _⟩ := hp.hit.1 rfl; simp at hm; omega
      | false => simp at hm; omega
    have hmn : m < n := by omega
    obtain ⟨ad, rfl⟩ : ∃ ad, A = some ad := by
      cases A with
      | none => have := (H.out.nil rfl).1; omega
      | some ad => exact ⟨ad, rfl⟩
    obtain ⟨b, o, rfl⟩ := H.out.plain ad rfl
    obtain ⟨c0, c1, c2, _⟩ := (H.out.below HB.out).at_ b o m rfl hmr
    obtain ⟨hma, honly⟩ := only_one HO.out hs.1 hp hm hmr
    obtain ⟨i1, i2, i3⟩ := HO.out.fit rs[m] (List.getElem_mem hmr)
    have HNO := Lib.hid (show ¬ (a + s ≤ rs[m].b.at_ + rs[m].b.size) → ∀ (k : Nat) (hk : k < rs.length), ¬ (rs[k].b.at_ ≤ a ∧ a + s ≤ rs[k].b.at_ + rs[k].b.size) from fun h0 k hk h1 => by
      have e := honly k hk h1
      subst e
      exact h0 h1.2)
    have HYE := Lib.hid (show ∀ e w', Below w.heap.size w w' → a + s ≤ rs[m].b.at_ + rs[m].b.size → ((bits .and .i64 rs[m].b.perm need = need ∧ e = .returned (.tuple #[.pointer (some ⟨b, o + m * 4, none⟩), .int .i64 0])) ∨ (bits .and .i64 rs[m].b.perm need ≠ need ∧ e = .returned (.tuple #[.pointer none, .int .i64 52]))) → Reached w (some ⟨b, o, none⟩) rs a s need e w' from fun e w' hbw hfit hor => by
      rcases hor with ⟨h1, h2⟩ | ⟨h1, h2⟩
      · exact ⟨hbw, .inl ⟨m, hmr, b, o, rfl, hma, hfit, h1, h2⟩⟩
      · exact ⟨hbw, .inr (.inl ⟨m, hmr, hma, hfit, h1, h2⟩)⟩)
    have HEN := Lib.hid (end_any b (o + m * 4) rs[m].b.at_ rs[m].b.size w1 c0 c1 ⟨by omega, by omega⟩)
    generalize rs[m].b.at_ = a0 at *
    generalize rs[m].b.size = s0 at *
    generalize rs[m].b.perm = p0 at *
    have e1 : wrap64 (a0 + s0 - a) = a0 + s0 - a := IntWalk.wrap64_in _ (by have := ha.1; have := ha.2; omega)
    have hm1 : ¬ ((m : Int) < 0) := by omega
    clear honly hp
    cases f with
    | true =>
      simp only [if_true] at hm
      subst hm
      by_cases hfit : a + s ≤ a0 + s0
      · have hcmp : ¬ (a0 + s0 - a < s) := by omega
        by_cases hand : bits .and .i64 p0 need = need
        · have hbn : (bits .and .i64 p0 need != need) = false := by rw [hand]; simp
          have HND := Lib.hid hand
          clear HNO hand
          go_wp2_with fail
          refine HEN.out.mono ?_
          rintro e w2 ⟨rfl, hb2⟩
          have HB2 := Lib.hid (HB.out.trans (hb2.mono HB.out.size))
          have hc2 := cell_below hb2 hc1
          have k2 := cell_below hb2 c2
          clear hb2 HEN HB hc1 c0 c1 c2
          go_wp2_with fail
          first | go_ret2 | skip
          rw [← HL.out]
          exact HYE.out _ _ HB2.out hfit (.inl ⟨HND.out, rfl⟩)
        · have hbn : (bits .and .i64 p0 need != need) = true := by simpa using hand
          have HND := Lib.hid hand
          clear HNO hand
          go_wp2_with fail
          refine HEN.out.mono ?_
          rintro e w2 ⟨rfl, hb2⟩
          have HB2 := Lib.hid (HB.out.trans (hb2.mono HB.out.size))
          have hc2 := cell_below hb2 hc1
          have k2 := cell_below hb2 c2
          clear hb2 HEN HB hc1 c0 c1 c2
          go_wp2_with fail
          first | go_ret2 | skip
          rw [← HL.out]
          exact HYE.out _ _ HB2.out hfit (.inr ⟨HND.out, rfl⟩)
      · have hcmp : a0 + s0 - a < s := by omega
        have HN2 := Lib.hid (HNO.out hfit)
        clear HNO HYE
        go_wp2_with fail
        refine HEN.out.mono ?_
        rintro e w2 ⟨rfl, hb2⟩
        have HB2 := Lib.hid (HB.out.trans (hb2.mono HB.out.size))
        clear hb2 HEN HB hc1 c0 c1 c2
        go_wp2_with fail
        first | go_ret2 | skip
        rw [← HL.out]
        exact ⟨HB2.out, .inr (.inr ⟨HN2.out, rfl⟩)⟩
    | false =>
      simp only [Bool.false_eq_true, if_false] at hm
      subst hm
      have hmw : wrap64 ((m : Int) + 1 - 1) = (m : Int) := by rw [IntWalk.wrap64_in _ (by omega)]; omega
      by_cases hfit : a + s ≤ a0 + s0
      · have hcmp : ¬ (a0 + s0 - a < s) := by omega
        by_cases hand : bits .and .i64 p0 need = need
        · have hbn : (bits .and .i64 p0 need != need) = false := by rw [hand]; simp
          have HND := Lib.hid hand
          clear HNO hand
          go_wp2_with fail
          refine HEN.out.mono ?_
          rintro e w2 ⟨rfl, hb2⟩
          have HB2 := Lib.hid (HB.out.trans (hb2.mono HB.out.size))
          have hc2 := cell_below hb2 hc1
          have k2 := cell_below hb2 c2
          clear hb2 HEN HB hc1 c0 c1 c2
          go_wp2_with fail
          first | go_ret2 | skip
          rw [← HL.out]
          exact HYE.out _ _ HB2.out hfit (.inl ⟨HND.out, rfl⟩)
        · have hbn : (bits .and .i64 p0 need != need) = true := by simpa using hand
          have HND := Lib.hid hand
          clear HNO hand
          go_wp2_with fail
          refine HEN.out.mono ?_
          rintro e w2 ⟨rfl, hb2⟩
          have HB2 := Lib.hid (HB.out.trans (hb2.mono HB.out.size))
          have hc2 := cell_below hb2 hc1
          have k2 := cell_below hb2 c2
          clear hb2 HEN HB hc1 c0 c1 c2
          go_wp2_with fail
          first | go_ret2 | skip
          rw [← HL.out]
          exact HYE.out _ _ HB2.out hfit (.inr ⟨HND.out, rfl⟩)
      · have hcmp : a0 + s0 - a < s := by omega
        have HN2 := Lib.hid (HNO.out hfit)
        clear HNO HYE
        go_wp2_with fail
        refine HEN.out.mono ?_
        rintro e w2 ⟨rfl, hb2⟩
        have HB2 := Lib.hid (HB.out.trans (hb2.mono HB.out.size))
        clear hb2 HEN HB hc1 c0 c1 c2
        go_wp2_with fail
        first | go_ret2 | skip
        rw [← HL.out]
        exact ⟨HB2.out, .inr (.inr ⟨HN2.out, rfl⟩)⟩
end Go.Proofs.YtfkhfjefddgkoaaDoor
