/-
  Free places; where a path's way ends, and what is there.
-/
import Derived.Test.YtmabhciijdceoaaDoorF
namespace Go.Proofs.YtmabhciijdceoaaDoor
open Go.RowKit Go.Maps

/-- A thing in a box of its own. -/
def Tb (w : World) (g : Nat) (t : Th) : Prop := w.heap[g]? = some (.cells #[.int .i64 t.kind, .int .i64 t.id, str t.text] 59 (0, 0))
section
variable {w w' : World} {g : Nat} {t : Th}
theorem Tb.new (w : World) (k i : Int) (x : Str) : Tb (w.alloc (.cells #[.int .i64 k, .int .i64 i, str x] 59)) w.heap.size ⟨k, i, x⟩ := heap_alloc_new _ _
theorem Tb.c0 (h : Tb w g t) : w.cell? ⟨g, 0, none⟩ = some (.int .i64 t.kind) := cell_of_row w g 0 _ _ _ h
theorem Tb.c1 (h : Tb w g t) : w.cell? ⟨g, 1, none⟩ = some (.int .i64 t.id) := cell_of_row w g 1 _ _ _ h
theorem Tb.c2 (h : Tb w g t) : w.cell? ⟨g, 2, none⟩ = some (str t.text) := cell_of_row w g 2 _ _ _ h
theorem Tb.f (h : Tb w g t) (j : Nat) : w.frozen? ⟨g, j, none⟩ = false := frozen_of_row w g j _ _ h
theorem Tb.lt (h : Tb w g t) : g < w.heap.size := (Array.getElem?_eq_some_iff.1 h).1
theorem Tb.below (h : Tb w g t) (hb : Below w.heap.size w w') : Tb w' g t := (hb.block g h.lt).trans h
theorem Tb.over (h : Tb w g t) (k i : Int) (x : Str) : Tb (((w.setCell ⟨g, 0, none⟩ (.int .i64 k)).setCell ⟨g, 1, none⟩ (.int .i64 i)).setCell ⟨g, 2, none⟩ (str x)) g ⟨k, i, x⟩ := by
  have h1 := heap_setCell_same w g 0 _ _ (.int .i64 k) h
  have h2 := heap_setCell_same _ g 1 _ _ (.int .i64 i) h1
  exact heap_setCell_same _ g 2 _ _ (str x) h2
end

theorem over_below {B : Nat} {w w1 : World} (hb : Below B w w1) {g : Nat} (hg : B ≤ g) (k i : Int) (x : Str) : Below B w (((w1.setCell ⟨g, 0, none⟩ (.int .i64 k)).setCell ⟨g, 1, none⟩ (.int .i64 i)).setCell ⟨g, 2, none⟩ (str x)) :=
  ((hb.setCell (p := ⟨g, 0, none⟩) hg _).setCell (p := ⟨g, 1, none⟩) hg _).setCell (p := ⟨g, 2, none⟩) hg _
theorem place_facts (D : Dt) (path : Str) : (placeOf D path).1.length ≤ 120000 ∧ ((placeOf D path).2 ≠ 0 → (placeOf D path).1 = []) := by
  unfold placeOf
  split
  · simp
  · rename_i ps hpo
    have hok := absParts_ok hpo
    split
    · simp
    · rename_i z hz
      have hzm := List.mem_of_getLast? hz
      have hz64 := (hok.2.2 z hzm).1
      have hwl := way_len D ps.dropLast (by simp; omega) (fun p hp => (hok.2.2 p (List.dropLast_subset _ hp)).1)
      unfold placeIn
      split
      · simp
      · split
        · simp
        · split
          · simp
          · have := below_len (way D ps.dropLast).1 z
            simp
            omega

def freeOf (D : Dt) (path : Str) : Str × Int :=
  if (placeOf D path).2 ≠ 0 then ([], (placeOf D path).2)
  else if (getD D (placeOf D path).1).kind ≠ 0 then ([], 32)
  else ((placeOf D path).1, 0)
set_option maxRecDepth 100000 in
theorem freePlaceOf_any (sb mb : Nat) (s : St) (path : Str) (w : World) (h : Sto w sb mb s) (hl : path.length ≤ 9223372036854775807) :
    Calls Tryd.prog 39 #[.pointer (some ⟨sb, 0, none⟩), str path] w (Looks w (.tuple #[str (freeOf s.d path).1, .int .i64 (freeOf s.d path).2])) := by
  have HC := Lib.hid (placeOf_any sb mb s path w h hl)
  have HS := Lib.hid h
  have hf := place_facts s.d path
  have hu : freeOf s.d path = if (placeOf s.d path).2 ≠ 0 then ([], (placeOf s.d path).2) else if (getD s.d (placeOf s.d path).1).kind ≠ 0 then ([], 32) else ((placeOf s.d path).1, 0) := rfl
  generalize freeOf s.d path = u at *
  generalize placeOf s.d path = r at *
  obtain ⟨p, e0⟩ := r
  simp only at *
  by_cases he : e0 = 0
  · rw [if_neg (by simpa using he)] at hu
    by_cases hk : (getD s.d p).kind = 0
    all_goals
      first
        | rw [if_neg (by simpa using hk)] at hu
        | rw [if_pos hk] at hu
      subst hu
      subst he
      have HF := Lib.hid hf.1
      clear h hf
      go_enter Tryd.func39, Tryd.ntmps39
      go_wp2_with fail
      refine HC.out.mono ?_
      rintro e w1 ⟨rfl, hb⟩
      have hS := HS.out.below hb
      have hlk := (hS.look p (by have := HF.out; omega)).1
      have hc0 := hS.c0
      have HB := Lib.hid hb
      have hfd := field_kind w1
      generalize getD s.d p = t at *
      obtain ⟨kd, ti, tx⟩ := t
      simp only at hk
      unfold thv at hlk
      clear hb hS HC
      go_wp2
      go_ret2
      exact ⟨rfl, HB.out⟩
  · rw [if_pos he] at hu
    subst hu
    clear h hf
    go_enter Tryd.func39, Tryd.ntmps39
    go_wp2_with fail
    refine HC.out.mono ?_
    rintro e w1 ⟨rfl, hb⟩
    have HB := Lib.hid hb
    clear hb HC
    go_wp2
    go_ret2
    exact ⟨rfl, HB.out⟩

/-- Where a path's way ends, and what is there. -/
def endOf (D : Dt) (path : Str) : Str × Th × Int := match absParts path with
  | none => ([], Th.no, 30)
  | some ps => if (way D ps).2 ≠ 0 then ([], Th.no, (way D ps).2) else ((way D ps).1, getD D (way D ps).1, 0)

set_option maxRecDepth 100000 in
theorem end_any (sb mb : Nat) (s : St) (path : Str) (w : World) (h : Sto w sb mb s) (hl : path.length ≤ 9223372036854775807) :
    Calls Tryd.prog 45 #[.pointer (some ⟨sb, 0, none⟩), str path] w (Looks w (.tuple #[str (endOf s.d path).1, thv (endOf s.d path).2.1, .int .i64 (endOf s.d path).2.2])) := by
  have hbx := (Below.refl w.heap.size w).alloc (Nat.le_refl _) (.cells #[.int .i64 0, .int .i64 0, str []] 59)
  have HBX := Lib.hid hbx
  have HS := Lib.hid (h.below hbx)
  have HTB := Lib.hid (Tb.new w 0 0 [])
  have HP := Lib.hid (absParts_any path (w.alloc (.cells #[.int .i64 0, .int .i64 0, str []] 59)) hl (h.ml.below hbx h.ml.pos))
  have hpl : endOf s.d path = match absParts path with
    | none => ([], Th.no, 30)
    | some ps => if (way s.d ps).2 ≠ 0 then ([], Th.no, (way s.d ps).2) else ((way s.d ps).1, getD s.d (way s.d ps).1, 0) := rfl
  generalize endOf s.d path = u at *
  clear hbx h
  cases hpo : absParts path with
  | none =>
    rw [hpo] at hpl HP
    subst hpl
    clear hpo
    go_enter Tryd.func45, Tryd.ntmps45
    go_wp2_with fail
    generalize w.alloc (.cells #[.int .i64 0, .int .i64 0, str []] 59) = wz at *
    refine HP.out.mono ?_
    rintro e w1 ⟨hb, rfl⟩
    have HT1 := Lib.hid (HTB.out.below hb)
    have HB := Lib.hid (HBX.out.trans (hb.mono (HBX.out.size)))
    clear hb HP HTB HS HBX
    have f0 := HT1.out.f 0
    have f1 := HT1.out.f 1
    have f2 := HT1.out.f 2
    have c0 := HT1.out.c0
    have c1 := HT1.out.c1
    have c2 := HT1.out.c2
    go_wp2
    have hq := HT1.out.over 0 0 []
    have hbw := over_below HB.out (Nat.le_refl _) 0 0 []
    change bodyPost _ _ _ _ _ (((w1.setCell ⟨w.heap.size, 0, none⟩ (.int .i64 0)).setCell ⟨w.heap.size, 1, none⟩ (.int .i64 0)).setCell ⟨w.heap.size, 2, none⟩ (str []))
    generalize ((w1.setCell ⟨w.heap.size, 0, none⟩ (.int .i64 0)).setCell ⟨w.heap.size, 1, none⟩ (.int .i64 0)).setCell ⟨w.heap.size, 2, none⟩ (str []) = w3 at hq hbw ⊢
    have q0 := hq.c0
    have q1 := hq.c1
    have q2 := hq.c2
    exact bodyPost_ret (v := .tuple #[str [], thv Th.no, .int .i64 30]) (by simp [results, Tryd.results45, go_sem, thv, Th.no, q0, q1, q2]) rfl ⟨rfl, hbw⟩
  | some ps =>
    rw [hpo] at hpl HP
    have hok := absParts_ok hpo
    have hp64 : ∀ p ∈ ps, p.length ≤ 64 := fun p hp => (hok.2.2 p hp).1
    have hwl := way_len s.d ps hok.2.1 hp64
    have HQ := Lib.hid hok
    have HP64 := Lib.hid hp64
    replace hpl : u = if (way s.d ps).2 ≠ 0 then ([], Th.no, (way s.d ps).2) else ((way s.d ps).1, getD s.d (way s.d ps).1, 0) := hpl
    have HPL := Lib.hid hpl
    have HWL := Lib.hid hwl
    clear hpo hok hp64 hpl hwl
    go_enter Tryd.func45, Tryd.ntmps45
    go_wp2_with fail
    generalize w.alloc (.cells #[.int .i64 0, .int .i64 0, str []] 59) = wz at *
    refine HP.out.mono ?_
    rintro e w1 ⟨hb, A, c, rfl, ho⟩
    have HC := Lib.hid (way_any sb mb s A c ps w1 (HS.out.below hb) (Txt.of_own ho) HQ.out.2.1 HP64.out)
    have HT1 := Lib.hid (HTB.out.below hb)
    have HB := Lib.hid (HBX.out.trans (hb.mono (HBX.out.size)))
    have HS1 := Lib.hid (HS.out.below hb)
    generalize way s.d ps = r at *
    obtain ⟨a, e0⟩ := r
    simp only at *
    clear hb ho HP HTB HS HBX
    go_wp2_with fail
    refine HC.out.mono ?_
    rintro e w2 ⟨rfl, hb2⟩
    have HT2 := Lib.hid (HT1.out.below hb2)
    have HB2 := Lib.hid (HB.out.trans (hb2.mono (HB.out.size)))
    have HS2 := Lib.hid (HS1.out.below hb2)
    clear hb2 HC HB HT1 HS1
    have f0 := HT2.out.f 0
    have f1 := HT2.out.f 1
    have f2 := HT2.out.f 2
    by_cases he : e0 = 0
    · have hpl := HPL.out
      rw [if_neg (by simpa using he)] at hpl
      subst hpl
      subst he
      have hlk := (HS2.out.look a (by have := HWL.out.1; omega)).1
      have hc0 := HS2.out.c0
      have hlk1 := (HS2.out.below (drew_below w2)).look a (by have := HWL.out.1; omega)
      have hlk2 := fun n => (HS2.out.below (drewN_below w2 n)).look a (by have := HWL.out.1; omega)
      generalize getD s.d a = t at *
      obtain ⟨kd, ti, tx⟩ := t
      unfold thv at hlk hlk1 hlk2
      replace hlk1 := hlk1.1
      replace hlk2 := fun n => (hlk2 n).1
      have c0 := HT2.out.c0
      have c1 := HT2.out.c1
      have c2 := HT2.out.c2
      go_wp2
      go_region
      go_wp2
      have hq := HT2.out.over kd ti tx
      have hbw := over_below HB2.out (Nat.le_refl _) kd ti tx
      replace hq : Tb (((w2.setCell ⟨w.heap.size, 0, none⟩ (.int .i64 kd)).setCell ⟨w.heap.size, 1, none⟩ (.int .i64 ti)).setCell ⟨w.heap.size, 2, none⟩ (str tx)).drew w.heap.size ⟨kd, ti, tx⟩ := hq
      replace hbw := below_drewN hbw 1
      change Below _ _ (((w2.setCell ⟨w.heap.size, 0, none⟩ (.int .i64 kd)).setCell ⟨w.heap.size, 1, none⟩ (.int .i64 ti)).setCell ⟨w.heap.size, 2, none⟩ (str tx)).drew at hbw
      change bodyPost _ _ _ _ _ (((w2.setCell ⟨w.heap.size, 0, none⟩ (.int .i64 kd)).setCell ⟨w.heap.size, 1, none⟩ (.int .i64 ti)).setCell ⟨w.heap.size, 2, none⟩ (str tx)).drew
      generalize (((w2.setCell ⟨w.heap.size, 0, none⟩ (.int .i64 kd)).setCell ⟨w.heap.size, 1, none⟩ (.int .i64 ti)).setCell ⟨w.heap.size, 2, none⟩ (str tx)).drew = w3 at hq hbw ⊢
      have q0 := hq.c0
      have q1 := hq.c1
      have q2 := hq.c2
      exact bodyPost_ret (v := .tuple #[str a, thv ⟨kd, ti, tx⟩, .int .i64 0]) (by simp [results, Tryd.results45, go_sem, thv, q0, q1, q2]) rfl ⟨rfl, hbw⟩
    · have hpl := HPL.out
      rw [if_pos he] at hpl
      subst hpl
      have he' : (e0 == 0) = false := by simpa using he
      have c0 := HT2.out.c0
      have c1 := HT2.out.c1
      have c2 := HT2.out.c2
      go_wp2
      have hq := HT2.out.over 0 0 []
      have hbw := over_below HB2.out (Nat.le_refl _) 0 0 []
      change bodyPost _ _ _ _ _ (((w2.setCell ⟨w.heap.size, 0, none⟩ (.int .i64 0)).setCell ⟨w.heap.size, 1, none⟩ (.int .i64 0)).setCell ⟨w.heap.size, 2, none⟩ (str []))
      generalize ((w2.setCell ⟨w.heap.size, 0, none⟩ (.int .i64 0)).setCell ⟨w.heap.size, 1, none⟩ (.int .i64 0)).setCell ⟨w.heap.size, 2, none⟩ (str []) = w3 at hq hbw ⊢
      have q0 := hq.c0
      have q1 := hq.c1
      have q2 := hq.c2
      exact bodyPost_ret (v := .tuple #[str [], thv Th.no, .int .i64 e0]) (by simp [results, Tryd.results45, go_sem, thv, Th.no, q0, q1, q2]) rfl ⟨rfl, hbw⟩

theorem end_facts (D : Dt) (path : Str) : (endOf D path).1.length ≤ 120000 ∧ ((endOf D path).2.2 ≠ 0 → (endOf D path).1 = [] ∧ (endOf D path).2.1 = Th.no) := by
  unfold endOf
  split
  · simp
  · rename_i ps hpo
    have hok := absParts_ok hpo
    have hwl := way_len D ps hok.2.1 (fun p hp => (hok.2.2 p hp).1)
    split
    · simp
    · simp; omega
/-- The file at which a path's way ends. -/
def fileOf (D : Dt) (path : Str) : Th × Int :=
  if (endOf D path).2.2 ≠ 0 then (Th.no, (endOf D path).2.2)
  else if (endOf D path).2.1.kind = 2 then (Th.no, 33)
  else ((endOf D path).2.1, 0)
/-- A box is set to another thing. -/
def boxed (w : World) (g : Nat) (t : Th) : World := ((w.setCell ⟨g, 0, none⟩ (.int .i64 t.kind)).setCell ⟨g, 1, none⟩ (.int .i64 t.id)).setCell ⟨g, 2, none⟩ (str t.text)

set_option maxRecDepth 100000 in
theorem fileAt_any (sb mb : Nat) (s : St) (path : Str) (w : World) (h : Sto w sb mb s) (hl : path.length ≤ 9223372036854775807) :
    Calls Tryd.prog 36 #[.pointer (some ⟨sb, 0, none⟩), str path] w (Looks w (.tuple #[thv (fileOf s.d path).1, .int .i64 (fileOf s.d path).2])) := by
  have hbx := (Below.refl w.heap.size w).alloc (Nat.le_refl _) (.cells #[.int .i64 0, .int .i64 0, str []] 59)
  have HBX := Lib.hid hbx
  have HC := Lib.hid (end_any sb mb s path _ (h.below hbx) hl)
  have HTB := Lib.hid (Tb.new w 0 0 [])
  have hf := end_facts s.d path
  have hu : fileOf s.d path = if (endOf s.d path).2.2 ≠ 0 then (Th.no, (endOf s.d path).2.2) else if (endOf s.d path).2.1.kind = 2 then (Th.no, 33) else ((endOf s.d path).2.1, 0) := rfl
  generalize fileOf s.d path = u at *
  generalize endOf s.d path = r at *
  obtain ⟨a, ⟨kd, ti, tx⟩, e0⟩ := r
  simp only at *
  have HF := Lib.hid hf
  clear h hbx hf
  by_cases he : e0 = 0
  · rw [if_neg (by simpa using he)] at hu
    subst he
    by_cases hk : kd = 2
    · rw [if_pos hk] at hu
      subst hu
      subst hk
      go_enter Tryd.func36, Tryd.ntmps36
      go_wp2_with fail
      generalize w.alloc (.cells #[.int .i64 0, .int .i64 0, str []] 59) = wz at *
      unfold thv at HC
      refine HC.out.mono ?_
      rintro e w1 ⟨rfl, hb⟩
      have HT1 := Lib.hid ((HTB.out.below hb).below ((Below.refl _ _).alloc (Nat.le_refl _) (.cells #[.int .i64 2, .int .i64 ti, str tx] 59)))
      have HB := Lib.hid ((HBX.out.trans (hb.mono (HBX.out.size))).alloc (by have := HBX.out.size; have := hb.size; omega) (.cells #[.int .i64 2, .int .i64 ti, str tx] 59))
      have HTN := Lib.hid (Tb.new w1 2 ti tx)
      have f0 := HT1.out.f 0
      have f1 := HT1.out.f 1
      have f2 := HT1.out.f 2
      have c0 := HT1.out.c0
      have c1 := HT1.out.c1
      have c2 := HT1.out.c2
      clear hb HC HTB HBX
      go_wp2
      have hq := HT1.out.over 0 0 []
      have hbw := over_below HB.out (Nat.le_refl _) 0 0 []
      change bodyPost _ _ _ _ _ (boxed (w1.alloc (.cells #[.int .i64 2, .int .i64 ti, str tx] 59)) w.heap.size Th.no)
      change Tb (boxed (w1.alloc (.cells #[.int .i64 2, .int .i64 ti, str tx] 59)) w.heap.size Th.no) _ _ at hq
      change Below _ _ (boxed (w1.alloc (.cells #[.int .i64 2, .int .i64 ti, str tx] 59)) w.heap.size Th.no) at hbw
      generalize boxed (w1.alloc (.cells #[.int .i64 2, .int .i64 ti, str tx] 59)) w.heap.size Th.no = w3 at hq hbw ⊢
      have q0 := hq.c0
      have q1 := hq.c1
      have q2 := hq.c2
      exact bodyPost_ret (v := .tuple #[thv Th.no, .int .i64 33]) (by simp [results, Tryd.results36, go_sem, thv, Th.no, q0, q1, q2]) rfl ⟨rfl, hbw⟩
    · rw [if_neg hk] at hu
      subst hu
      go_enter Tryd.func36, Tryd.ntmps36
      go_wp2_with fail
      generalize w.alloc (.cells #[.int .i64 0, .int .i64 0, str []] 59) = wz at *
      unfold thv at HC
      refine HC.out.mono ?_
      rintro e w1 ⟨rfl, hb⟩
      have HT1 := Lib.hid ((HTB.out.below hb).below ((Below.refl _ _).alloc (Nat.le_refl _) (.cells #[.int .i64 kd, .int .i64 ti, str tx] 59)))
      have HB := Lib.hid ((HBX.out.trans (hb.mono (HBX.out.size))).alloc (by have := HBX.out.size; have := hb.size; omega) (.cells #[.int .i64 kd, .int .i64 ti, str tx] 59))
      have HTN := Lib.hid (Tb.new w1 kd ti tx)
      have f0 := HT1.out.f 0
      have f1 := HT1.out.f 1
      have f2 := HT1.out.f 2
      have c0 := HT1.out.c0
      have c1 := HT1.out.c1
      have c2 := HT1.out.c2
      clear hb HC HTB HBX
      go_wp2
      have hq := HT1.out.over kd ti tx
      have hbw := over_below HB.out (Nat.le_refl _) kd ti tx
      change bodyPost _ _ _ _ _ (boxed (w1.alloc (.cells #[.int .i64 kd, .int .i64 ti, str tx] 59)) w.heap.size ⟨kd, ti, tx⟩)
      change Tb (boxed (w1.alloc (.cells #[.int .i64 kd, .int .i64 ti, str tx] 59)) w.heap.size ⟨kd, ti, tx⟩) _ _ at hq
      change Below _ _ (boxed (w1.alloc (.cells #[.int .i64 kd, .int .i64 ti, str tx] 59)) w.heap.size ⟨kd, ti, tx⟩) at hbw
      generalize boxed (w1.alloc (.cells #[.int .i64 kd, .int .i64 ti, str tx] 59)) w.heap.size ⟨kd, ti, tx⟩ = w3 at hq hbw ⊢
      have q0 := hq.c0
      have q1 := hq.c1
      have q2 := hq.c2
      exact bodyPost_ret (v := .tuple #[thv ⟨kd, ti, tx⟩, .int .i64 0]) (by simp [results, Tryd.results36, go_sem, thv, q0, q1, q2]) rfl ⟨rfl, hbw⟩
  · rw [if_pos he] at hu
    subst hu
    have he' : (e0 == 0) = false := by simpa using he
    go_enter Tryd.func36, Tryd.ntmps36
    go_wp2_with fail
    generalize w.alloc (.cells #[.int .i64 0, .int .i64 0, str []] 59) = wz at *
    unfold thv at HC
    refine HC.out.mono ?_
    rintro e w1 ⟨rfl, hb⟩
    have HT1 := Lib.hid ((HTB.out.below hb).below ((Below.refl _ _).alloc (Nat.le_refl _) (.cells #[.int .i64 kd, .int .i64 ti, str tx] 59)))
    have HB := Lib.hid ((HBX.out.trans (hb.mono (HBX.out.size))).alloc (by have := HBX.out.size; have := hb.size; omega) (.cells #[.int .i64 kd, .int .i64 ti, str tx] 59))
    have HTN := Lib.hid (Tb.new w1 kd ti tx)
    have f0 := HT1.out.f 0
    have f1 := HT1.out.f 1
    have f2 := HT1.out.f 2
    have c0 := HT1.out.c0
    have c1 := HT1.out.c1
    have c2 := HT1.out.c2
    clear hb HC HTB HBX
    go_wp2
    have hq := HT1.out.over 0 0 []
    have hbw := over_below HB.out (Nat.le_refl _) 0 0 []
    change bodyPost _ _ _ _ _ (boxed (w1.alloc (.cells #[.int .i64 kd, .int .i64 ti, str tx] 59)) w.heap.size Th.no)
    change Tb (boxed (w1.alloc (.cells #[.int .i64 kd, .int .i64 ti, str tx] 59)) w.heap.size Th.no) _ _ at hq
    change Below _ _ (boxed (w1.alloc (.cells #[.int .i64 kd, .int .i64 ti, str tx] 59)) w.heap.size Th.no) at hbw
    generalize boxed (w1.alloc (.cells #[.int .i64 kd, .int .i64 ti, str tx] 59)) w.heap.size Th.no = w3 at hq hbw ⊢
    have q0 := hq.c0
    have q1 := hq.c1
    have q2 := hq.c2
    exact bodyPost_ret (v := .tuple #[thv Th.no, .int .i64 e0]) (by simp [results, Tryd.results36, go_sem, thv, Th.no, q0, q1, q2]) rfl ⟨rfl, hbw⟩
end Go.Proofs.YtmabhciijdceoaaDoor
