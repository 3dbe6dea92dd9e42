/-
  What changes a store: Symlink, Put.
-/
import Derived.Test.YtmabhciijdceoaaDoorI
import Derived.Laws.BytesArg
import Derived.Laws.IdiomStrings
import Derived.Lib.ConvBytes
import Derived.StillTailTactics
namespace Go.Proofs.YtmabhciijdceoaaDoor
open Go.RowKit Go.Maps

theorem sclone_any (l : Str) (w : World) (hl : l.length ≤ 281474976710656) :
    Calls Tryd.prog 47 #[str l] w (Looks w (str l)) := by
  have hc := Tryd.stringslite_Clone ⟨l.toArray⟩ w (by simpa [ByteArray.size] using hl)
  have HC := Lib.hid hc
  clear hc
  go_enter Tryd.func47, Tryd.ntmps47
  go_wp2_with fail
  refine HC.out.mono ?_
  rintro e w1 ⟨rfl, hb⟩
  have HB := Lib.hid hb
  clear hb
  go_wp2
  go_ret
  exact ⟨rfl, HB.out⟩

def symM (s : St) (path to_ : Str) : St × Int :=
  if (freeOf s.d path).2 ≠ 0 then (s, (freeOf s.d path).2)
  else if partsOf to_ = none ∨ to_ = [] then (s, 30)
  else setAt s (freeOf s.d path).1 ⟨3, 0, to_⟩
/-- Behind a call that takes a path apart, whatever comes of it. -/
theorem Parted.any {w w' : World} {o : Option (List Str)} {e : Ending} (h : Parted w o e w') : ∃ A n c, e = .returned (.tuple #[.slice A n c, .bool o.isSome]) ∧ Below w.heap.size w w' := by
  obtain ⟨hb, h⟩ := h
  cases o with
  | none => exact ⟨none, 0, 0, h, hb⟩
  | some ps =>
    obtain ⟨A, c, he, _⟩ := h
    exact ⟨A, ps.length, c, he, hb⟩
set_option maxRecDepth 100000 in
theorem sym_any (sb mb : Nat) (s : St) (path to_ : Str) (w : World) (h : Sto w sb mb s) (hl : path.length ≤ 9223372036854775807) (hl2 : to_.length ≤ 9223372036854775807) :
    Calls Tryd.prog 24 #[.pointer (some ⟨sb, 0, none⟩), str path, str to_] w (Does w sb mb (symM s path to_)) := by
  have HC := Lib.hid (freePlaceOf_any sb mb s path w h hl)
  have HS := Lib.hid h
  have hff := free_facts s.d path
  have hu : symM s path to_ = if (freeOf s.d path).2 ≠ 0 then (s, (freeOf s.d path).2) else if partsOf to_ = none ∨ to_ = [] then (s, 30) else setAt s (freeOf s.d path).1 ⟨3, 0, to_⟩ := rfl
  have HF := Lib.hid (fun w1 (hb : Below w.heap.size w w1) => partsOf_any to_ w1 hl2 (h.ml.below hb h.ml.pos))
  have h200 : partsOf to_ ≠ none → to_.length ≤ 200 := fun hn => by
    cases hp : partsOf to_ with
    | none => exact absurd hp hn
    | some ps => exact (partsOf_ok hp).1
  generalize symM s path to_ = u at *
  generalize freeOf s.d path = r at *
  generalize partsOf to_ = q at *
  obtain ⟨p, e0⟩ := r
  simp only at *
  have HFF := Lib.hid hff
  have H200 := Lib.hid h200
  clear h hff h200
  by_cases he : e0 = 0
  · rw [if_neg (by simpa using he)] at hu
    subst he
    have HU := Lib.hid hu
    clear hu
    go_enter Tryd.func24, Tryd.ntmps24
    go_wp2_with fail
    refine HC.out.mono ?_
    rintro e w1 ⟨rfl, hb⟩
    have HB := Lib.hid hb
    clear hb HC
    go_wp2_with fail
    refine (HF.out w1 HB.out).mono ?_
    rintro e w2 hpt
    obtain ⟨A, n, c, rfl, hb2⟩ := hpt.any
    have HBB := Lib.hid (HB.out.trans (hb2.mono HB.out.size))
    clear hb2 hpt HF
    cases q with
    | none =>
      have hu := HU.out
      rw [if_pos (.inl rfl)] at hu
      subst hu
      go_wp2
      go_ret
      exact Does.same HBB.out (HS.out.below HBB.out)
    | some ps =>
      by_cases ht : to_ = []
      · have hu := HU.out
        rw [if_pos (.inr ht)] at hu
        subst hu
        subst ht
        go_wp2
        go_ret
        exact Does.same HBB.out (HS.out.below HBB.out)
      · have hu := HU.out
        rw [if_neg (by simp [ht])] at hu
        have HU := Lib.hid hu
        have ht' : (to_ == []) = false := by simpa using ht
        have h2 := H200.out (by simp)
        have HSC := Lib.hid (sclone_any to_ w2 (by omega))
        clear hu H200 ht
        go_wp2_with fail
        refine HSC.out.mono ?_
        rintro e w3 ⟨rfl, hb3⟩
        have hbb := HBB.out.trans (hb3.mono HBB.out.size)
        have HB3 := Lib.hid hbb
        have HX := Lib.hid (set_any sb mb s p ⟨3, 0, to_⟩ w3 (HS.out.below hbb) (by have := HFF.out; omega) (by simp [Th.small]; omega))
        clear hb3 hbb HSC HBB HB
        go_wp2_with fail
        refine HX.out.mono ?_
        rintro e w4 hd
        rw [← HU.out] at hd
        obtain ⟨rfl, hs2, ht2⟩ := Does.behind HB3.out hd
        have HS2 := Lib.hid hs2
        have HT2 := Lib.hid ht2
        clear hs2 ht2 hd HU HX HB3
        go_wp2
        go_ret
        exact ⟨rfl, HS2.out, HT2.out⟩
  · rw [if_pos he] at hu
    subst hu
    have he' : (e0 == 0) = false := by simpa using he
    go_enter Tryd.func24, Tryd.ntmps24
    go_wp2_with fail
    refine HC.out.mono ?_
    rintro e w1 ⟨rfl, hb⟩
    have HB := Lib.hid hb
    clear hb HC
    go_wp2
    go_ret
    exact Does.same HB.out (HS.out.below HB.out)

/-! Put. -/
def cells (l : Str) : List Value := l.map fun b => .int .u8 (b.toNat : Int)
theorem cells_len (l : Str) : (cells l).length = l.length := by simp [cells]
theorem conv_string {w : World} {P : Nat → Prop} {A : Option Addr} {n c : Nat} {l : Str} (h : Src w P A n c (cells l)) : (convert 28 9 (.slice A n c)).run Tryd.prog w = .ok (str l) w := by
  have hl : l.length = n := by have := h.len; simpa [cells_len] using this
  subst hl
  cases A with
  | none =>
    have h0 := (h.nil rfl).1
    have : l = [] := List.eq_nil_of_length_eq_zero h0
    subst this
    exact run_convert_bytes_nil w 28 5 Tryd.underlying28 Tryd.underlying5 _ _ 9 Tryd.underlying9
  | some a =>
    exact run_convert_bytes_back w 28 9 5 a c l Tryd.underlying28 Tryd.underlying5 Tryd.underlying9 fun j hj => h.at_ a rfl j _ (by simp [cells, hj])

theorem Sto.count {w : World} {sb mb : Nat} {s : St} (h : Sto w sb mb s) (n : Nat) : Sto (w.setCell ⟨sb, 1, none⟩ (.int .i64 (n : Int))) sb mb ⟨s.d, n⟩ ∧ Turn sb mb w (w.setCell ⟨sb, 1, none⟩ (.int .i64 (n : Int))) := by
  have hT : Turn sb mb w (w.setCell ⟨sb, 1, none⟩ (.int .i64 (n : Int))) := ⟨rfl, rfl, rfl, by simp [World.setCell], fun k _ hs _ => heap_setCell_other _ _ _ _ (fun e => hs (by rw [show k = sb from e]))⟩
  refine ⟨⟨?_, h.own.setCell (fun e => h.ne e.symm) _, hT.ml h.ml h.pos.1 h.pos.2, h.pos, h.size⟩, hT⟩
  exact heap_setCell_same w sb 1 _ _ (.int .i64 (n : Int)) h.blk
def putM (s : St) (path b : Str) : St × Int :=
  if (placeOf s.d path).2 ≠ 0 then (s, (placeOf s.d path).2)
  else if (getD s.d (placeOf s.d path).1).kind = 2 then (s, 33)
  else if (getD s.d (placeOf s.d path).1).kind = 3 then (s, 32)
  else if 1048576 < b.length then (s, 2)
  else if (setAt s (placeOf s.d path).1 ⟨1, s.puts + 1, b⟩).2 = 0 then (⟨(setAt s (placeOf s.d path).1 ⟨1, s.puts + 1, b⟩).1.d, s.puts + 1⟩, 0)
  else (s, 3)
theorem setAt_fail (s : St) (p : Str) (t : Th) : ((setAt s p t).2 = 0 ∧ (setAt s p t).1.puts = s.puts) ∨ setAt s p t = (s, 3) := by
  unfold setAt
  split
  · exact .inr rfl
  · exact .inl ⟨rfl, rfl⟩

set_option maxRecDepth 100000 in
set_option maxHeartbeats 1000000 in
theorem put_any (sb mb : Nat) (s : St) (path b : Str) (P : Nat → Prop) (A : Option Addr) (c : Nat) (w : World) (h : Sto w sb mb s) (hl : path.length ≤ 9223372036854775807)
    (hb : Src w P A b.length c (cells b)) (hputs : s.puts ≤ 4611686018427387904) (hbl : b.length ≤ 9223372036854775807) :
    Calls Tryd.prog 15 #[.pointer (some ⟨sb, 0, none⟩), str path, .slice A b.length c] w (Does w sb mb (putM s path b)) := by
  have HC := Lib.hid (placeOf_any sb mb s path w h hl)
  have HS := Lib.hid h
  have hpf := (place_facts s.d path).1
  have hsf := setAt_fail s (placeOf s.d path).1 ⟨1, s.puts + 1, b⟩
  have hu : putM s path b = if (placeOf s.d path).2 ≠ 0 then (s, (placeOf s.d path).2)
    else if (getD s.d (placeOf s.d path).1).kind = 2 then (s, 33)
    else if (getD s.d (placeOf s.d path).1).kind = 3 then (s, 32)
    else if 1048576 < b.length then (s, 2)
    else if (setAt s (placeOf s.d path).1 ⟨1, s.puts + 1, b⟩).2 = 0 then (⟨(setAt s (placeOf s.d path).1 ⟨1, s.puts + 1, b⟩).1.d, s.puts + 1⟩, 0)
    else (s, 3) := rfl
  have HSR := Lib.hid (hb.lt)
  generalize putM s path b = u at *
  generalize placeOf s.d path = r at *
  obtain ⟨p, e0⟩ := r
  simp only at *
  have HPF := Lib.hid hpf
  have HSF := Lib.hid hsf
  clear h hpf hb hsf
  by_cases he : e0 = 0
  · rw [if_neg (by simpa using he)] at hu
    subst he
    have HU := Lib.hid hu
    clear hu
    go_enter Tryd.func15, Tryd.ntmps15
    go_wp2_with fail
    refine HC.out.mono ?_
    rintro e w1 ⟨rfl, hb1⟩
    have HB := Lib.hid hb1
    have hS1 := HS.out.below hb1
    have hlk := (hS1.look p (by have := HPF.out; omega)).1
    have hc0 := hS1.c0
    have hc1 := hS1.c1
    have hfd := field_kind w1
    have HS1 := Lib.hid hS1
    have HSR1 := Lib.hid (HSR.out.below hb1 fun _ h => h)
    generalize hgt : getD s.d p = t at *
    obtain ⟨kd, ti, tx⟩ := t
    have HGT := Lib.hid hgt
    unfold thv at hlk
    clear hb1 HC hS1 hgt
    by_cases h2 : kd = 2
    · have hu := HU.out
      rw [if_pos h2] at hu
      subst hu
      subst h2
      go_wp2
      go_ret
      exact Does.same HB.out HS1.out
    · by_cases h3 : kd = 3
      · have hu := HU.out
        rw [if_neg h2, if_pos h3] at hu
        subst hu
        subst h3
        go_wp2
        go_ret
        exact Does.same HB.out HS1.out
      · by_cases h4 : 1048576 < b.length
        · have hu := HU.out
          rw [if_neg h2, if_neg h3, if_pos h4] at hu
          subst hu
          go_wp2
          go_ret
          exact Does.same HB.out HS1.out
        · have hu := HU.out
          rw [if_neg h2, if_neg h3, if_neg h4] at hu
          have HU := Lib.hid hu
          have hcv := conv_string HSR1.out
          have hcv1 := conv_string (w := w1.drew) (HSR1.out.keep (w' := w1.drew) fun _ _ _ => rfl)
          have HX := Lib.hid (set_any sb mb s p ⟨1, s.puts + 1, b⟩ w1.drew (HS1.out.below (drew_below w1)) (by have := HPF.out; omega) (by simp [Th.small]; omega))
          clear hu
          go_wp2_with fail
          go_still_tail 10, (by kernel_rfl)
          change wpList _ _ _ _ _ w1.drew
          go_wp2_with fail
          refine HX.out.mono ?_
          rintro e w2 ⟨rfl, hs2, ht2⟩
          have HT2 := Lib.hid (((Turn.of_below HB.out (Nat.le_refl _)).trans (Turn.of_below (sb := sb) (mb := mb) (drew_below w1) (Nat.le_refl _))).trans ht2)
          clear hcv hcv1 hlk hfd hc0 hc1
          rcases HSF.out with ⟨hz, hp2⟩ | hz
          · have hu := HU.out
            rw [if_pos hz] at hu
            subst hu
            generalize setAt s p ⟨1, s.puts + 1, b⟩ = v at *
            obtain ⟨⟨D2, n2⟩, e2⟩ := v
            simp only at hz hp2 hs2
            subst hz
            subst hp2
            have hcn := hs2.count (s.puts + 1)
            have hc0 := hs2.c0
            have hc1 := hs2.c1
            have hf := hs2.f 1
            have HCN := Lib.hid hcn
            clear hs2 ht2 hcn HX HU HSF
            go_wp2
            go_ret
            exact ⟨rfl, HCN.out.1, HT2.out.trans HCN.out.2⟩
          · have hu := HU.out
            rw [hz] at hu hs2
            try rw [if_neg h2, if_neg h3, if_neg h4] at hu
            rw [if_neg (show ¬ ((s, (3 : Int)).2 = 0) by simp)] at hu
            subst hu
            rw [hz]
            have HS2 := Lib.hid hs2
            clear hs2 ht2 HX HU HSF hz
            go_wp2
            go_ret
            exact ⟨rfl, HS2.out, HT2.out⟩
  · rw [if_pos he] at hu
    subst hu
    have he' : (e0 == 0) = false := by simpa using he
    go_enter Tryd.func15, Tryd.ntmps15
    go_wp2_with fail
    refine HC.out.mono ?_
    rintro e w1 ⟨rfl, hb⟩
    have HB := Lib.hid hb
    clear hb HC
    go_wp2
    go_ret
    exact Does.same HB.out (HS.out.below HB.out)
end Go.Proofs.YtmabhciijdceoaaDoor
