/-
  Copy, Names; texts that are the same.
-/
import Derived.Test.YtmabhciijdceoaaDoorMKeeps
namespace Go.Proofs.YtmabhciijdceoaaDoor
open Go.RowKit Go.Maps

set_option maxRecDepth 100000 in
set_option maxHeartbeats 1000000 in
theorem copy_any (sb mb : Nat) (s : St) (w : World) (h : Sto w sb mb s) :
    Calls Tryd.prog 19 #[.pointer (some ⟨sb, 0, none⟩)] w fun e w' => ∃ sb2 mb2, e = .returned (.pointer (some ⟨sb2, 0, none⟩)) ∧ w.heap.size ≤ sb2 ∧ w.heap.size ≤ mb2 ∧ Sto w' sb2 mb2 s ∧ Below w.heap.size w w' := by
  have hd := h.below (drew_below w)
  have C : Calls Tryd.prog 41 #[.map (some mb)] w.drew fun e w' => e = .returned (.map (some w.drew.heap.size)) ∧ w'.ownsMap Tryd.prog 9 thElem w.drew.heap.size (Maps.size s.d) s.d ∧ w'.ownsMap Tryd.prog 9 thElem mb (Maps.size s.d) s.d ∧ Below w.drew.heap.size w.drew w' :=
    AnyW.maps_Clone_owns Tryd.cloneM 9 thElem mb _ s.d w.drew hd.own
  have HC := Lib.hid C
  have HS := Lib.hid h
  have hc0 := h.c0
  have hc1 := h.c1
  have hk0 := hd.c0
  have hk1 := hd.c1
  have hlt := h.lt.1
  clear h hd C
  go_enter Tryd.func19, Tryd.ntmps19
  go_wp2_with fail
  go_region_with (go_at_call 41; refine HC.out.mono ?_; rintro en w2 ⟨rfl, ho, _, hb⟩; have hs2 := HS.out.below ((drew_below w).trans hb); have e0 := hs2.c0; have e1 := hs2.c1; have HO := Lib.hid ho; have HB := Lib.hid hb; have HS2 := Lib.hid hs2; clear ho hb hs2)
  all_goals go_wp2
  all_goals go_ret
  all_goals
    have hsz := HB.out.size
    have hbw := (((drew_below w).trans HB.out).alloc (B := w.heap.size) hsz (.cells #[.map (some w.heap.size), .int .i64 s.puts] 64))
    refine ⟨w2.heap.size, w.heap.size, rfl, hsz, Nat.le_refl _, ⟨heap_alloc_new _ _, HO.out.alloc _, HS.out.ml.below hbw (by have := HS.out.lt; omega), ⟨by have := HS.out.lt; have : w.heap.size ≤ w2.heap.size := hsz; omega, by omega⟩, HS.out.size⟩, hbw⟩

def namesOf (D : Dt) (path : Str) : List Str × Int :=
  if (endOf D path).2.2 ≠ 0 then ([], (endOf D path).2.2)
  else if (endOf D path).2.1.kind = 1 then ([], 34)
  else (namesIn D (endOf D path).1, 0)
def Named (w : World) (r : List Str × Int) (e : Ending) (w' : World) : Prop :=
  ∃ A c, e = .returned (.tuple #[.slice A r.1.length c, .int .i64 r.2]) ∧ Src w' (fun k => w.heap.size ≤ k ∧ k < w'.heap.size) A r.1.length c (strs r.1) ∧ Below w.heap.size w w'
theorem src_none (w : World) (P : Nat → Prop) : Src w P none 0 0 [] := ⟨rfl, fun _ => ⟨rfl, rfl⟩, Nat.le_refl _, (by intro ad h; cases h), (by intro ad h; cases h)⟩

set_option maxRecDepth 100000 in
set_option maxHeartbeats 1000000 in
theorem names_any (sb mb : Nat) (s : St) (path : Str) (w : World) (h : Sto w sb mb s) (hg : Good s.d) (hl : path.length ≤ 9223372036854775807) :
    Calls Tryd.prog 21 #[.pointer (some ⟨sb, 0, none⟩), str path] w (Named w (namesOf s.d path)) := by
  have HC := Lib.hid (end_any sb mb s path w h hl)
  have HS := Lib.hid h
  have HG := Lib.hid hg
  have hu : namesOf s.d path = if (endOf s.d path).2.2 ≠ 0 then ([], (endOf s.d path).2.2)
    else if (endOf s.d path).2.1.kind = 1 then ([], 34) else (namesIn s.d (endOf s.d path).1, 0) := rfl
  generalize namesOf s.d path = u at *
  generalize endOf s.d path = r at *
  obtain ⟨p, ⟨k, i, x⟩, e0⟩ := r
  simp only at *
  unfold thv at *
  have HU := Lib.hid hu
  clear h hg hu
  go_enter Tryd.func21, Tryd.ntmps21
  go_wp2_with fail
  refine HC.out.mono ?_
  rintro e w1 ⟨rfl, hb⟩
  have HB := Lib.hid hb
  clear hb HC
  by_cases he : e0 = 0
  · subst he
    by_cases hk : k = 1
    · subst hk
      have hu := HU.out
      rw [if_neg (by simp), if_pos rfl] at hu
      subst hu
      clear HU
      go_wp2
      go_ret2
      exact ⟨none, 0, rfl, src_none _ _, HB.out.alloc HB.out.size _⟩
    · have hk' : (k == 1) = false := by simpa using hk
      have hu := HU.out
      rw [if_neg (by simp), if_neg hk] at hu
      subst hu
      clear HU hk
      have HBX := Lib.hid (HB.out.alloc HB.out.size (.cells #[.int .i64 k, .int .i64 i, str x] 59))
      have HN := Lib.hid (namesIn_any sb mb s p _ (HS.out.below HBX.out) HG.out)
      go_wp2_with fail
      refine HN.out.mono ?_
      rintro e w2 ⟨A, c, rfl, ho, hb2⟩
      have HO := Lib.hid ho
      have HB2 := Lib.hid hb2
      clear ho hb2 HN
      generalize namesIn s.d p = l at *
      go_wp2
      go_ret2
      have hz := HBX.out.size
      exact ⟨A, c, rfl, (Src.of_own HO.out).weak fun k hk => ⟨by omega, hk.2.2⟩, HBX.out.trans (HB2.out.mono hz)⟩
  · have he' : (e0 != 0) = true := by simpa using he
    have hu := HU.out
    rw [if_pos he] at hu
    subst hu
    clear HU he
    go_wp2
    go_ret2
    exact ⟨none, 0, rfl, src_none _ _, HB.out.alloc HB.out.size _⟩

theorem src_get {w : World} {P : Nat → Prop} {A : Option Addr} {n c : Nat} {xs : List Value} (h : Src w P A n c xs) (h0 : 0 < n) : ∃ b o, A = some ⟨b, o, none⟩ ∧ ∀ k v, xs[k]? = some v → w.cell? ⟨b, o + k, none⟩ = some v := by
  cases A with
  | none => have := (h.nil rfl).1; omega
  | some ad =>
    obtain ⟨b, o, spot⟩ := ad
    have hl := h.len
    have hs : spot = none := by
      have h0 := World.cell?_spot (h.at_ _ rfl 0 xs[0] (by simp))
      simpa [Addr.add] using h0
    subst hs
    refine ⟨b, o, rfl, fun k v hk => ?_⟩
    rw [← plainAdd]
    exact h.at_ _ rfl k v hk

set_option maxRecDepth 100000 in
set_option maxHeartbeats 1000000 in
theorem texts_same (P Q : Nat → Prop) (A B : Option Addr) (c c2 : Nat) (l : List Str) (w : World) (h : Src w P A l.length c (strs l)) (h2 : Src w Q B l.length c2 (strs l)) (hn : l.length ≤ 4611686018427387904) :
    Calls Tryd.prog 22 #[.slice A l.length c, .slice B l.length c2] w fun e w' => e = .returned (.bool true) ∧ ∃ m, w' = w.drewN m := by
  have HX := Lib.hid h
  have HY := Lib.hid h2
  clear h h2
  generalize hn0 : l.length = n at *
  have HN := Lib.hid hn0
  clear hn0
  go_enter Tryd.func22, Tryd.ntmps22
  go_wp2_with fail
  go_loopw [5] (fun i wr => ∃ k m : Nat, k ≤ n ∧ i = .int .i64 k ∧ wr = w.drewN m) (fun i _ => n - (intOf i).toNat)
  case atStart => exact ⟨0, 0, Nat.zero_le _, rfl, rfl⟩
  case round =>
    obtain ⟨k, m, hk, rfl, rfl⟩ := hrel
    by_cases hlt : k < n
    · have hkl : k < l.length := by have := HN.out; omega
      obtain ⟨b, o, rfl, hc1⟩ := src_get HX.out (by omega)
      obtain ⟨b2, o2, rfl, hc2⟩ := src_get HY.out (by omega)
      have e1 := hc1 k (str l[k]) (by simp [strs, hkl])
      have e2 := hc2 k (str l[k]) (by simp [strs, hkl])
      have e1' : (w.drewN m).cell? ⟨b, o + k, none⟩ = some (str l[k]) := e1
      have e2' : (w.drewN m).cell? ⟨b2, o2 + k, none⟩ = some (str l[k]) := e2
      have hcp := HX.out.cap
      have hcp2 := HY.out.cap
      generalize l[k] = x at *
      clear hc1 hc2 hkl
      go_wp2_with fail
      go_region
      all_goals go_wp2
      all_goals exact ⟨⟨k + 1, m + 1, by omega, by go_num, rfl⟩, by simp [intOf]; omega⟩
    · obtain rfl : k = n := by omega
      go_wp2
      go_ret
      exact ⟨rfl, _, rfl⟩
end Go.Proofs.YtmabhciijdceoaaDoor
