/-
  Whether each instruction may be, and the bytes and the text of any of them, where one may not be: the law's walk.
-/
import Derived.Test.YtoebboimdkogpaaDoorMEw
namespace Go.Proofs.YtoebboimdkogpaaDoor
open Go.RowKit

set_option maxRecDepth 100000 in
set_option maxHeartbeats 8000000 in
theorem encodes_no (A : Option Addr) (n c : Nat) (is : List Ins) (w : World) (h : Isl w (fun k => k < w.heap.size) A n c is) (hn : n * 40 ≤ 140737488351232) (he : Env w) (hv : is.all mayB = false) :
    Calls Tryd.prog 3 #[.slice A n c] w fun e w' => e = .returned (.bool true) ∧ Below w.heap.size w w' := by
  have hl := h.len
  subst hl
  have H := Lib.hid h
  have HE := Lib.hid he
  have HA := Lib.hid (awake_any w he)
  have HEN := Lib.hid (fun w1 (h1 : Below w.heap.size w w1) => encode_any _ A is.length c is w1 (h.below h1 (fun _ h => h)) (by omega) (he.below h1).sh)
  have HRE := Lib.hid (fun w1 (h1 : Below w.heap.size w w1) => rencode_any _ A is.length c is w1 (h.below h1 (fun _ h => h)) (by omega))
  have HPR := Lib.hid (fun w1 (h1 : Below w.heap.size w w1) => print_any _ A is.length c is w1 (h.below h1 (fun _ h => h)) hn (he.below h1))
  have HRP := Lib.hid (fun w1 (h1 : Below w.heap.size w w1) => rprint_any _ A is.length c is w1 (h.below h1 (fun _ h => h)) hn (he.below h1))
  clear h he
  go_enter Tryd.func3, Tryd.ntmps3
  go_wp2_with fail
  refine HA.out.mono ?_
  rintro e w1 ⟨rfl, hb1⟩
  have HB1 := Lib.hid hb1
  clear hb1 HA
  have HV := Lib.hid hv
  clear hv
  go_wp2_with fail
  refine (HEN.out w1 HB1.out).mono ?_
  rintro e w2 ⟨hb2, ⟨_, rfl⟩ | ⟨hv, _⟩⟩
  · have HB2 := Lib.hid (HB1.out.trans (hb2.mono HB1.out.size))
    clear hb2 HB1
    go_wp2_with fail
    refine (HEN.out w2 HB2.out).mono ?_
    rintro e w3 ⟨hb3, ⟨_, rfl⟩ | ⟨hv, _⟩⟩
    · have HB3 := Lib.hid (HB2.out.trans (hb3.mono HB2.out.size))
      clear hb3 HB2
      go_wp2_with fail
      refine (HRE.out w3 HB3.out).mono ?_
      rintro e w4 ⟨hb4, ⟨_, rfl⟩ | ⟨hv, _⟩⟩
      · have HB4 := Lib.hid (HB3.out.trans (hb4.mono HB3.out.size))
        clear hb4 HB3
        go_wp2_with fail
        refine (HPR.out w4 HB4.out).mono ?_
        rintro e w5 ⟨hb5, ⟨_, rfl⟩ | ⟨hv, _⟩⟩
        · have HB5 := Lib.hid (HB4.out.trans (hb5.mono HB4.out.size))
          clear hb5 HB4
          go_wp2_with fail
          refine (HRP.out w5 HB5.out).mono ?_
          rintro e w6 ⟨hb6, ⟨_, rfl⟩ | ⟨hv, _⟩⟩
          · have HB6 := Lib.hid (HB5.out.trans (hb6.mono HB5.out.size))
            have hcv := conv_string (src_nil w6)
            have HOA2 := Lib.hid (World.ownsRow_nil w6 w.heap.size 5 1)
            have HOB2 := Lib.hid (World.ownsRow_nil w6 w.heap.size 5 1)
            have HDI := Lib.hid (show ∀ k, row none = some k → row none ≠ some k from fun k hk => by cases hk)
            clear hb6 HB5 HEN HRE HPR HRP
            go_wp2_with fail
            have HSZ := Lib.hid (show 0 ≤ 140737488351232 ∧ 0 ≤ 140737488351232 by omega)
            go_loopw [14] (fun t14 wr => ∃ k : Nat, k ≤ is.length ∧ t14 = .int .i64 k ∧ Below w6.heap.size w6 wr) (fun t14 _ => is.length - (intOf t14).toNat)
            case atStart => exact ⟨0, Nat.zero_le _, rfl, Below.refl _ _⟩
            case round =>
              obtain ⟨k, hk, rfl, hb⟩ := hrel
              have HBR := Lib.hid hb
              clear hb hcv
              by_cases hkn : k < is.length
              · cases A with
                | none => have := (H.out.nil rfl).1; omega
                | some ad =>
                  obtain ⟨b, o, rfl⟩ := H.out.plain (by omega)
                  have HC := Lib.hid (fun X (hX : Below w6.heap.size w6 X) => (H.out.below (HB6.out.trans (hX.mono HB6.out.size)) (fun _ h => h)).get k hkn)
                  obtain ⟨c0, c1, c2, c3, c4⟩ := HC.out _ HBR.out
                  have HBX := Lib.hid (HBR.out.trans ((drew_below wr).mono HBR.out.size))
                  generalize is[k] = i at *
                  have HM := Lib.hid (fun X (hX : Below w6.heap.size w6 X) => (may_any i X (HE.out.below (HB6.out.trans (hX.mono HB6.out.size))).sh).mono (R' := fun e w' => e = .returned (.int .i64 (if mayB i = true then 0 else 40)) ∧ Below w6.heap.size w6 w' ∧ _) (fun e w' h2 => ⟨h2.1, hX.trans (h2.2.mono hX.size), HC.out _ (hX.trans (h2.2.mono hX.size))⟩))
                  have HR := Lib.hid (fun X (hX : Below w6.heap.size w6 X) => (rmay_any i X).mono (R' := fun e w' => e = .returned (.bool (mayB i)) ∧ Below w6.heap.size w6 w' ∧ _) (fun e w' h2 => ⟨h2.1, hX.trans (h2.2.mono hX.size), HC.out _ (hX.trans (h2.2.mono hX.size))⟩))
                  obtain ⟨op, a, b', c'', n'⟩ := i
                  simp only at c0 c1 c2 c3 c4 HM HR
                  clear HC HBR
                  cases hm : mayB ⟨op, a, b', c'', n'⟩
                  · rw [hm] at HM HR
                    clear hm
                    simp only [Bool.false_eq_true, if_false] at HM
                    go_wp2_with fail
                    first | (go_region_held3 (fun w' => w'.cell? ⟨b, o + k * 5, none⟩ = some (.int .i64 op) ∧ w'.cell? ⟨b, o + k * 5 + 1, none⟩ = some (.int .i64 a) ∧ w'.cell? ⟨b, o + k * 5 + 2, none⟩ = some (.int .i64 b') ∧ w'.cell? ⟨b, o + k * 5 + 3, none⟩ = some (.int .i64 c'') ∧ w'.cell? ⟨b, o + k * 5 + 4, none⟩ = some (.int .i64 n')) (first | (exact ⟨by assumption, by assumption, by assumption, by assumption, by assumption⟩) | go_keep) (first
                      | (go_at_call 16; (with_reducible refine (HM.out _ HBX.out).mono ?_); rintro e w9 ⟨rfl, hb9, p0, p1, p2, p3, p4⟩; have HBX := Lib.hid hb9; clear hb9)
                      | (go_at_call 17; (with_reducible refine (HR.out _ HBX.out).mono ?_); rintro e w9 ⟨rfl, hb9, p0, p1, p2, p3, p4⟩; have HBX := Lib.hid hb9; clear hb9))) | fail
                    all_goals
                      go_wp2_with fail
                      exact ⟨⟨k + 1, by omega, by go_num, HBX.out⟩, by simp [intOf]; omega⟩
                  · rw [hm] at HM HR
                    clear hm
                    simp only [if_true] at HM
                    go_wp2_with fail
                    first | (go_region_with (first
                      | (go_at_call 16; (with_reducible refine (HM.out _ HBX.out).mono ?_); rintro e w9 ⟨rfl, hb9, p0, p1, p2, p3, p4⟩; have HBX := Lib.hid hb9; clear hb9)
                      | (go_at_call 17; (with_reducible refine (HR.out _ HBX.out).mono ?_); rintro e w9 ⟨rfl, hb9, p0, p1, p2, p3, p4⟩; have HBX := Lib.hid hb9; clear hb9))) | fail
                    all_goals
                      go_wp2_with fail
                      exact ⟨⟨k + 1, by omega, by go_num, HBX.out⟩, by simp [intOf]; omega⟩
              · have ho3 := own_below HOA2.out HBR.out
                have ho4 := own_below HOB2.out HBR.out
                have hBT := HB6.out.trans (HBR.out.mono HB6.out.size)
                have hro : (wr.alloc (.cells #[.slice none 0 0, .slice none 0 0] 24)).heap[wr.heap.size]? = some (.cells #[.slice none 0 0, .slice none 0 0] 24 (0, 0)) := heap_alloc_new _ _
                have C := owned_many w.heap.size wr.heap.size 2 (fun i => if i = 0 then none else none) (fun i => if i = 0 then 0 else 0) (fun i => if i = 0 then 0 else 0) (fun i => if i = 0 then [] else []) #[.slice none 0 0, .slice none 0 0] (wr.alloc (.cells #[.slice none 0 0, .slice none 0 0] 24)) (by omega) hro
                  (fun i hi => by
                    have : i = 0 ∨ i = 1 := by omega
                    rcases this with rfl | rfl <;> rfl)
                  (fun i hi => by
                    have : i = 0 ∨ i = 1 := by omega
                    rcases this with rfl | rfl
                    · exact ho3.alloc _
                    · exact ho4.alloc _)
                  (fun i j hi hj hij => by
                    have : (i = 0 ∧ j = 1) ∨ (i = 1 ∧ j = 0) := by omega
                    rcases this with ⟨rfl, rfl⟩ | ⟨rfl, rfl⟩
                    · exact HDI.out
                    · exact fun q h1 h2 => HDI.out q h2 h1)
                  (by have := hBT.size; rw [World.size_alloc]; omega)
                  (fun i hi => by
                    have : i = 0 ∨ i = 1 := by omega
                    rcases this with rfl | rfl
                    · exact HSZ.out.1
                    · exact HSZ.out.2)
                have HO := Lib.hid C
                have HB7 := Lib.hid (hBT.alloc hBT.size (.cells #[.slice none 0 0, .slice none 0 0] 24))
                clear ho3 ho4 hBT hro C
                go_wp2_with (go_at_call 18; refine HO.out.mono ?_; rintro en w8 ⟨rfl, hb8⟩; have HB8 := Lib.hid hb8; clear hb8)
                go_ret
                exact ⟨rfl, HB7.out.trans HB8.out⟩
          · rw [HV.out] at hv; cases hv
        · rw [HV.out] at hv; cases hv
      · rw [HV.out] at hv; cases hv
    · rw [HV.out] at hv; cases hv
  · rw [HV.out] at hv; cases hv
end Go.Proofs.YtoebboimdkogpaaDoor
