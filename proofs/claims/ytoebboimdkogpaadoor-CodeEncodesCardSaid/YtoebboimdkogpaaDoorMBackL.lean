/-
  Instructions come back from their bytes, and from their text: the law's walk.
-/
import Derived.Test.YtoebboimdkogpaaDoorTp
import Derived.Test.YtoebboimdkogpaaDoorTb
namespace Go.Proofs.YtoebboimdkogpaaDoor
open Go.RowKit

theorem isl_none (w : World) (P : Nat → Prop) : Isl w P none 0 0 [] := ⟨rfl, fun _ => ⟨rfl, rfl⟩, Nat.le_refl _, (by intro ad h; cases h), (by intro ad h; cases h)⟩
theorem map_some_inj : ∀ {a b : List Ins}, a.map some = b.map some → a = b
  | [], [], _ => rfl
  | [], _ :: _, h => by simp at h
  | _ :: _, [], h => by simp at h
  | x :: a, y :: b, h => by
    simp only [List.map_cons, List.cons.injEq, Option.some.injEq] at h
    rw [h.1, map_some_inj h.2]
/-- Behind a Parse of what was printed. -/
theorem parse_text (is : List Ins) (h : is.all mayB = true) (w : World) (hn : is.length * 40 ≤ 140737488355328) (he : Env w) :
    Calls Tryd.prog 24 #[str (textOf is)] w fun e w' => Below w.heap.size w w' ∧ ∃ A c, e = .returned (.tuple #[.slice A is.length c, .int .i64 0, .int .i64 0]) ∧ w'.ownsRow w.heap.size 35 5 (.slice A is.length c) is.length (icells is) := by
  have hl := text_len is h
  refine (parse_any (textOf is) w (by omega) (by rw [lns_text is h, List.length_map]; exact hn) (fun x hx => ?_) he).mono ?_
  · rw [lns_text is h] at hx
    obtain ⟨i, hi, rfl⟩ := List.mem_map.1 hx
    have := body_len i (List.all_eq_true.1 h i hi)
    omega
  · rintro e w' ⟨hb, ⟨js, A, c, hm, rfl, ho⟩ | ⟨p, x, more, hm, _, hx, _⟩⟩
    · rw [typed_text is h] at hm
      obtain rfl := map_some_inj hm
      exact ⟨hb, A, c, rfl, ho⟩
    · have h1 : typedM x ∈ (lns (textOf is)).map typedM := List.mem_map_of_mem (by rw [hm]; simp)
      rw [typed_text is h, hx] at h1
      simp at h1

set_option maxRecDepth 100000 in
set_option maxHeartbeats 4000000 in
theorem backL_any (A : Option Addr) (n c : Nat) (is : List Ins) (w : World) (h : Isl w (fun k => k < w.heap.size) A n c is) (hn : n * 40 ≤ 140737488351232) (he : Env w) :
    Calls Tryd.prog 6 #[.slice A n c] w fun e w' => e = .returned (.bool true) ∧ Below w.heap.size w w' := by
  have hl := h.len
  subst hl
  have H := Lib.hid h
  have HE := Lib.hid he
  have HA := Lib.hid (awake_any w he)
  clear h he
  go_enter Tryd.func6, Tryd.ntmps6
  go_wp2_with fail
  refine HA.out.mono ?_
  rintro e w1 ⟨rfl, hb1⟩
  have HB1 := Lib.hid hb1
  clear hb1 HA
  go_wp2_with fail
  refine (encode_any _ A is.length c is w1 (H.out.below HB1.out (fun _ h => h)) (by omega) (HE.out.below HB1.out).sh).mono ?_
  rintro e w2 ⟨hb2, ⟨hv, rfl⟩ | ⟨hv, A2, c2, rfl, ho2⟩⟩
  · have HB2 := Lib.hid (HB1.out.trans (hb2.mono HB1.out.size))
    have HV := Lib.hid hv
    clear hb2 hv HB1
    go_wp2_with fail
    refine (print_any _ A is.length c is w2 (H.out.below HB2.out (fun _ h => h)) hn (HE.out.below HB2.out)).mono ?_
    rintro e w3 ⟨hb3, ⟨_, rfl⟩ | ⟨hv3, _⟩⟩
    · have HB3 := Lib.hid (HB2.out.trans (hb3.mono HB2.out.size))
      clear hb3 HB2
      go_wp2_with fail
      go_ret
      exact ⟨rfl, HB3.out⟩
    · rw [HV.out] at hv3
      cases hv3
  · have HB2 := Lib.hid (HB1.out.trans (hb2.mono HB1.out.size))
    have HV := Lib.hid hv
    have HS2 := Lib.hid ho2
    clear hb2 hv HB1 ho2
    go_wp2_with fail
    refine (print_any _ A is.length c is w2 (H.out.below HB2.out (fun _ h => h)) hn (HE.out.below HB2.out)).mono ?_
    rintro e w3 ⟨hb3, ⟨hv3, _⟩ | ⟨_, rfl⟩⟩
    · rw [HV.out] at hv3
      cases hv3
    · have HB3 := Lib.hid (HB2.out.trans (hb3.mono HB2.out.size))
      have HS3 := Lib.hid ((Src.of_own HS2.out).lt.below hb3 (fun _ h => h))
      clear hb3 HB2 HS2
      go_wp2_with fail
      refine (decode_any _ _ _ _ (encL is) w3 HS3.out (by omega) (HE.out.below HB3.out).sh).mono ?_
      rintro e w4 ⟨hb4, hd4⟩
      have HB4 := Lib.hid (HB3.out.trans (hb4.mono HB3.out.size))
      rw [decB_enc is HV.out, decI_enc is HV.out] at hd4
      rcases hd4 with ⟨hq, _⟩ | ⟨_, A4, c4, rfl, ho4⟩
      · cases hq
      · have HO4 := Lib.hid ho4
        have HP := Lib.hid (parse_text is HV.out w4 (by omega) (HE.out.below HB4.out))
        generalize hT : textOf is = T at *
        have hw8 : wrap64 (8 * (is.length : Int)) = ((is.length * 8 : Nat) : Int) := by
          rw [IntWalk.wrap64_in _ (by omega)]
          omega
        clear hb4 ho4 HB3 HS3 hT
        go_wp2_with fail
        refine HP.out.mono ?_
        rintro e w5 ⟨hb5, A5, c5, rfl, ho5⟩
        have HB5 := Lib.hid (HB4.out.trans (hb5.mono HB4.out.size))
        have HI4 := Lib.hid ((Isl.of_own HO4.out).lt.below hb5 (fun _ h => h))
        have HI5 := Lib.hid (Isl.of_own ho5)
        have HH5 := Lib.hid (H.out.below HB5.out (fun _ h => h))
        clear hb5 ho5 HO4 HP HB4
        go_wp2_with fail
        refine (rsame_any _ _ A4 _ c4 is A _ c is _ HI4.out HH5.out (by omega)).mono ?_
        rintro e w6 ⟨rfl, hb6⟩
        have HB6 := Lib.hid (HB5.out.trans (hb6.mono HB5.out.size))
        have HI6 := Lib.hid (HI5.out.lt.below hb6 (fun _ h => h))
        have HH6 := Lib.hid (H.out.below HB6.out (fun _ h => h))
        have hdd : decide (is = is) = true := by simp
        clear hb6 HI4 HI5 HH5
        go_wp2_with fail
        refine (rsame_any _ _ A5 _ c5 is A _ c is _ HI6.out HH6.out (by omega)).mono ?_
        rintro e w7 ⟨rfl, hb7⟩
        have HB7 := Lib.hid (HB6.out.trans (hb7.mono HB6.out.size))
        clear hb7
        go_wp2_with fail
        go_ret
        exact ⟨by simp, HB7.out⟩
end Go.Proofs.YtoebboimdkogpaaDoor
