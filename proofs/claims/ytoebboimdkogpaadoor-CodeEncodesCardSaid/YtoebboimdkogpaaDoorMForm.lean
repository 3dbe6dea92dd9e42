/-
  Bytes, and texts, that are read are written as they stood: the law's walk.
-/
import Derived.Test.YtoebboimdkogpaaDoorMBackL
namespace Go.Proofs.YtoebboimdkogpaaDoor
open Go.RowKit

theorem lns_le : ∀ (s : Str), (lns s).length ≤ s.length ∧ ∀ x ∈ lns s, x.length ≤ s.length
  | [] => ⟨Nat.le_refl _, by intro x hx; cases hx⟩
  | c :: l => by
    obtain ⟨h1, h2⟩ := lns_le l
    rw [lns]
    split
    · refine ⟨by simp; omega, fun x hx => ?_⟩
      rcases List.mem_cons.1 hx with rfl | hx
      · simp
      · have := h2 x hx
        simp; omega
    · split
      · refine ⟨by simp, fun x hx => ?_⟩
        have : x = [c] := by simpa using hx
        subst this
        simp
      · rename_i p ps hp
        rw [hp] at h1 h2
        refine ⟨by simp at h1 ⊢; omega, fun x hx => ?_⟩
        rcases List.mem_cons.1 hx with rfl | hx
        · have := h2 p (by simp)
          simp; omega
        · have := h2 x (by simp [hx])
          simp; omega
theorem add_str (a b : Str) (h : a.length + b.length ≤ 9223372036854775807) (w : World) : (Op.stringOp .add ⟨a.toArray⟩ ⟨b.toArray⟩).run Tryd.prog w = .ok (str (a ++ b)) w := by
  rw [run_string_add_sum w _ _ (by simpa [ByteArray.size] using h), ByteArray.mk_append_mk]
set_option maxRecDepth 100000 in
set_option maxHeartbeats 4000000 in
/-- The law's second half: a text that is read. -/
theorem form_any (A : Option Addr) (n c : Nat) (b : Str) (s : Str) (w : World) (h : Src w (fun k => k < w.heap.size) A n c (cells b)) (hn : n ≤ 1048576) (hs : s.length ≤ 1048576) (he : Env w) :
    Calls Tryd.prog 7 #[.slice A n c, str s] w fun e w' => e = .returned (.bool true) ∧ Below w.heap.size w w' := by
  have hl : b.length = n := by simpa [cells_len] using h.len
  subst hl
  have H := Lib.hid h
  have HE := Lib.hid he
  have HA := Lib.hid (awake_any w he)
  have HPA := Lib.hid (fun (w4 : World) (h4 : Below w.heap.size w w4) => parse_any s w4 (by omega) (by have := (lns_le s).1; omega) (fun x hx => by have := (lns_le s).2 x hx; omega) (he.below h4))
  have HTB := Lib.hid (fun is => text_back s is)
  have HDB := Lib.hid (dec_back b)
  have HLL := Lib.hid (decI_len _ b (Nat.le_refl _))
  have HLN := Lib.hid (lns_le s).1
  clear h he
  go_enter Tryd.func7, Tryd.ntmps7
  go_wp2_with fail
  refine HA.out.mono ?_
  rintro e w1 ⟨rfl, hb1⟩
  have HB1 := Lib.hid hb1
  clear hb1 HA
  go_wp2_with fail
  refine (decode_any _ A b.length c b w1 (H.out.below HB1.out (fun _ h => h)) (by omega) (HE.out.below HB1.out).sh).mono ?_
  rintro e w2 ⟨hb2, hd2⟩
  have HB2 := Lib.hid (HB1.out.trans (hb2.mono HB1.out.size))
  have HAD := Lib.hid (fun w' => add_str s [10] (by simp; omega) w')
  clear hb2 HB1
  rcases hd2 with ⟨hq, rfl⟩ | ⟨hq, A3, c3, rfl, ho3⟩
  · have HB9 := Lib.hid HB2.out
    clear hq HDB HB2
    go_wp2_with fail
    refine (HPA.out _ HB9.out).mono ?_
    rintro e wp ⟨hbp, ⟨is, A5, c5, hm, rfl, ho5⟩ | ⟨p, x, more, hm, _, _, rfl⟩⟩
    · have HBP := Lib.hid (HB9.out.trans (hbp.mono HB9.out.size))
      obtain ⟨hv, ht⟩ := HTB.out is hm
      have hil : is.length ≤ 1048576 := by
        have h1 := congrArg List.length hm
        have h2 := HLN.out
        simp only [List.length_map] at h1
        omega
      have HV := Lib.hid hv
      have HT := Lib.hid ht
      have HI5 := Lib.hid (Isl.of_own ho5)
      clear hbp hm ho5 hv ht HB9 HTB HPA
      go_wp2_with fail
      refine (print_any _ A5 _ c5 is wp HI5.out (by omega) (HE.out.below HBP.out)).mono ?_
      rintro e wq ⟨hbq, ⟨hv, _⟩ | ⟨_, rfl⟩⟩
      · rw [HV.out] at hv
        cases hv
      · have HBQ := Lib.hid (HBP.out.trans (hbq.mono HBP.out.size))
        clear hbq HBP HI5
        rcases HT.out with ht | ht
        · rw [ht]
          clear ht HT
          go_wp2_with fail
          go_ret
          exact ⟨by simp, HBQ.out⟩
        · rw [ht]
          have hne : (s ++ [10] == s) = false := eqb _ _ (by intro e; have := congrArg List.length e; simp at this)
          have hadd := HAD.out
          clear ht HT
          go_wp2_with fail
          go_ret
          exact ⟨by simp, HBQ.out⟩
    · have HBP := Lib.hid (HB9.out.trans (hbp.mono HB9.out.size))
      have hp1 : (1 : Int) ≤ ((p.length + 1 : Nat) : Int) := by omega
      clear hbp hm HB9 HTB HPA
      go_wp2_with fail
      go_ret
      exact ⟨by simp; omega, HBP.out⟩
  · obtain ⟨hv3, he3⟩ := HDB.out hq
    have HV3 := Lib.hid hv3
    have HE3 := Lib.hid he3
    have HI3 := Lib.hid (Isl.of_own ho3)
    have HBD := Lib.hid (show (decI b).length * 40 ≤ 140737488355328 by have := HLL.out; omega)
    clear hq hv3 he3 ho3 HDB
    go_wp2_with fail
    refine (encode_any _ A3 (decI b).length c3 (decI b) w2 HI3.out HBD.out (HE.out.below HB2.out).sh).mono ?_
    rintro e w3 ⟨hb3, ⟨hv, _⟩ | ⟨_, A4, c4, rfl, ho4⟩⟩
    · rw [HV3.out] at hv
      cases hv
    · have HB9 := Lib.hid (HB2.out.trans (hb3.mono HB2.out.size))
      rw [HE3.out] at ho4
      have hc4 := conv_string (Src.of_own ho4)
      have hc5 := conv_string (H.out.below HB9.out (fun _ h => h))
      clear hb3 ho4 HB2 HI3 HV3 HE3
      go_wp2_with fail
      refine (HPA.out _ HB9.out).mono ?_
      rintro e wp ⟨hbp, ⟨is, A5, c5, hm, rfl, ho5⟩ | ⟨p, x, more, hm, _, _, rfl⟩⟩
      · have HBP := Lib.hid (HB9.out.trans (hbp.mono HB9.out.size))
        obtain ⟨hv, ht⟩ := HTB.out is hm
        have hil : is.length ≤ 1048576 := by
          have h1 := congrArg List.length hm
          have h2 := HLN.out
          simp only [List.length_map] at h1
          omega
        have HV := Lib.hid hv
        have HT := Lib.hid ht
        have HI5 := Lib.hid (Isl.of_own ho5)
        clear hbp hm ho5 hv ht HB9 HTB HPA
        go_wp2_with fail
        refine (print_any _ A5 _ c5 is wp HI5.out (by omega) (HE.out.below HBP.out)).mono ?_
        rintro e wq ⟨hbq, ⟨hv, _⟩ | ⟨_, rfl⟩⟩
        · rw [HV.out] at hv
          cases hv
        · have HBQ := Lib.hid (HBP.out.trans (hbq.mono HBP.out.size))
          clear hbq HBP HI5
          rcases HT.out with ht | ht
          · rw [ht]
            clear ht HT
            go_wp2_with fail
            go_ret
            exact ⟨by simp, HBQ.out⟩
          · rw [ht]
            have hne : (s ++ [10] == s) = false := eqb _ _ (by intro e; have := congrArg List.length e; simp at this)
            have hadd := HAD.out
            clear ht HT
            go_wp2_with fail
            go_ret
            exact ⟨by simp, HBQ.out⟩
      · have HBP := Lib.hid (HB9.out.trans (hbp.mono HB9.out.size))
        have hp1 : (1 : Int) ≤ ((p.length + 1 : Nat) : Int) := by omega
        clear hbp hm HB9 HTB HPA
        go_wp2_with fail
        go_ret
        exact ⟨by simp; omega, HBP.out⟩
end Go.Proofs.YtoebboimdkogpaaDoor
