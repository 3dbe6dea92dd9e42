/-
  What a text becomes: the program's, and the document's.
-/
import Derived.Test.YtkpmfahmhmdccaaDoorTG
namespace Go.Proofs.YtkpmfahmhmdccaaDoor
open Go.RowKit

/-- What Expand hands back. -/
def Exps (o t : Str) : Ending := .returned (.tuple #[str (expE o t).1, .int .i64 (expE o t).2])
theorem exps_long {o t : Str} (h : 200 < t.length) : Exps o t = .returned (.tuple #[str [], .int .i64 2]) := by
  unfold Exps expE; rw [if_pos h]
theorem exps_no {o t : Str} (h : ¬ 200 < t.length) (he : exp o t = none) : Exps o t = .returned (.tuple #[str [], .int .i64 110]) := by
  unfold Exps expE; rw [if_neg h, he]
theorem exps_over {o t r : Str} (h : ¬ 200 < t.length) (he : exp o t = some r) (hr : 200 < r.length) : Exps o t = .returned (.tuple #[str [], .int .i64 2]) := by
  unfold Exps expE; rw [if_neg h, he]; simp only [if_pos hr]
theorem exps_ok {o t r : Str} (h : ¬ 200 < t.length) (he : exp o t = some r) (hr : ¬ 200 < r.length) : Exps o t = .returned (.tuple #[str r, .int .i64 0]) := by
  unfold Exps expE; rw [if_neg h, he]; simp only [if_neg hr]
set_option maxRecDepth 100000 in
set_option maxHeartbeats 1000000 in
theorem expand_any (t o : Str) (w : World) (ht : t.length ≤ 140737488351232) (ho : o.length ≤ 140737488351232) (hm : Ml w) :
    Calls Tryd.prog 25 #[str t, str o] w fun e w' => e = Exps o t ∧ Below w.heap.size w w' := by
  by_cases h200 : 200 < t.length
  · rw [exps_long h200]
    go_enter Tryd.func25, Tryd.ntmps25
    go_wp2
    go_ret2
    exact ⟨rfl, Below.refl _ _⟩
  · obtain ⟨p0, ps, hsp, hex⟩ := exp_pcs o t
    have hpa := pieces_any t o p0 ps w (by omega) hm hsp
    have h1 : ∀ p ∈ spl 36 t, p.length ≤ 200 := fun p hp => by have := spl_len_mem 36 t p hp; omega
    rw [hsp] at h1
    have hlen : ps.length ≤ 200 := by
      have := spl_length 36 t
      rw [hsp] at this
      simp at this
      omega
    unfold Pieces at hpa
    cases hp : pcs o ps with
    | none =>
      rw [hp] at hpa hex
      rw [exps_no h200 hex]
      have HP := Lib.hid hpa
      clear hpa hex hsp hm hp h1
      go_enter Tryd.func25, Tryd.ntmps25
      go_wp2_with fail
      refine HP.out.mono ?_
      rintro e w1 ⟨rfl, hb⟩
      go_wp2
      go_ret2
      exact ⟨rfl, hb⟩
    | some acc =>
      rw [hp] at hpa hex
      have HL := Lib.hid (pcs_len o ps acc hp)
      have hmm := pcs_mem o 140737488351232 ho (by omega) ps acc hp (fun p hq => by have := h1 p (by simp [hq]); omega)
      have HM := Lib.hid (show ∀ p ∈ p0 :: acc, p.length ≤ 140737488351232 by
        intro p hq
        rcases List.mem_cons.1 hq with rfl | hq
        · have := h1 p (by simp); omega
        · exact hmm p hq)
      have HP := Lib.hid hpa
      have HE := Lib.hid (show Exps o t = .returned (.tuple #[str (concE (p0 :: acc)).1, .int .i64 (concE (p0 :: acc)).2]) by
        by_cases hr : 200 < (p0 :: acc).flatten.length
        · rw [exps_over h200 (by rw [hex]; rfl) hr, concE, if_pos hr]
        · rw [exps_ok h200 (by rw [hex]; rfl) hr, concE, if_neg hr])
      clear hpa hex hsp hm hp h1 hmm
      rw [HE.out]
      go_enter Tryd.func25, Tryd.ntmps25
      go_wp2_with fail
      refine HP.out.mono ?_
      rintro e w1 ⟨A, c, rfl, hs, hb⟩
      have HC := Lib.hid (concat_any _ A _ c _ w1 hs (by have := HL.out; omega) HM.out)
      have HB := Lib.hid hb
      clear hs hb
      go_wp2_with fail
      refine HC.out.mono ?_
      rintro e w2 ⟨rfl, hb2⟩
      go_wp2
      go_ret2
      exact ⟨rfl, HB.out.trans (hb2.mono HB.out.size)⟩

/-- A word at a place of a text. -/
theorem at_any (s x : Str) (i : Nat) (w : World) (hi : i ≤ s.length) (hs : s.length ≤ 140737488351232) (hx : x.length ≤ 140737488351232) :
    Calls Tryd.prog 30 #[str s, .int .i64 (i : Int), str x] w fun e w' => e = .returned (.bool (x.isPrefixOf (s.drop i))) ∧ w' = w := by
  by_cases h : x.length ≤ s.length - i
  · have e : (List.take x.length (s.drop i) == x) = x.isPrefixOf (s.drop i) := by
      rw [Bool.eq_iff_iff, beq_iff_eq, List.isPrefixOf_iff_prefix, List.prefix_iff_eq_take]
      exact eq_comm
    have hsl : ∀ W, (Instr.slice 9 (str s) (some (.int .i64 (i : Int))) (some (.int .i64 ((i : Int) + (x.length : Int)))) none).run Tryd.prog W = .ok (str (List.take x.length (s.drop i))) W := by
      intro W
      have h1 : (0 : Int) ≤ (i : Int) := by omega
      have h2 : (i : Int) ≤ (i : Int) + (x.length : Int) := by omega
      have h3 : (i : Int) + (x.length : Int) ≤ ((ByteArray.mk s.toArray).size : Int) := by rw [str_size]; omega
      rw [str, run_slice_string (w := W) 9 ⟨s.toArray⟩ .i64 .i64 (i : Int) ((i : Int) + (x.length : Int)) Tryd.underlying9 h1 h2 h3, ByteArray.extract_mk, show ((i : Int) + (x.length : Int)).toNat = i + x.length by omega]
      simp
    have HE := Lib.hid e
    clear e
    go_enter Tryd.func30, Tryd.ntmps30
    go_wp2
    go_ret
    rw [HE.out]
    exact ⟨rfl, rfl⟩
  · have e : x.isPrefixOf (s.drop i) = false := by
      rw [Bool.eq_false_iff]
      intro hp
      have := pre_len hp
      rw [List.length_drop] at this
      omega
    rw [e]
    clear e
    go_enter Tryd.func30, Tryd.ntmps30
    go_wp2
    go_ret
    exact ⟨rfl, rfl⟩

theorem word_o (l : Str) : ([36, 79, 82, 73, 71, 73, 78] : Str).isPrefixOf (36 :: l) = oW.isPrefixOf l := by simp [oW, List.isPrefixOf]
theorem word_l (l : Str) : ([36, 76, 73, 66] : Str).isPrefixOf (36 :: l) = lW.isPrefixOf l := by simp [lW, List.isPrefixOf]
theorem conv_string {w : World} {P : Nat → Prop} {A : Option Addr} {n c : Nat} {l : Str} (h : Src w P A n c (Lib.byteCells l)) : (convert 59 9 (.slice A n c)).run Tryd.prog w = .ok (str l) w := by
  have hl : l.length = n := by have := h.len; simpa [byteCells_len] using this
  subst hl
  cases A with
  | none =>
    have h0 := (h.nil rfl).1
    have : l = [] := List.eq_nil_of_length_eq_zero h0
    subst this
    exact run_convert_bytes_nil w 59 5 Tryd.underlying59 Tryd.underlying5 _ _ 9 Tryd.underlying9
  | some a =>
    exact run_convert_bytes_back w 59 9 5 a c l Tryd.underlying59 Tryd.underlying5 Tryd.underlying9 fun j hj => h.at_ a rfl j _ (by simp [Lib.byteCells, hj])
set_option maxRecDepth 100000 in
set_option maxHeartbeats 2000000 in
theorem rexpand_any (t o : Str) (w : World) (ht : t.length ≤ 140737488351232) (ho : o.length ≤ 5000) :
    Calls Tryd.prog 17 #[str t, str o] w fun e w' => e = Exps o t ∧ Below w.heap.size w w' := by
  by_cases h200 : 200 < t.length
  · rw [exps_long h200]
    go_enter Tryd.func17, Tryd.ntmps17
    go_wp2
    go_ret2
    exact ⟨rfl, Below.refl _ _⟩
  · have hi0 : (Tryd.prog.info? 5).map (fun i => (i.zero, i.size, i.bytes)) = some (some (.int .u8 0), 1, 1) := by kernel_rfl
    obtain ⟨i0, hi, hz0, hz1, hz2⟩ := info_parts hi0
    have HNO := Lib.hid (exps_no (o := o) h200)
    have HOV := Lib.hid (fun r => exps_over (o := o) (r := r) h200)
    have HOK := Lib.hid (fun r => exps_ok (o := o) (r := r) h200)
    generalize Exps o t = R at *
    have hz : (ByteArray.mk t.toArray).size = t.length := str_size t
    go_enter Tryd.func17, Tryd.ntmps17
    go_wp2_with fail
    go_loopw [6, 7] (fun t6 t7 wr => ∃ (i : Nat) (acc : Str) (A : Option Addr) (c : Nat), i ≤ t.length ∧ t7 = .int .i64 (i : Int) ∧ t6 = .slice A acc.length c ∧ exp o t = (exp o (t.drop i)).map (acc ++ ·) ∧ acc.length ≤ 5000 * i ∧ wr.ownsRow w.heap.size 5 1 (.slice A acc.length c) acc.length (Lib.byteCells acc) ∧ Below w.heap.size w wr) (fun _ t7 _ => t.length - (intOf t7).toNat)
    case atStart => exact ⟨0, [], none, 0, Nat.zero_le _, rfl, rfl, by simp, by simp, World.ownsRow_nil _ _ _ _, Below.refl _ _⟩
    case round =>
      obtain ⟨i, acc, A, c, hil, rfl, rfl, hex, hacc, hown, hb⟩ := hrel
      have HO := Lib.hid hown
      have HB := Lib.hid hb
      have HE := Lib.hid hex
      clear hown hb hex
      by_cases hlt : i < t.length
      · have hdr := List.drop_eq_getElem_cons hlt
        have hbyte : ({ data := t.toArray } : ByteArray)[i]'(by rw [hz]; exact hlt) = t[i] := rfl
        generalize hx : t[i] = x at *
        rw [hdr] at HE
        have HAO := Lib.hid (fun W => at_any t [36, 79, 82, 73, 71, 73, 78] i W hil ht (by simp))
        have HAL := Lib.hid (fun W => at_any t [36, 76, 73, 66] i W hil ht (by simp))
        rw [hdr] at HAO HAL
        have hs1 := HB.out.size
        have hbl := byteCells_len acc
        by_cases h36 : x = 36
        · subst h36
          rw [word_o] at HAO
          rw [word_l] at HAL
          have HDR := Lib.hid (And.intro hdr hx)
          have hge : (t.drop (i + 1)).length = t.length - (i + 1) := List.length_drop
          generalize hr : t.drop (i + 1) = r at *
          have HR := Lib.hid hr
          clear hdr hx hr
          by_cases h1 : oW.isPrefixOf r = true
          · have hl := pre_len h1
            simp only [oW, List.length_cons, List.length_nil] at hl
            rw [h1] at HAO
            have HE2 := Lib.hid (show exp o t = (exp o (t.drop (i + 7))).map (acc ++ o ++ ·) by
              rw [HE.out, exp_o o r h1, ← HR.out, List.drop_drop, Option.map_map]
              congr 1
              funext z
              simp)
            have hli : i + 7 ≤ t.length := by omega
            clear h1 hl
            go_wp2_with fail
            refine (HAO.out _).mono ?_
            rintro e w' ⟨rfl, rfl⟩
            go_wp2_with (at_builtin; refine Lib.wpList_append_own_string _ rfl _ _ 59 9 rfl w.heap.size 5 i0 Tryd.underlying59 Tryd.underlying9 hi hz0 hz1 hz2 _ _ _ rfl HO.out ⟨o.toArray⟩ rfl ?c3 ?c4 ?c5 ?_)
            case c3 => rw [str_size]; unfold maxLen; omega
            case c4 => rw [str_size]; omega
            case c5 => omega
            intro v' w2 hown hg hat
            obtain ⟨A', c', rfl⟩ := own_slice hown
            have HO2 := Lib.hid hown
            have HG2 := Lib.hid hg
            clear hown hg hat
            go_wp2
            refine ⟨⟨i + 7, acc ++ o, A', c', by omega, by go_num, by simp, HE2.out, by simp; omega, ?_, HB.out.grown HG2.out (by omega) (fun j hj => (HO.out.lt j hj).1)⟩, by simp [intOf]; omega⟩
            rw [Lib.strCells_toArray] at HO2
            simpa [Lib.byteCells] using HO2.out
          · have h1' : oW.isPrefixOf r = false := Bool.eq_false_iff.2 h1
            rw [h1'] at HAO
            by_cases h2 : lW.isPrefixOf r = true
            · have hl := pre_len h2
              simp only [lW, List.length_cons, List.length_nil] at hl
              rw [h2] at HAL
              have HE2 := Lib.hid (show exp o t = (exp o (t.drop (i + 4))).map (acc ++ lV ++ ·) by
                rw [HE.out, exp_l o r h1' h2, ← HR.out, List.drop_drop, Option.map_map]
                congr 1
                funext z
                simp)
              have hli : i + 4 ≤ t.length := by omega
              clear h1 h1' h2 hl
              go_wp2_with fail
              refine (HAO.out _).mono ?_
              rintro e w' ⟨rfl, rfl⟩
              go_wp2_with fail
              refine (HAL.out _).mono ?_
              rintro e w' ⟨rfl, rfl⟩
              go_wp2_with (at_builtin; refine Lib.wpList_append_own_string _ rfl _ _ 59 9 rfl w.heap.size 5 i0 Tryd.underlying59 Tryd.underlying9 hi hz0 hz1 hz2 _ _ _ rfl HO.out ⟨lV.toArray⟩ rfl ?c3 ?c4 ?c5 ?_)
              case c3 => rw [str_size]; unfold maxLen; simp [lV]; omega
              case c4 => rw [str_size]; simp [lV]; omega
              case c5 => omega
              intro v' w2 hown hg hat
              obtain ⟨A', c', rfl⟩ := own_slice hown
              have HO2 := Lib.hid hown
              have HG2 := Lib.hid hg
              clear hown hg hat
              go_wp2
              refine ⟨⟨i + 4, acc ++ lV, A', c', by omega, by go_num, by simp [lV], HE2.out, by simp [lV]; omega, ?_, HB.out.grown HG2.out (by omega) (fun j hj => (HO.out.lt j hj).1)⟩, by simp [intOf]; omega⟩
              rw [Lib.strCells_toArray] at HO2
              simpa [Lib.byteCells, lV] using HO2.out
            · have h2' : lW.isPrefixOf r = false := Bool.eq_false_iff.2 h2
              rw [h2'] at HAL
              have he := HNO.out (by rw [HE.out, exp_no o r h1' h2']; rfl)
              subst he
              clear h1 h1' h2 h2'
              go_wp2_with fail
              refine (HAO.out _).mono ?_
              rintro e w' ⟨rfl, rfl⟩
              go_wp2_with fail
              refine (HAL.out _).mono ?_
              rintro e w' ⟨rfl, rfl⟩
              go_wp2
              go_ret2
              exact ⟨rfl, HB.out⟩
        · have HE2 := Lib.hid (show exp o t = (exp o (t.drop (i + 1))).map (acc ++ [x] ++ ·) by
            rw [HE.out, exp_plain o x _ h36, Option.map_map]
            congr 1
            funext z
            simp)
          have hne : ((x.toNat : Int) == 36) = false := by
            rw [beq_eq_false_iff_ne]
            intro e
            apply h36
            apply UInt8.toNat_inj.1
            show x.toNat = 36
            omega
          have HOA := Lib.hid (HO.out.alloc (.cells #[.int .u8 (x.toNat : Int)] 5))
          have HBA := Lib.hid ((Below.refl wr.heap.size wr).alloc (Nat.le_refl _) (.cells #[.int .u8 (x.toNat : Int)] 5))
          have HCN := Lib.hid (cells_new wr [.int .u8 (x.toNat : Int)] 5)
          have HSZ := Lib.hid (show (wr.alloc (.cells #[.int .u8 (x.toNat : Int)] 5)).heap.size = wr.heap.size + 1 by simp)
          have HDR := Lib.hid (And.intro hdr hx)
          clear hdr hx HAO HAL h36
          go_wp2_with (at_builtin; refine wpList_append_src rfl (.tmp 22) (.tmp 26) 59 rfl w.heap.size 5 i0 (.int .u8 0) 1 Tryd.underlying59 hi hz0 hz1 hz2 rfl (.slice A acc.length c) acc.length (Lib.byteCells acc) rfl HOA.out (fun _ => True) _ 1 1 [.int .u8 (x.toNat : Int)] rfl ⟨rfl, (by intro h; cases h), Nat.le_refl _, (by intro _ _ _; trivial), (by intro ad h; cases h; exact HCN.out)⟩ (by intro u hu; simp at hu; subst hu; rfl) (by simp only [maxLen]; omega) (by omega) (by have := HSZ.out; omega) ?_; intro v' w2 hown hg hat; obtain ⟨A', c', rfl⟩ := own_slice hown; have HO2 := Lib.hid hown; have HG2 := Lib.hid hg; clear hown hg hat)
          go_round
          case rel =>
            refine ⟨i + 1, acc ++ [x], A', c', by omega, by go_num, by simp, HE2.out, by simp; omega, ?_, (HB.out.trans (HBA.out.mono hs1)).grown HG2.out (by have := HSZ.out; omega) (fun j hj => (HOA.out.lt j hj).1)⟩
            simpa [Lib.byteCells] using HO2.out
          case measure => simp [intOf]; omega
      · obtain rfl : i = t.length := by omega
        have HX := Lib.hid (show exp o t = some acc by have := HE.out; rw [List.drop_length, exp_nil] at this; simpa using this)
        have hcv := conv_string (Src.of_own HO.out)
        by_cases hr : 200 < acc.length
        · have he := HOV.out acc HX.out hr
          subst he
          go_wp2
          go_ret2
          exact ⟨rfl, HB.out⟩
        · have he := HOK.out acc HX.out hr
          subst he
          go_wp2
          go_ret2
          exact ⟨rfl, HB.out⟩
end Go.Proofs.YtkpmfahmhmdccaaDoor
