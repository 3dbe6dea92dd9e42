/-
  The law TokenLists, walked.
-/
import Derived.Test.YtbneikfonfpdgaaDoorN
namespace Go.Proofs.YtbneikfonfpdgaaDoor
open Go.RowKit

theorem sumL_cuts (t : Str) : sumL (cuts t) ≤ t.length + 1 := by
  have h : ∀ (n : Nat) (t : Str), t.length ≤ n → sumL (cuts t) ≤ t.length + 1 := by
    intro n
    induction n with
    | zero => intro t h; rw [List.length_eq_zero_iff.1 (Nat.le_zero.1 h), cuts_nil, sumL]; omega
    | succ n ih =>
      intro t hn
      rcases spl_first 58 t with ⟨p, h1, rfl⟩ | ⟨p, r, h1, h2, h3⟩
      · have hp : ∀ x ∈ t, x ≠ 58 := mem_spl 58 t t (by rw [h1]; simp)
        rw [cuts_no t hp]
        split
        · rw [sumL]; omega
        · rw [sumL, sumL]; omega
      · have hp : ∀ x ∈ p, x ≠ 58 := mem_spl 58 t p (by rw [h1]; simp)
        subst h2
        rw [cuts_step p r hp]
        have hr : r.length ≤ n := by simp at hn; omega
        have := ih r hr
        split
        · simp; omega
        · rw [List.cons_append, List.nil_append, sumL]; simp; omega
  exact h t.length t (Nat.le_refl _)
theorem len_sumL : ∀ ps : List Str, ps.length ≤ sumL ps
  | [] => Nat.le_refl _
  | p :: ps => by have := len_sumL ps; simp only [List.length_cons, sumL]; omega
theorem take_full (ps : List Str) (k : Nat) (hk : k < ps.length) : (ps.take (k + 1)).filter full = (ps.take k).filter full ++ (if ps[k] = [] then [] else [ps[k]]) := by
  rw [List.take_succ_eq_append_getElem hk, filter_snoc]

set_option maxRecDepth 100000 in
set_option maxHeartbeats 4000000 in
theorem lists_any (t : Str) (A : Option Addr) (n c : Nat) (ps : List Str) (w : World) (ht : t.length ≤ 1048576) (h : Src w (fun k => k < w.heap.size) A n c (strs ps)) (hl : sumL ps ≤ 1048576) (hm : Ml w) :
    Calls Tryd.prog 7 #[.slice A n c, str t] w fun e w' => e = .returned (.bool true) ∧ Below w.heap.size w w' := by
  have HA := Lib.hid (awake_any w hm)
  obtain ⟨i0, hi0, hz0, hz1, hz2⟩ := info_parts (show (Tryd.prog.info? 9).map (fun i => (i.zero, i.size, i.bytes)) = some (some (.string ⟨#[]⟩), 1, 16) by kernel_rfl)
  have hlen : ps.length = n := by simpa using h.len
  have hnl : n ≤ 1048576 := by have := len_sumL ps; omega
  have HS := Lib.hid h
  have HL := Lib.hid hl
  clear h hl hm
  go_enter Tryd.func7, Tryd.ntmps7
  go_wp2_with fail
  refine HA.out.mono ?_
  rintro e w1 ⟨rfl, hb1⟩
  have HB1 := Lib.hid hb1
  have HS1 := Lib.hid (HS.out.below hb1 (fun j hj => hj))
  clear hb1
  go_wp2_with fail
  go_loopw [6, 7] (fun t6 t7 wr => ∃ (k : Nat) (A' : Option Addr) (c' : Nat), k ≤ n ∧ t7 = .int .i64 (k : Int) ∧ t6 = .slice A' ((ps.take k).filter full).length c' ∧ (∀ p ∈ ps.take k, ∀ x ∈ p, x ≠ 58) ∧ wr.ownsRow w1.heap.size 9 1 (.slice A' ((ps.take k).filter full).length c') ((ps.take k).filter full).length (strs ((ps.take k).filter full)) ∧ Below w1.heap.size w1 wr) (fun _ t7 _ => n - (intOf t7).toNat)
  case atStart => exact ⟨0, none, 0, Nat.zero_le _, rfl, rfl, by simp, World.ownsRow_nil _ _ _ _, Below.refl _ _⟩
  case round =>
    obtain ⟨k, A', c', hk, rfl, rfl, hno, hown, hb⟩ := hrel
    have HO := Lib.hid hown
    have HB := Lib.hid hb
    have HN := Lib.hid hno
    clear hown hb hno
    by_cases hkn : k < n
    · have hk' : k < ps.length := by omega
      obtain ⟨ad, rfl⟩ : ∃ ad, A = some ad := by
        cases A with
        | none => have := (HS.out.nil rfl).1; omega
        | some ad => exact ⟨ad, rfl⟩
      have hc := (HS1.out.below HB.out (fun j hj => Nat.lt_of_lt_of_le hj HB1.out.size)).at_ ad rfl k _ (strs_get ps k hk')
      have hpl : ps[k].length + 1 ≤ sumL ps := sumL_mem (List.getElem_mem _)
      have hp1 : ps[k].length ≤ 1048576 := by have := HL.out; omega
      have HT := Lib.hid (take_full ps k hk')
      have HTK := Lib.hid (List.take_succ_eq_append_getElem hk')
      have hfl : ((ps.take k).filter full).length ≤ n := by
        refine Nat.le_trans (List.length_filter_le _ _) ?_
        rw [List.length_take]; omega
      generalize hF : (ps.take k).filter full = F at *
      generalize hp : ps[k] = p at *
      have HP := Lib.hid (And.intro hF hp)
      clear hF hp hpl
      have hz : (ByteArray.mk p.toArray).size = p.length := str_size p
      go_wp2_with fail
      go_loopw [8] (fun t8 wq => ∃ j : Nat, j ≤ p.length ∧ t8 = .int .i64 (j : Int) ∧ (∀ x ∈ p.take j, x ≠ 58) ∧ wq = wr) (fun t8 _ => p.length - (intOf t8).toNat)
      case atStart => exact ⟨0, Nat.zero_le _, rfl, by simp, rfl⟩
      case round =>
        obtain ⟨j, hj, rfl, hq, rfl⟩ := hrel
        have HQ := Lib.hid hq
        clear hq
        by_cases hjl : j < p.length
        · have hbyte : ({ data := p.toArray } : ByteArray)[j]'(by rw [hz]; exact hjl) = p[j] := rfl
          have HTJ := Lib.hid (List.take_succ_eq_append_getElem hjl)
          by_cases h58 : p[j] = 58
          · rw [h58] at hbyte
            clear h58
            go_wp2
            go_ret
            exact ⟨rfl, HB1.out.trans (HB.out.mono HB1.out.size)⟩
          · have hne : ((((p[j]).toNat : Nat) : Int) == 58) = false := by
              rw [beq_eq_false_iff_ne]
              intro e
              apply h58
              apply UInt8.toNat_inj.1
              show (p[j]).toNat = 58
              omega
            have HQ2 := Lib.hid (show ∀ x ∈ p.take (j + 1), x ≠ 58 by
              rw [HTJ.out]
              intro x hx
              rcases List.mem_append.1 hx with hx | hx
              · exact HQ.out x hx
              · rw [List.mem_singleton.1 hx]; exact h58)
            clear h58
            go_wp2
            exact ⟨⟨j + 1, by omega, by go_num, HQ2.out, trivial⟩, by simp [intOf]; omega⟩
        · obtain rfl : j = p.length := by omega
          rw [List.take_of_length_le (Nat.le_refl _)] at HQ
          have HN2 := Lib.hid (show ∀ q ∈ ps.take (k + 1), ∀ x ∈ q, x ≠ 58 by
            rw [HTK.out]
            intro q hq
            rcases List.mem_append.1 hq with hq | hq
            · exact HN.out q hq
            · rw [List.mem_singleton.1 hq]; exact HQ.out)
          by_cases hpe : p = []
          · subst hpe
            rw [if_pos rfl, List.append_nil] at HT
            go_wp2
            exact ⟨⟨k + 1, A', c', by omega, by go_num, by rw [HT.out], HN2.out, by rw [HT.out]; exact HO.out, HB.out⟩, by simp [intOf]; omega⟩
          · have hpe' := empty_no hpe
            rw [if_neg hpe] at HT
            have HBA := Lib.hid ((Below.refl wr.heap.size wr).alloc (Nat.le_refl _) (.cells #[str p] 9))
            have HOA := Lib.hid (HO.out.alloc (.cells #[str p] 9))
            have HCN := Lib.hid (cell_one_new wr (str p) 9)
            have HSZ := Lib.hid (show (wr.alloc (.cells #[str p] 9)).heap.size = wr.heap.size + 1 by simp)
            have hs1 := HB.out.size
            have m1 : F.length + 1 ≤ maxLen := by simp only [maxLen]; omega
            have m2 : (F.length + 1) * 16 ≤ 140737488355328 := by omega
            clear hpe
            go_wp2_with (at_builtin; refine wpList_append_src rfl (.tmp 39) (.tmp 44) 27 rfl w1.heap.size 9 i0 (.string ⟨#[]⟩) 16 Tryd.underlying27 hi0 hz0 hz1 hz2 rfl (.slice A' F.length c') F.length (strs F) rfl HOA.out (fun _ => True) _ 1 1 [str p] rfl ⟨rfl, (by intro h; cases h), Nat.le_refl _, (by intro _ _ _; trivial), (by intro ad h; cases h; exact HCN.out)⟩ (by intro u hu; simp at hu; subst hu; rfl) m1 m2 (by have := HSZ.out; omega) ?_; intro v' w2 hown hg hat; obtain ⟨A2, c2, rfl⟩ := own_slice hown; have HO2 := Lib.hid hown; have HG2 := Lib.hid hg; clear hown hg hat)
            exact ⟨⟨k + 1, A2, c2, by omega, by go_num, by rw [HT.out]; simp, HN2.out, by rw [HT.out]; simpa [strs] using HO2.out, (HB.out.trans (HBA.out.mono hs1)).grown HG2.out (by have := HSZ.out; omega) (fun j hj => (HOA.out.lt j hj).1)⟩, by simp [intOf]; omega⟩
    · obtain rfl : k = n := by omega
      rw [List.take_of_length_le (by omega)] at HN HO
      have HW := Lib.hid (HB1.out.trans (HB.out.mono HB1.out.size))
      have hfn : (ps.filter full).length ≤ k := by
        have := List.length_filter_le full ps
        omega
      have HX := Lib.hid (cuts_jn ps HN.out)
      have HBK := Lib.hid (cuts_back t)
      have HJL := Lib.hid (jn_len t)
      have HJP := Lib.hid (show (jn ps).length ≤ 1048576 by have := jnA_sum ps []; simp at this; have := HL.out; unfold jn; omega)
      have HSC := Lib.hid (sumL_cuts t)
      have HCL := Lib.hid (cuts_len t)
      have HPW := Lib.hid ((HS1.out.below HB.out (fun j hj => Nat.lt_of_lt_of_le hj HB1.out.size)).lt)
      have HFW := Lib.hid ((Src.of_own HO.out).lt)
      rw [List.take_of_length_le (by omega)]
      have HSP := Lib.hid (psplit_any t wr (by omega))
      clear hlen
      generalize ps.filter full = F at *
      go_wp2_with fail
      refine HSP.out.mono ?_
      rintro e w2 ⟨A2, c2, rfl, ho2, hb2⟩
      have HB2 := Lib.hid (HW.out.trans (hb2.mono HW.out.size))
      have HS2 := Lib.hid ((Src.of_own ho2).lt)
      have HP2 := Lib.hid ((HPW.out.below hb2 (fun j hj => hj)).lt)
      have HF2 := Lib.hid ((HFW.out.below hb2 (fun j hj => hj)).lt)
      clear ho2 hb2
      have HJ := Lib.hid (join_any _ A2 _ c2 (cuts t) w2 HS2.out (by have := HCL.out; omega) (by have := HSC.out; omega))
      go_wp2_with fail
      refine HJ.out.mono ?_
      rintro e w3 ⟨rfl, hb3⟩
      have HB3 := Lib.hid (HB2.out.trans (hb3.mono HB2.out.size))
      have HP3 := Lib.hid ((HP2.out.below hb3 (fun j hj => hj)).lt)
      have HF3 := Lib.hid ((HF2.out.below hb3 (fun j hj => hj)).lt)
      clear hb3
      have HJ3 := Lib.hid (join_any _ A k c ps w3 HP3.out (by omega) (by have := HL.out; omega))
      go_wp2_with fail
      refine HJ3.out.mono ?_
      rintro e w4 ⟨rfl, hb4⟩
      have HB4 := Lib.hid (HB3.out.trans (hb4.mono HB3.out.size))
      have HF4 := Lib.hid ((HF3.out.below hb4 (fun j hj => hj)).lt)
      clear hb4
      have HS5 := Lib.hid (psplit_any (jn ps) w4 (by have := HJP.out; omega))
      rw [HX.out] at HS5
      generalize jn ps = jp at *
      go_wp2_with fail
      refine HS5.out.mono ?_
      rintro e w5 ⟨A5, c5, rfl, ho5, hb5⟩
      have HB5 := Lib.hid (HB4.out.trans (hb5.mono HB4.out.size))
      have HF5 := Lib.hid ((HF4.out.below hb5 (fun j hj => hj)).lt)
      have HX5 := Lib.hid ((Src.of_own ho5).lt)
      clear ho5 hb5
      have HSY := Lib.hid (same_yes _ _ A5 A' F.length c5 c' F w5 HX5.out HF5.out (by omega))
      go_wp2_with fail
      refine HSY.out.mono ?_
      rintro e w6 ⟨rfl, hb6⟩
      have HB6 := Lib.hid (HB5.out.trans (hb6.mono HB5.out.size))
      clear hb6
      have HS7 := Lib.hid (psplit_any (jn (cuts t)) w6 (by have := HJL.out; omega))
      rw [HBK.out] at HS7
      have HJE := Lib.hid (Eq.refl (jn (cuts t)))
      have hjl := HJL.out
      go_wp2_with fail
      refine HS7.out.mono ?_
      rintro e w7 ⟨A7, c7, rfl, ho7, hb7⟩
      have HB7 := Lib.hid (HB6.out.trans (hb7.mono HB6.out.size))
      have HX7 := Lib.hid ((Src.of_own ho7).lt)
      clear ho7 hb7
      have HJ8 := Lib.hid (join_any _ A7 _ c7 (cuts t) w7 HX7.out (by have := HCL.out; omega) (by have := HSC.out; omega))
      go_wp2_with fail
      refine HJ8.out.mono ?_
      rintro e w8 ⟨rfl, hb8⟩
      have HB8 := Lib.hid (HB7.out.trans (hb8.mono HB7.out.size))
      clear hb8
      generalize jn (cuts t) = jt at *
      go_wp2
      go_ret
      refine ⟨?_, HB8.out⟩
      simp
end Go.Proofs.YtbneikfonfpdgaaDoor
