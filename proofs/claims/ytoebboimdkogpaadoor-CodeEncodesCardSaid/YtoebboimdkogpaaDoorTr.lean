/-
  Print: the document's.
-/
import Derived.Test.YtoebboimdkogpaaDoorTp
import Derived.Test.YtoebboimdkogpaaDoorMForm
namespace Go.Proofs.YtoebboimdkogpaaDoor
open Go.RowKit

theorem args_step (i : Ins) (fs : Str) (j : Nat) (hj : j < fs.length) : argsS i (fs.take (j + 1)) = argsS i (fs.take j) ++ (32 :: wordS i fs[j]) := by
  rw [argsS, List.take_succ_eq_append_getElem hj, List.flatMap_append, List.flatMap_singleton]
  rfl
theorem args_prefix (i : Ins) (fs : Str) (j : Nat) : (argsS i (fs.take j)).length ≤ (argsS i fs).length := by
  have e : argsS i fs = argsS i (fs.take j) ++ argsS i (fs.drop j) := by
    unfold argsS
    rw [← List.flatMap_append, List.take_append_drop]
  rw [e, List.length_append]
  omega
theorem part_len (i : Ins) (h : mayB i = true) (f : UInt8) : I64 (partOf i f) ∧ (Lib.itoa (partOf i f)).length ≤ 11 := by
  obtain ⟨k, hk, hop, hs, ⟨a1, a2⟩, ⟨b1, b2⟩, ⟨c1, c2⟩, ⟨n1, n2⟩, _⟩ := may_parts h
  have ka := itoa_reg i.a a1 a2
  have kb := itoa_reg i.b b1 b2
  have kc := itoa_reg i.c c1 c2
  have kn := itoa_num i.n n1 n2
  unfold partOf
  split
  · exact ⟨⟨by omega, by omega⟩, by omega⟩
  · split
    · exact ⟨⟨by omega, by omega⟩, by omega⟩
    · split
      · exact ⟨⟨by omega, by omega⟩, by omega⟩
      · exact ⟨⟨by omega, by omega⟩, kn⟩

set_option maxRecDepth 100000 in
set_option maxHeartbeats 4000000 in
theorem rline_any (i : Ins) (w : World) (hm : mayB i = true) (he : Env w) : Calls Tryd.prog 30 #[insV i] w fun e w' => e = .returned (str (bodyOf i)) ∧ Below w.heap.size w w' := by
  obtain ⟨k, hk, hop, hs, _⟩ := may_parts hm
  have hbo : bodyOf i = (shapes[k]'hk).name ++ argsS i (formL (shapes[k]'hk)) := by unfold bodyOf; rw [hs]
  have hbl := body_len i hm
  have HN := Lib.hid (rname_in k hk)
  have hf4 := shape_len k hk
  generalize formL (shapes[k]'hk) = fs at *
  generalize (shapes[k]'hk).name = nm at *
  rw [hbo] at hbl ⊢
  rw [List.length_append] at hbl
  have HPL := Lib.hid (part_len i hm)
  have HPT := Lib.hid (fun f w1 => part_any i f w1)
  have HG := Lib.hid (show ∃ (G : Str → Str) (po : UInt8 → Int), argsS i = G ∧ partOf i = po from ⟨_, _, rfl, rfl⟩)
  obtain ⟨G, po, hG, hpo⟩ := HG.out
  have HG0 := Lib.hid (show G [] = [] by rw [← hG]; rfl)
  have HGL := Lib.hid (show ∀ j, (nm ++ G (fs.take j)).length ≤ 30 by
    intro j
    have := args_prefix i fs j
    rw [List.length_append, ← hG]
    omega)
  have HGS := Lib.hid (show ∀ j (hj : j < fs.length), G (fs.take (j + 1)) = G (fs.take j) ++ (32 :: ((if fs[j] = 110 then [] else [114]) ++ Lib.itoa (po fs[j]))) by
    intro j hj
    rw [← hG, ← hpo, args_step i fs j hj]
    rfl)
  rw [hpo] at HPL HPT
  rw [hG]
  have HX := Lib.hid (Bx.new w #[.int .i64 i.op, .int .i64 i.a, .int .i64 i.b, .int .i64 i.c, .int .i64 i.n] 35)
  have HB := Lib.hid ((Below.refl w.heap.size w).alloc (Nat.le_refl _) (.cells #[.int .i64 i.op, .int .i64 i.a, .int .i64 i.b, .int .i64 i.c, .int .i64 i.n] 35))
  have HE := Lib.hid he
  clear hbo hs hm he hbl hG hpo HG
  obtain ⟨op, a, b, c, nn⟩ := i
  simp only at hop
  subst hop
  go_enter Tryd.func30, Tryd.ntmps30
  go_wp2_with fail
  refine (HN.out _).mono ?_
  rintro e w1 ⟨rfl, rfl⟩
  clear HN
  go_wp2_with fail
  go_loopw [3, 6] (fun t3 t6 wr => ∃ j : Nat, j ≤ fs.length ∧ t6 = .int .i64 j ∧ t3 = str (nm ++ G (fs.take j)) ∧ Below w.heap.size w wr ∧ Bx wr w.heap.size #[.int .i64 (k : Int), .int .i64 a, .int .i64 b, .int .i64 c, .int .i64 nn] 35) (fun _ t6 _ => fs.length - (intOf t6).toNat)
  case atStart => exact ⟨0, Nat.zero_le _, rfl, by rw [List.take_zero, HG0.out, List.append_nil], HB.out, HX.out⟩
  case round =>
    obtain ⟨j, hj, rfl, rfl, hb, hx⟩ := hrel
    have HBR := Lib.hid hb
    have HXR := Lib.hid hx
    clear hb hx HB HX
    by_cases hjf : j < fs.length
    · have hgl := HGL.out j
      have HGJ := Lib.hid (HGS.out j hjf)
      obtain ⟨hpi, hpl⟩ := HPL.out fs[j]
      have HPI := Lib.hid hpi
      have HPJ := Lib.hid (HPT.out fs[j])
      have c0 := HXR.out.c 0
      have c1 := HXR.out.c 1
      have c2 := HXR.out.c 2
      have c3 := HXR.out.c 3
      have c4 := HXR.out.c 4
      have he : ((((⟨fs.toArray⟩ : ByteArray)[j]'(by simpa [ByteArray.size] using hjf)).toNat : Int) == 110) = (fs[j] == 110) := u8_int fs[j] 110
      generalize po fs[j] = pv at *
      generalize hTT : nm ++ G (fs.take j) = T at *
      have HTT := Lib.hid hTT
      have hadd1 := add_str T [32] (by simp; omega)
      clear hTT hpi
      by_cases hf : fs[j] = 110
      · have HNX := Lib.hid (show nm ++ G (fs.take (j + 1)) = T ++ [32] ++ Lib.itoa pv by rw [HGJ.out, if_pos hf, ← HTT.out]; simp)
        have hadd2 := add_str (T ++ [32]) (Lib.itoa pv) (by simp; omega)
        rw [beq_iff_eq.2 hf] at he
        clear hf HGJ HGS HPT HPL
        have HIA := Lib.hid (fun w5 (h : Env w5) => itoa_any pv HPI.out w5 h)
        generalize hIT : Lib.itoa pv = it at *
        clear hIT
        go_wp2_with fail
        first | (go_region_with (first
          | (go_at_call 35; (refine (HPJ.out _).mono ?_); rintro e w5 ⟨rfl, hb5⟩; have HB5 := Lib.hid (HBR.out.trans (((drew_below wr).trans hb5).mono HBR.out.size)); have HX5 := Lib.hid (HXR.out.below ((drew_below wr).trans hb5)); clear hb5)
          | (go_at_call 46; (with_reducible refine (HIA.out _ (HE.out.below HB5.out)).mono ?_); rintro e w6 ⟨rfl, hb6⟩; have HB6 := Lib.hid (HB5.out.trans (hb6.mono HB5.out.size)); have HX6 := Lib.hid (HX5.out.below hb6); clear hb6))) | fail
        all_goals
          clear HBR HXR HB5 HX5 HPJ HIA
          go_wp2_with fail
          exact ⟨⟨j + 1, by omega, by go_num, by rw [HNX.out]; simp, HB6.out, HX6.out⟩, by simp [intOf]; omega⟩
      · have HNX := Lib.hid (show nm ++ G (fs.take (j + 1)) = T ++ [32, 114] ++ Lib.itoa pv by rw [HGJ.out, if_neg hf, ← HTT.out]; simp)
        have hadd2 := add_str (T ++ [32]) [114] (by simp; omega)
        have hadd3 := add_str (T ++ [32, 114]) (Lib.itoa pv) (by simp; omega)
        rw [beq_eq_false_iff_ne.2 hf] at he
        clear hf HGJ HGS HPT HPL
        have HIA := Lib.hid (fun w5 (h : Env w5) => itoa_any pv HPI.out w5 h)
        generalize hIT : Lib.itoa pv = it at *
        clear hIT
        go_wp2_with fail
        first | (go_region_with (first
          | (go_at_call 35; (refine (HPJ.out _).mono ?_); rintro e w5 ⟨rfl, hb5⟩; have HB5 := Lib.hid (HBR.out.trans (((drew_below wr).trans hb5).mono HBR.out.size)); have HX5 := Lib.hid (HXR.out.below ((drew_below wr).trans hb5)); clear hb5)
          | (go_at_call 46; (with_reducible refine (HIA.out _ (HE.out.below HB5.out)).mono ?_); rintro e w6 ⟨rfl, hb6⟩; have HB6 := Lib.hid (HB5.out.trans (hb6.mono HB5.out.size)); have HX6 := Lib.hid (HX5.out.below hb6); clear hb6))) | fail
        all_goals
          clear HBR HXR HB5 HX5 HPJ HIA
          go_wp2_with fail
          exact ⟨⟨j + 1, by omega, by go_num, by rw [HNX.out]; simp, HB6.out, HX6.out⟩, by simp [intOf]; omega⟩
    · have hje : fs.take j = fs := List.take_of_length_le (by omega)
      rw [hje]
      clear hje
      go_wp2_with fail
      go_ret
      exact ⟨rfl, HBR.out⟩

set_option maxRecDepth 100000 in
set_option maxHeartbeats 1000000 in
theorem rprint_any (P : Nat → Prop) (A : Option Addr) (n c : Nat) (is : List Ins) (w : World) (h : Isl w P A n c is) (hn : n * 40 ≤ 140737488351232) (he : Env w) :
    Calls Tryd.prog 15 #[.slice A n c] w (Printed w is) := by
  have H := Lib.hid h.lt
  have hl := h.len
  have HE := Lib.hid he
  clear h he
  go_enter Tryd.func15, Tryd.ntmps15
  go_wp2_with fail
  go_loopw [4, 5] (fun t4 t5 wr => ∃ k : Nat, k ≤ n ∧ t5 = .int .i64 k ∧ t4 = str (textOf (is.take k)) ∧ Below w.heap.size w wr ∧ (is.take k).all mayB = true) (fun _ t5 _ => n - (intOf t5).toNat)
  case atStart => exact ⟨0, Nat.zero_le _, rfl, rfl, Below.refl _ _, rfl⟩
  case round =>
    obtain ⟨k, hk, rfl, rfl, hb, hall⟩ := hrel
    have HBR := Lib.hid hb
    have HA := Lib.hid hall
    have htl := text_len _ hall
    rw [List.length_take] at htl
    clear hb hall
    by_cases hkn : k < n
    · have hki : k < is.length := by omega
      cases A with
      | none => have := (H.out.nil rfl).1; omega
      | some ad =>
        obtain ⟨b, o, rfl⟩ := H.out.plain (by omega)
        have HC := Lib.hid (fun w1 (h1 : Below w.heap.size w w1) => (H.out.below h1 (fun _ h => h)).get k hki)
        obtain ⟨c0, c1, c2, c3, c4⟩ := HC.out _ HBR.out
        have HTK := Lib.hid (text_take is k hki)
        have HAK := Lib.hid (show (is.take (k + 1)).all mayB = mayB is[k] by
          rw [List.take_succ_eq_append_getElem hki, List.all_append, HA.out]
          simp)
        have HNO := Lib.hid (show mayB is[k] = false → is.all mayB = false by
          intro h
          rw [List.all_eq_false]
          exact ⟨_, List.getElem_mem hki, fun e => Bool.noConfusion (h.symm.trans e)⟩)
        have htl2 : (textOf (is.take k)).length ≤ 140737488351232 := by omega
        generalize textOf (is.take k) = T at *
        generalize is[k] = i at *
        have HM := Lib.hid (rmay_any i)
        have HLI := Lib.hid (fun w1 (hm : mayB i = true) (h1 : Env w1) => rline_any i w1 hm h1)
        have HLN := Lib.hid (fun (hm : mayB i = true) => body_len i hm)
        have HLE := Lib.hid (show lineOf i = bodyOf i ++ [10] from rfl)
        generalize bodyOf i = bo at *
        obtain ⟨op, a, b', c'', n'⟩ := i
        simp only at c0 c1 c2 c3 c4
        clear htl
        cases hm : mayB ⟨op, a, b', c'', n'⟩
        · rw [hm] at HM
          have HNO2 := Lib.hid (HNO.out hm)
          clear hm HTK HAK HLI HLN HNO HLE
          go_wp2_with fail
          refine (HM.out _).mono ?_
          rintro e w2 ⟨rfl, hb2⟩
          have HB2 := Lib.hid (HBR.out.trans (hb2.mono HBR.out.size))
          clear hb2
          go_wp2
          go_ret2
          exact ⟨HB2.out, .inl ⟨HNO2.out, rfl⟩⟩
        · rw [hm] at HM HAK
          have hbl := HLN.out hm
          have HLI2 := Lib.hid (fun w1 => HLI.out w1 hm)
          have hadd1 := add_str bo [10] (by simp; omega)
          have hadd2 := add_str T (bo ++ [10]) (by simp; omega)
          clear hm HNO HLI HLN
          go_wp2_with fail
          refine (HM.out _).mono ?_
          rintro e w2 ⟨rfl, hb2⟩
          have HB2 := Lib.hid (HBR.out.trans (hb2.mono HBR.out.size))
          clear hb2 c0 c1 c2 c3 c4 HM
          obtain ⟨c0, c1, c2, c3, c4⟩ := HC.out _ HB2.out
          clear HBR
          go_wp2_with fail
          refine (HLI2.out _ (HE.out.below HB2.out)).mono ?_
          rintro e w3 ⟨rfl, hb3⟩
          have HB3 := Lib.hid (HB2.out.trans (hb3.mono HB2.out.size))
          clear hb3 c0 c1 c2 c3 c4 HLI2
          go_wp2_with fail
          exact ⟨⟨k + 1, by omega, by go_num, by rw [HTK.out, HLE.out], HB3.out, HAK.out⟩, by simp [intOf]; omega⟩
    · obtain rfl : k = n := by omega
      have HTL := Lib.hid (show is.take k = is from List.take_of_length_le (by omega))
      rw [HTL.out]
      clear H htl
      go_wp2
      go_ret2
      have h2 := HA.out
      rw [HTL.out] at h2
      exact ⟨HBR.out, .inr ⟨h2, rfl⟩⟩
end Go.Proofs.YtoebboimdkogpaaDoor
