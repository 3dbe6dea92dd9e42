/-
  Parse: the document's.
-/
import Derived.Test.YtoebboimdkogpaaDoorTd
import Derived.Test.YtoebboimdkogpaaDoorMa
namespace Go.Proofs.YtoebboimdkogpaaDoor
open Go.RowKit

theorem lns_cut : ∀ (s : Str), s ≠ [] → (∃ qs, cut 10 s = qs ++ [[]] ∧ lns s = qs) ∨ (∃ qs z, cut 10 s = qs ++ [z] ∧ z ≠ [] ∧ lns s = qs ++ [z])
  | [], h => absurd rfl h
  | [c], _ => by
    by_cases hc : c = 10
    · subst hc
      exact .inl ⟨[[]], rfl, rfl⟩
    · refine .inr ⟨[], [c], ?_, by simp, ?_⟩
      · rw [cut, if_neg hc]; rfl
      · rw [lns, if_neg hc]; rfl
  | c :: d :: l, _ => by
    have ih := lns_cut (d :: l) (by simp)
    by_cases hc : c = 10
    · subst hc
      rw [cut_hit, lns, if_pos rfl]
      rcases ih with ⟨qs, h1, h2⟩ | ⟨qs, z, h1, hz, h2⟩
      · exact .inl ⟨[] :: qs, by rw [h1]; rfl, by rw [h2]⟩
      · exact .inr ⟨[] :: qs, z, by rw [h1]; rfl, hz, by rw [h2]; rfl⟩
    · obtain ⟨p, ps, h3, h4⟩ := cut_cons 10 c (d :: l) hc
      rw [h4, lns, if_neg hc]
      rcases ih with ⟨qs, h1, h2⟩ | ⟨qs, z, h1, hz, h2⟩
      · rw [h3] at h1
        cases qs with
        | nil =>
          have := join_cut 10 (d :: l) p ps h3
          injection h1 with e1 e2
          rw [e1, e2] at this
          cases this
        | cons q qs =>
          injection h1 with e1 e2
          rw [h2]
          exact .inl ⟨(c :: q) :: qs, by rw [e1, e2]; rfl, rfl⟩
      · rw [h3] at h1
        cases qs with
        | nil =>
          injection h1 with e1 e2
          rw [h2]
          exact .inr ⟨[], c :: z, by rw [e1, e2]; rfl, by simp, rfl⟩
        | cons q qs =>
          injection h1 with e1 e2
          rw [h2]
          exact .inr ⟨(c :: q) :: qs, z, by rw [e1, e2]; rfl, hz, rfl⟩

set_option maxRecDepth 100000 in
set_option maxHeartbeats 8000000 in
theorem rparse_any (s : Str) (w : World) (hs : s.length ≤ 1048576) (he : Env w) : Calls Tryd.prog 25 #[str s] w (Parsed w s) := by
  obtain ⟨i0, hi, hz0, hz1, hz2⟩ := info_parts Tryd.info_inst
  by_cases hs0 : s = []
  · subst hs0
    go_enter Tryd.func25, Tryd.ntmps25
    go_wp2_with fail
    go_ret3
    exact ⟨Below.refl _ _, .inl ⟨[], none, 0, rfl, rfl, World.ownsRow_nil _ _ _ _⟩⟩
  · have hne : (s == []) = false := eqb _ _ hs0
    have HC := Lib.hid (lns_cut s hs0)
    have HCU := Lib.hid (rcut_any s 10 w (by omega))
    have hcl := cut_length 10 s
    have HCE := Lib.hid (cut_le 10 s)
    have HE := Lib.hid he
    clear hs0 he
    generalize hL : Parsed w s = L
    have HL := Lib.hid hL
    clear hL
    generalize hLS : lns s = LS at *
    have HLS := Lib.hid hLS
    clear hLS
    generalize cut 10 s = ps at *
    rcases HC.out with ⟨qs, rfl, rfl⟩ | ⟨qs, z, hps, hz, hls⟩
    · have hlen : (LS ++ [([] : Str)]).length = LS.length + 1 := by simp
      rw [hlen] at HCU hcl
      clear HC hlen
      go_enter Tryd.func25, Tryd.ntmps25
      go_wp2_with fail
      refine HCU.out.mono ?_
      rintro e w2 ⟨A2, d2, rfl, hb2, ho2⟩
      obtain ⟨gw, rfl⟩ : ∃ g, A2 = some ⟨g, 0, none⟩ := by
        rcases ho2.2 with ⟨h1, _⟩ | ⟨g, _, _, h1, _⟩
        · cases h1
        · cases h1; exact ⟨g, rfl⟩
      have hW := (Src.of_own ho2).lt
      have hlast : w2.cell? ⟨gw, LS.length, none⟩ = some (str []) := by
        have := hW.at_ _ rfl LS.length (str []) (by simp [strs])
        rwa [plainAdd, Nat.zero_add] at this
      have hcap := hW.cap
      have hsl : ∀ w', (Instr.slice 51 (.slice (some ⟨gw, 0, none⟩) (LS.length + 1) d2) none (some (.int .i64 (LS.length : Int))) none).run Tryd.prog w' = .ok (.slice (some ⟨gw, 0, none⟩) LS.length d2) w' := by
        intro w'
        have hz : (sizeOf (Tryd.prog.elem 51)).run Tryd.prog w' = .ok 1 w' := by kernel_rfl
        rw [run_slice_h (w := w') 51 (some ⟨gw, 0, none⟩) (LS.length + 1) d2 (by kernel_rfl) .i64 (LS.length : Int) (by omega) (by omega), hz]
        simp [Result.andThen, sliced, Addr.add]
      have HWL := Lib.hid (show ∀ (k : Nat) (y : Str) (wr : World), LS[k]? = some y → Below w2.heap.size w2 wr → wr.cell? ⟨gw, k, none⟩ = some (str y) from fun k y wr hk hb => by
        have hkl := (List.getElem?_eq_some_iff.1 hk).1
        have := (hW.below hb (fun _ h => h)).at_ _ rfl k (str y) (by rw [strs_app, List.getElem?_append_left (by rw [strs_len]; exact hkl), strs, List.getElem?_map, hk]; rfl)
        rwa [plainAdd, Nat.zero_add] at this)
      have HYL := Lib.hid (show ∀ y ∈ LS, y.length ≤ 1048576 from fun y hy => Nat.le_trans (HCE.out y (by simp [hy])) hs)
      have hM : LS.length ≤ 1048576 := by omega
      have HB2 := Lib.hid hb2
      clear hW hcap ho2 hb2 HCU HCE hcl
      go_wp2_with fail
      clear hsl hlast
      generalize hMM : LS.length = M at *
      have HI1 := Lib.hid (icells_one)
      go_loopw [6, 7] (fun t6 t7 wr => ∃ (is : List Ins) (A' : Option Addr) (c' : Nat), is.length ≤ M ∧ t7 = .int .i64 is.length ∧ t6 = .slice A' is.length c' ∧ (LS.take is.length).map typedM = is.map some ∧ Below w2.heap.size w2 wr ∧ wr.ownsRow w2.heap.size 35 5 (.slice A' is.length c') is.length (icells is)) (fun _ t7 _ => M - (intOf t7).toNat)
      case atStart => exact ⟨[], none, 0, Nat.zero_le _, rfl, rfl, rfl, Below.refl _ _, World.ownsRow_nil _ _ _ _⟩
      case round =>
        obtain ⟨is, A', c', hk, rfl, rfl, hmap, hb, ho⟩ := hrel
        have HB := Lib.hid hb
        have HOW := Lib.hid ho
        have HMAP := Lib.hid hmap
        clear hb ho hmap
        by_cases hkm : is.length < M
        · have hkl : is.length < LS.length := by omega
          have hcell := HWL.out is.length LS[is.length] wr (List.getElem?_eq_getElem hkl) HB.out
          have HTK := Lib.hid (show (LS.take (is.length + 1)).map typedM = (LS.take is.length).map typedM ++ [typedM LS[is.length]] by rw [List.take_succ_eq_append_getElem hkl, List.map_append]; rfl)
          have HDR := Lib.hid (show LS = LS.take is.length ++ LS[is.length] :: LS.drop (is.length + 1) by
            conv => lhs; rw [← List.take_append_drop is.length LS, List.drop_eq_getElem_cons hkl])
          have HTY := Lib.hid (rtyped_any LS[is.length] wr (HYL.out _ (List.getElem_mem hkl)) (HE.out.below (HB2.out.trans (HB.out.mono HB2.out.size))))
          have HLK := Lib.hid (show (LS.take is.length).length = is.length by rw [List.length_take]; omega)
          generalize LS[is.length] = y at *
          generalize LS.take is.length = pre at *
          generalize LS.drop (is.length + 1) = post at *
          go_wp2_with fail
          refine HTY.out.mono ?_
          rintro e w3 ⟨hb3, i, ok, rfl, hok⟩
          obtain ⟨op, a, b, c, nn⟩ := i
          have HB3 := Lib.hid (HB.out.trans (hb3.mono HB.out.size))
          have HOK := Lib.hid hok
          cases ok
          · have hb4 := Lib.hid ((HB2.out.trans (HB3.out.mono HB2.out.size)).alloc (HB2.out.trans (HB3.out.mono HB2.out.size)).size (.cells #[.int .i64 op, .int .i64 a, .int .i64 b, .int .i64 c, .int .i64 nn] 35))
            clear hb3 hok HB HOW HTY hcell HTK HB3
            go_wp2_with fail
            go_ret3
            rw [← HL.out]
            refine ⟨hb4.out, .inr ⟨pre, y, post, by rw [HLS.out]; exact HDR.out, fun x hx => ?_, HOK.out, ?_⟩⟩
            · intro hn
              have h1 : typedM x ∈ pre.map typedM := List.mem_map_of_mem hx
              rw [HMAP.out, hn] at h1
              simp at h1
            · rw [HLK.out]
              rfl
          · have HO3 := Lib.hid (((HOW.out.kept (row := none) ⟨hb3.os, hb3.tape, hb3.output, hb3.size, fun k hk _ => hb3.block k hk⟩ (by cases A' <;> simp [Value.ownBlock])).alloc (.cells (insC ⟨op, a, b, c, nn⟩).toArray 35)).alloc (.cells (insC ⟨op, a, b, c, nn⟩).toArray 35))
            have HB4 := Lib.hid ((HB3.out.alloc HB3.out.size (.cells (insC ⟨op, a, b, c, nn⟩).toArray 35)).alloc (by have := HB3.out.size; simp; omega) (.cells (insC ⟨op, a, b, c, nn⟩).toArray 35))
            have HR := Lib.hid HO3.out.lt
            have HN := Lib.hid (cells_new (w3.alloc (.cells (insC ⟨op, a, b, c, nn⟩).toArray 35)) (insC ⟨op, a, b, c, nn⟩) 35)
            have H1 := Lib.hid (insC_one ⟨op, a, b, c, nn⟩)
            have m1 : is.length + 1 ≤ maxLen := by simp only [maxLen]; omega
            have m2 : (is.length + 1) * 40 ≤ 140737488355328 := by omega
            have HMN := Lib.hid (show (LS.take (is.length + 1)).map typedM = (is ++ [(⟨op, a, b, c, nn⟩ : Ins)]).map some by rw [HTK.out, HMAP.out, HOK.out, List.map_append]; rfl)
            have hlen1 : (is ++ [(⟨op, a, b, c, nn⟩ : Ins)]).length = is.length + 1 := by simp
            have HLEN := Lib.hid hlen1
            clear hb3 hok HB HOW HTY hcell HTK HMAP HOK HDR hlen1
            go_wp2_with (at_builtin; refine wpList_append_own_at _ rfl _ _ _ rfl w2.heap.size 35 i0 _ 5 40 Tryd.underlying22 hi hz0 hz1 hz2 rfl (by decide) (.slice A' is.length c') is.length _ rfl HO3.out ⟨w3.heap.size + 1, 0, none⟩ 1 1 (insC ⟨op, a, b, c, nn⟩) rfl rfl (by simpa using HN.out) H1.out m1 m2 HB4.out.size ?_; intro v' w4 hown' hg hnil hat; obtain ⟨A4, c4, rfl⟩ := own_slice5 hown')
            refine ⟨⟨is ++ [⟨op, a, b, c, nn⟩], A4, c4, by rw [HLEN.out]; omega, by rw [HLEN.out]; go_num, by rw [HLEN.out], by rw [HLEN.out]; exact HMN.out, HB4.out.grown hg HB4.out.size (fun k hk => (HR.out k hk).1), ?_⟩, by simp [intOf]; omega⟩
            rw [icells_app, HLEN.out]
            exact hown'
        · have hkM : is.length = M := by omega
          have HMF := Lib.hid (show LS.map typedM = is.map some by have := HMAP.out; rwa [List.take_of_length_le (by omega)] at this)
          clear HMAP hkM
          go_wp2_with fail
          go_ret3
          rw [← HL.out]
          exact ⟨HB2.out.trans (HB.out.mono HB2.out.size), .inl ⟨is, A', c', by rw [HLS.out]; exact HMF.out, rfl, own_more HOW.out HB2.out.size⟩⟩
    · have hq : LS.length = qs.length + 1 := by rw [hls]; simp
      rw [hps, ← hls] at HCU hcl HCE
      rw [hq] at HCU hcl
      have hzz : LS[qs.length]? = some z := by rw [hls]; simp
      generalize hQ : qs.length = q at *
      have hzn : (z == []) = false := eqb _ _ hz
      clear HC hls hps hQ
      go_enter Tryd.func25, Tryd.ntmps25
      go_wp2_with fail
      refine HCU.out.mono ?_
      rintro e w2 ⟨A2, d2, rfl, hb2, ho2⟩
      obtain ⟨gw, rfl⟩ : ∃ g, A2 = some ⟨g, 0, none⟩ := by
        rcases ho2.2 with ⟨h1, _⟩ | ⟨g, _, _, h1, _⟩
        · cases h1
        · cases h1; exact ⟨g, rfl⟩
      have hW := (Src.of_own ho2).lt
      have hlast : w2.cell? ⟨gw, q, none⟩ = some (str z) := by
        have := hW.at_ _ rfl q (str z) (by simp only [strs, List.getElem?_map, hzz]; rfl)
        rwa [plainAdd, Nat.zero_add] at this
      have HWL := Lib.hid (show ∀ (k : Nat) (y : Str) (wr : World), LS[k]? = some y → Below w2.heap.size w2 wr → wr.cell? ⟨gw, k, none⟩ = some (str y) from fun k y wr hk hb => by
        have := (hW.below hb (fun _ h => h)).at_ _ rfl k (str y) (by rw [strs, List.getElem?_map, hk]; rfl)
        rwa [plainAdd, Nat.zero_add] at this)
      have HYL := Lib.hid (show ∀ y ∈ LS, y.length ≤ 1048576 from fun y hy => Nat.le_trans (HCE.out y hy) hs)
      have hM : q + 1 ≤ 1048577 := by omega
      have HB2 := Lib.hid hb2
      clear hW ho2 hb2 HCU HCE hcl hzz
      go_wp2_with fail
      clear hlast hzn hz
      have hq2 := hq
      generalize q + 1 = M at *
      have HI1 := Lib.hid (icells_one)
      go_loopw [6, 7] (fun t6 t7 wr => ∃ (is : List Ins) (A' : Option Addr) (c' : Nat), is.length ≤ M ∧ t7 = .int .i64 is.length ∧ t6 = .slice A' is.length c' ∧ (LS.take is.length).map typedM = is.map some ∧ Below w2.heap.size w2 wr ∧ wr.ownsRow w2.heap.size 35 5 (.slice A' is.length c') is.length (icells is)) (fun _ t7 _ => M - (intOf t7).toNat)
      case atStart => exact ⟨[], none, 0, Nat.zero_le _, rfl, rfl, rfl, Below.refl _ _, World.ownsRow_nil _ _ _ _⟩
      case round =>
        obtain ⟨is, A', c', hk, rfl, rfl, hmap, hb, ho⟩ := hrel
        have HB := Lib.hid hb
        have HOW := Lib.hid ho
        have HMAP := Lib.hid hmap
        clear hb ho hmap
        by_cases hkm : is.length < M
        · have hkl : is.length < LS.length := by omega
          have hcell := HWL.out is.length LS[is.length] wr (List.getElem?_eq_getElem hkl) HB.out
          have HTK := Lib.hid (show (LS.take (is.length + 1)).map typedM = (LS.take is.length).map typedM ++ [typedM LS[is.length]] by rw [List.take_succ_eq_append_getElem hkl, List.map_append]; rfl)
          have HDR := Lib.hid (show LS = LS.take is.length ++ LS[is.length] :: LS.drop (is.length + 1) by
            conv => lhs; rw [← List.take_append_drop is.length LS, List.drop_eq_getElem_cons hkl])
          have HTY := Lib.hid (rtyped_any LS[is.length] wr (HYL.out _ (List.getElem_mem hkl)) (HE.out.below (HB2.out.trans (HB.out.mono HB2.out.size))))
          have HLK := Lib.hid (show (LS.take is.length).length = is.length by rw [List.length_take]; omega)
          generalize LS[is.length] = y at *
          generalize LS.take is.length = pre at *
          generalize LS.drop (is.length + 1) = post at *
          go_wp2_with fail
          refine HTY.out.mono ?_
          rintro e w3 ⟨hb3, i, ok, rfl, hok⟩
          obtain ⟨op, a, b, c, nn⟩ := i
          have HB3 := Lib.hid (HB.out.trans (hb3.mono HB.out.size))
          have HOK := Lib.hid hok
          cases ok
          · have hb4 := Lib.hid ((HB2.out.trans (HB3.out.mono HB2.out.size)).alloc (HB2.out.trans (HB3.out.mono HB2.out.size)).size (.cells #[.int .i64 op, .int .i64 a, .int .i64 b, .int .i64 c, .int .i64 nn] 35))
            clear hb3 hok HB HOW HTY hcell HTK HB3
            go_wp2_with fail
            go_ret3
            rw [← HL.out]
            refine ⟨hb4.out, .inr ⟨pre, y, post, by rw [HLS.out]; exact HDR.out, fun x hx => ?_, HOK.out, ?_⟩⟩
            · intro hn
              have h1 : typedM x ∈ pre.map typedM := List.mem_map_of_mem hx
              rw [HMAP.out, hn] at h1
              simp at h1
            · rw [HLK.out]
              rfl
          · have HO3 := Lib.hid (((HOW.out.kept (row := none) ⟨hb3.os, hb3.tape, hb3.output, hb3.size, fun k hk _ => hb3.block k hk⟩ (by cases A' <;> simp [Value.ownBlock])).alloc (.cells (insC ⟨op, a, b, c, nn⟩).toArray 35)).alloc (.cells (insC ⟨op, a, b, c, nn⟩).toArray 35))
            have HB4 := Lib.hid ((HB3.out.alloc HB3.out.size (.cells (insC ⟨op, a, b, c, nn⟩).toArray 35)).alloc (by have := HB3.out.size; simp; omega) (.cells (insC ⟨op, a, b, c, nn⟩).toArray 35))
            have HR := Lib.hid HO3.out.lt
            have HN := Lib.hid (cells_new (w3.alloc (.cells (insC ⟨op, a, b, c, nn⟩).toArray 35)) (insC ⟨op, a, b, c, nn⟩) 35)
            have H1 := Lib.hid (insC_one ⟨op, a, b, c, nn⟩)
            have m1 : is.length + 1 ≤ maxLen := by simp only [maxLen]; omega
            have m2 : (is.length + 1) * 40 ≤ 140737488355328 := by omega
            have HMN := Lib.hid (show (LS.take (is.length + 1)).map typedM = (is ++ [(⟨op, a, b, c, nn⟩ : Ins)]).map some by rw [HTK.out, HMAP.out, HOK.out, List.map_append]; rfl)
            have hlen1 : (is ++ [(⟨op, a, b, c, nn⟩ : Ins)]).length = is.length + 1 := by simp
            have HLEN := Lib.hid hlen1
            clear hb3 hok HB HOW HTY hcell HTK HMAP HOK HDR hlen1
            go_wp2_with (at_builtin; refine wpList_append_own_at _ rfl _ _ _ rfl w2.heap.size 35 i0 _ 5 40 Tryd.underlying22 hi hz0 hz1 hz2 rfl (by decide) (.slice A' is.length c') is.length _ rfl HO3.out ⟨w3.heap.size + 1, 0, none⟩ 1 1 (insC ⟨op, a, b, c, nn⟩) rfl rfl (by simpa using HN.out) H1.out m1 m2 HB4.out.size ?_; intro v' w4 hown' hg hnil hat; obtain ⟨A4, c4, rfl⟩ := own_slice5 hown')
            refine ⟨⟨is ++ [⟨op, a, b, c, nn⟩], A4, c4, by rw [HLEN.out]; omega, by rw [HLEN.out]; go_num, by rw [HLEN.out], by rw [HLEN.out]; exact HMN.out, HB4.out.grown hg HB4.out.size (fun k hk => (HR.out k hk).1), ?_⟩, by simp [intOf]; omega⟩
            rw [icells_app, HLEN.out]
            exact hown'
        · have hkM : is.length = M := by omega
          have HMF := Lib.hid (show LS.map typedM = is.map some by have := HMAP.out; rwa [List.take_of_length_le (by omega)] at this)
          clear HMAP hkM
          go_wp2_with fail
          go_ret3
          rw [← HL.out]
          exact ⟨HB2.out.trans (HB.out.mono HB2.out.size), .inl ⟨is, A', c', by rw [HLS.out]; exact HMF.out, rfl, own_more HOW.out HB2.out.size⟩⟩
end Go.Proofs.YtoebboimdkogpaaDoor
