/-
  The document's own paths: absolute ones, places as texts, Clean and Within.
-/
import Derived.Test.YtkpmfahmhmdccaaDoorLPa
import Derived.Test.YtkpmfahmhmdccaaDoorLE
namespace Go.Proofs.YtkpmfahmhmdccaaDoor.Fil
open Go.RowKit

theorem head_is (l : Str) (h : 0 < (ByteArray.mk l.toArray).size) : (((({ data := l.toArray } : ByteArray)[0]'h).toNat : Int) == 47) = isAbs l := by
  cases l with
  | nil => simp [ByteArray.size] at h
  | cons c r =>
    show ((c.toNat : Int) == 47) = _
    rw [Bool.eq_iff_iff, isAbs_iff, beq_iff_eq, List.head?_cons, Option.some.injEq, ← UInt8.toNat_inj]
    have : (47 : UInt8).toNat = 47 := rfl
    omega
set_option maxRecDepth 100000 in
theorem rabs_any (l : Str) (w : World) (hs : l.length ≤ 9223372036854775807) : Calls Tryd.prog 31 #[str l] w (Parted w (absParts l)) := by
  have hu : absParts l = if isAbs l then partsOf l else none := rfl
  have HP := Lib.hid (rparts_any l w hs)
  by_cases h0 : l = []
  · have h0' : (l == []) = true := by simpa using h0
    have h1 : absParts l = none := by rw [h0]; rfl
    rw [h1]
    clear hu h1 h0
    go_enter Tryd.func31, Tryd.ntmps31
    go_wp2
    go_ret2
    exact ⟨Below.refl _ _, rfl⟩
  · have h0' : (l == []) = false := by simpa using h0
    have hsz : 0 < l.length := List.length_pos_iff.2 h0
    have hsz' : 0 < (ByteArray.mk l.toArray).size := by simpa [ByteArray.size] using hsz
    have hh := head_is l hsz'
    clear h0
    cases hab : isAbs l with
    | true =>
      rw [hab] at hu hh
      rw [hu, if_pos rfl]
      clear hu
      go_enter Tryd.func31, Tryd.ntmps31
      go_wp2_with fail
      refine HP.out.mono ?_
      rintro e w1 ⟨hb, ho⟩
      have HB := Lib.hid hb
      clear hb
      cases hpo : partsOf l with
      | none =>
        rw [hpo] at ho
        simp only at ho
        subst ho
        go_wp2
        go_ret2
        refine ⟨HB.out, ?_⟩
        rw [hpo]
        rfl
      | some ps =>
        rw [hpo] at ho
        obtain ⟨A, c, rfl, ho⟩ := ho
        have HO := Lib.hid ho
        clear ho
        go_wp2
        go_ret2
        refine ⟨HB.out, ?_⟩
        rw [hpo]
        exact ⟨A, c, rfl, HO.out⟩
    | false =>
      rw [hab] at hu hh
      rw [hu, if_neg (by decide)]
      clear hu
      go_enter Tryd.func31, Tryd.ntmps31
      go_wp2
      go_ret2
      exact ⟨Below.refl _ _, rfl⟩

/-- A slice of texts that a call hands on. -/
def Hands (w : World) (ps : List Str) (e : Ending) (w' : World) : Prop := ∃ A c, e = .returned (.slice A ps.length c) ∧ Txt w' A c ps ∧ Below w.heap.size w w'
theorem rabove_any (A : Option Addr) (c : Nat) (ps : List Str) (w : World) (h : Txt w A c ps) : Calls Tryd.prog 32 #[.slice A ps.length c] w (Hands w ps.dropLast) := by
  have hlim := h.lim
  have hcap := h.src.cap
  rcases (show ps = [] ∨ ∃ qs z, ps = qs ++ [z] from (List.eq_nil_or_concat ps).imp id (fun ⟨qs, z, h⟩ => ⟨qs, z, by rw [h, List.concat_eq_append]⟩)) with rfl | ⟨qs, z, rfl⟩
  · have HT := Lib.hid h
    clear h
    go_enter Tryd.func32, Tryd.ntmps32
    go_wp2
    go_ret
    exact ⟨A, c, rfl, HT.out, Below.refl _ _⟩
  · rw [List.dropLast_concat]
    have hnl : (qs ++ [z]).length = qs.length + 1 := by simp
    rw [hnl] at hcap ⊢
    have hT : Txt w A c qs := ⟨⟨by simp [strs], fun hA => by have := h.src.nil hA; rw [hnl] at this; omega, by omega, fun ad hA h0 => h.src.blk ad hA (by rw [hnl]; omega), fun ad hA j u hu => h.src.at_ ad hA j u (by
      rw [strs_app, List.getElem?_append_left (List.getElem?_eq_some_iff.1 hu).1]; exact hu)⟩, h.plain, h.lim⟩
    have hsl : ∀ w', (Instr.slice 22 (.slice A (qs.length + 1) c) none (some (.int .i64 qs.length)) none).run Tryd.prog w' = .ok (.slice A qs.length c) w' := by
      intro w'
      have hz : (sizeOf (Tryd.prog.elem 22)).run Tryd.prog w' = .ok 1 w' := by kernel_rfl
      rw [run_slice_h (w := w') 22 A (qs.length + 1) c (by kernel_rfl) .i64 qs.length (by omega) (by omega), hz]
      simp only [Result.andThen, sliced]
      cases A with
      | none => simp
      | some ad => split <;> simp [Addr.add]
    have HT := Lib.hid hT
    clear h hT
    go_enter Tryd.func32, Tryd.ntmps32
    go_wp2
    go_ret
    exact ⟨A, c, rfl, HT.out, Below.refl _ _⟩

set_option maxRecDepth 100000 in
theorem runder_any (A : Option Addr) (c : Nat) (ps : List Str) (p : Str) (w : World) (h : Txt w A c ps) (hn : ps.length ≤ 1000000) : Calls Tryd.prog 33 #[.slice A ps.length c, str p] w (Hands w (ps ++ [p])) := by
  obtain ⟨i0, hi0, hz0, hz1, hz2⟩ := info_parts Tryd.info_string
  have HT := Lib.hid h
  have h1 := strs_one ps
  clear h
  go_enter Tryd.func33, Tryd.ntmps33
  go_wp2_with (first
    | (at_builtin; refine wpList_append_src rfl (.tmp 6) (.tmp 7) 22 rfl w.heap.size 9 i0 (.string ⟨#[]⟩) 16 Tryd.underlying22 hi0 hz0 hz1 hz2 rfl (.slice none 0 0) 0 [] rfl (World.ownsRow_nil _ _ _ _) _ A ps.length c (strs ps) rfl HT.out.src h1 (by simp only [maxLen]; omega) (by omega) (Nat.le_refl _) ?_; intro v' w1 hown hg hat; obtain ⟨A1, c1, rfl⟩ := own_slice hown; rw [Nat.zero_add, List.nil_append] at hown; have HO := Lib.hid hown; have HG := Lib.hid hg; have HOA := Lib.hid (hown.alloc (.cells #[str p] 9)); have HCN := Lib.hid (cell_one_new w1 (str p) 9); have HSZ := Lib.hid (show (w1.alloc (.cells #[str p] 9)).heap.size = w1.heap.size + 1 by simp); have HGS := Lib.hid hg.size; clear hown hg hat h1)
    | (at_builtin; refine wpList_append_src rfl (.tmp 9) (.tmp 11) 22 rfl w.heap.size 9 i0 (.string ⟨#[]⟩) 16 Tryd.underlying22 hi0 hz0 hz1 hz2 rfl (.slice A1 ps.length c1) ps.length (strs ps) rfl HOA.out (fun _ => True) _ 1 1 [str p] rfl ⟨rfl, (by intro h; cases h), Nat.le_refl _, (by intro _ _ _; trivial), (by intro ad h; cases h; exact HCN.out)⟩ (by intro u hu; simp at hu; subst hu; rfl) (by simp only [maxLen]; omega) (by omega) (by have := HSZ.out; have := HGS.out; omega) ?_; intro v' w2 hown hg hat; obtain ⟨A2, c2, rfl⟩ := own_slice hown; have HO2 := Lib.hid hown; have HG2 := Lib.hid hg; clear hown hg hat))
  go_ret
  have e : (ps ++ [p]).length = ps.length + 1 := by simp
  have ho : w2.ownsRow w.heap.size 9 1 (.slice A2 (ps ++ [p]).length c2) (ps ++ [p]).length (strs (ps ++ [p])) := by
    rw [e, strs_app]
    exact HO2.out
  refine ⟨A2, c2, by rw [e]; rfl, Txt.of_own ho, ?_⟩
  have hb1 : Below w.heap.size w w1 := (Below.refl _ _).grown HG.out (Nat.le_refl _) (fun j hj => by cases hj)
  exact (hb1.alloc hb1.size (.cells #[str p] 9)).grown HG2.out (by have := HSZ.out; have := HGS.out; omega) (fun j hj => (HOA.out.lt j hj).1)

/-- A place's text, by and by. -/
theorem T_snoc (at_ : List Str) (p : Str) : at_.flatMap (fun p => (47 : UInt8) :: p) ++ 47 :: p = (at_ ++ [p]).flatMap (fun p => 47 :: p) := by simp
set_option maxRecDepth 100000 in
theorem rtext_any (A : Option Addr) (c : Nat) (ps : List Str) (w : World) (h : Txt w A c ps) (hn : ps.length ≤ 1000000) (hp : ∀ p ∈ ps, p.length ≤ 1000000) : Calls Tryd.prog 34 #[.slice A ps.length c] w fun e w' => e = .returned (str (T ps)) ∧ w = w' := by
  by_cases h0 : ps = []
  · subst h0
    go_enter Tryd.func34, Tryd.ntmps34
    go_wp2
    go_ret
    exact ⟨rfl, rfl⟩
  · have hpos : 0 < ps.length := List.length_pos_iff.2 h0
    have HT := Lib.hid h
    have HP := Lib.hid hp
    have HU := Lib.hid (show T ps = ps.flatMap (fun p => 47 :: p) by rw [T, if_neg h0])
    clear h hp h0
    go_enter Tryd.func34, Tryd.ntmps34
    go_wp2_with fail
    go_loop [3, 4] (fun t3 t4 => ∃ k : Nat, k ≤ ps.length ∧ t4 = .int .i64 k ∧ t3 = str ((ps.take k).flatMap (fun p => 47 :: p)) ∧ ((ps.take k).flatMap (fun p => (47 : UInt8) :: p)).length ≤ 1000001 * k) (fun _ t4 => ps.length - (intOf t4).toNat)
    case atStart => exact ⟨0, Nat.zero_le _, rfl, rfl, by simp⟩
    case round =>
      obtain ⟨k, hk, rfl, rfl, hlen⟩ := hrel
      by_cases hlt : k < ps.length
      · obtain ⟨ad, rfl⟩ : ∃ ad, A = some ad := by
          cases A with
          | none => have := HT.out.src.nil rfl; omega
          | some ad => exact ⟨ad, rfl⟩
        have hcell : w.cell? (ad.add k) = some (str ps[k]) := HT.out.src.at_ ad rfl k _ (by simp [strs, hlt])
        have hq := HP.out ps[k] (List.getElem_mem _)
        have htk : (ps.take (k + 1)).flatMap (fun p => (47 : UInt8) :: p) = (ps.take k).flatMap (fun p => 47 :: p) ++ 47 :: ps[k] := by
          rw [List.take_succ_eq_append_getElem hlt, T_snoc]
        have HTK := Lib.hid htk
        generalize (ps.take k).flatMap (fun p => (47 : UInt8) :: p) = a at *
        generalize ps[k] = q at *
        clear htk
        go_wp2
        go_round
        case rel =>
          refine ⟨k + 1, by omega, by go_num, ?_, by rw [HTK.out]; simp; omega⟩
          rw [HTK.out, str, show ({ data := #[47] } : ByteArray) = ⟨[47].toArray⟩ from rfl, ByteArray.mk_append_mk, ByteArray.mk_append_mk]
          rfl
        case measure => simp [intOf]; omega
      · obtain rfl : k = ps.length := by omega
        go_wp2
        go_ret
        rw [HU.out]
        exact ⟨rfl, rfl⟩

set_option maxRecDepth 100000 in
theorem rclean_any (l : Str) (w : World) (hs : l.length ≤ 9223372036854775807) : Calls Tryd.prog 18 #[str l] w fun e w' => e = .returned (.tuple #[str (clean l).1, .int .i64 (clean l).2]) ∧ Below w.heap.size w w' := by
  have HP := Lib.hid (rabs_any l w hs)
  have hc := clean_T l
  cases hpo : absParts l with
  | none =>
    rw [hpo] at hc HP
    rw [hc]
    clear hc hpo
    go_enter Tryd.func18, Tryd.ntmps18
    go_wp2_with fail
    refine HP.out.mono ?_
    rintro e w1 ⟨hb, rfl⟩
    have HB := Lib.hid hb
    clear hb
    go_wp2
    go_ret2
    exact ⟨rfl, HB.out⟩
  | some ps =>
    rw [hpo] at hc HP
    rw [hc]
    obtain ⟨_, hn, hq⟩ := absParts_ok hpo
    have HQ := Lib.hid (fun p hp => (hq p hp).1)
    have HFI := Lib.hid (absParts_fine hpo)
    clear hc hpo hq
    go_enter Tryd.func18, Tryd.ntmps18
    go_wp2_with fail
    refine HP.out.mono ?_
    rintro e w1 ⟨hb, A, c, rfl, ho⟩
    have HB := Lib.hid hb
    have HT := Lib.hid (Txt.of_own ho)
    clear hb ho HP
    go_wp2_with fail
    go_loopw [6, 7] (fun t6 t7 wr => ∃ (k : Nat) (Aa : Option Addr) (ca : Nat), k ≤ ps.length ∧ t7 = .int .i64 k ∧ t6 = .slice Aa (stack [] (ps.take k)).length ca ∧ (stack [] (ps.take k)).length ≤ k ∧ Txt wr Aa ca (stack [] (ps.take k)) ∧ Below w1.heap.size w1 wr) (fun _ t7 _ => ps.length - (intOf t7).toNat)
    case atStart => exact ⟨0, none, 0, Nat.zero_le _, rfl, rfl, Nat.le_refl _, Txt.nil _, Below.refl _ _⟩
    case round =>
      obtain ⟨k, Aa, ca, hk, rfl, rfl, hsl, hta, hbr⟩ := hrel
      have HBR := Lib.hid hbr
      have HTA := Lib.hid hta
      have hT := HT.out.below hbr
      clear hbr hta
      by_cases hlt : k < ps.length
      · obtain ⟨ad, rfl⟩ : ∃ ad, A = some ad := by
          cases A with
          | none => have := hT.src.nil rfl; omega
          | some ad => exact ⟨ad, rfl⟩
        have hcell : wr.cell? (ad.add k) = some (str ps[k]) := hT.src.at_ ad rfl k _ (by simp [strs, hlt])
        have htk : stack [] (ps.take (k + 1)) = stk (stack [] (ps.take k)) ps[k] := by
          unfold stack
          rw [List.take_succ_eq_append_getElem hlt, List.foldl_append]
          rfl
        have HTK := Lib.hid htk
        generalize stack [] (ps.take k) = a at *
        generalize ps[k] = q at *
        have HAB := Lib.hid (rabove_any Aa ca a wr HTA.out)
        have HUN := Lib.hid (runder_any Aa ca a q wr HTA.out (by omega))
        clear htk hT
        by_cases hd : q = dots
        · have HTK := Lib.hid (show stack [] (ps.take (k + 1)) = a.dropLast by rw [HTK.out, stk, if_pos hd])
          have hd' : (q == [46, 46]) = true := by simpa using hd
          clear hd
          go_wp2_with (go_at_call 32; refine HAB.out.mono ?_; rintro e w2 ⟨A2, c2, rfl, ht2, hb2⟩; have HT2 := Lib.hid ht2; have HB2 := Lib.hid hb2; clear ht2 hb2)
          go_round
          case rel => exact ⟨k + 1, A2, c2, by omega, by go_num, by rw [HTK.out]; simp, by rw [HTK.out]; simp; omega, by rw [HTK.out]; exact HT2.out, HBR.out.trans (HB2.out.mono HBR.out.size)⟩
          case measure => simp [intOf]; omega
        · have HTK := Lib.hid (show stack [] (ps.take (k + 1)) = a ++ [q] by rw [HTK.out, stk, if_neg hd])
          have hd' : (q == [46, 46]) = false := by simpa using hd
          clear hd
          go_wp2_with (go_at_call 33; refine HUN.out.mono ?_; rintro e w2 ⟨A2, c2, rfl, ht2, hb2⟩; have HT2 := Lib.hid ht2; have HB2 := Lib.hid hb2; clear ht2 hb2)
          go_round
          case rel => exact ⟨k + 1, A2, c2, by omega, by go_num, by rw [HTK.out]; simp, by rw [HTK.out]; simp; omega, by rw [HTK.out]; exact HT2.out, HBR.out.trans (HB2.out.mono HBR.out.size)⟩
          case measure => simp [intOf]; omega
      · obtain rfl : k = ps.length := by omega
        have hst : ∀ p ∈ stack [] ps, p.length ≤ 1000000 := fun p hp => by
          have hf := (walkAll_T ps [] Fine.nil HFI.out).2 p hp
          have := hf.1
          simp [part] at this
          omega
        rw [List.take_length] at *
        have HTX := Lib.hid (rtext_any Aa ca (stack [] ps) wr HTA.out (by omega) hst)
        clear hst hT
        go_wp2_with (go_at_call 34; refine HTX.out.mono ?_; rintro e w2 ⟨rfl, rfl⟩)
        go_ret2
        exact ⟨rfl, HB.out.trans (HBR.out.mono HB.out.size)⟩

theorem parts_T (at_ : List Str) (h : Fine at_) (hl : (T at_).length ≤ 200) : partsOf (T at_) = some at_ := by
  have := absParts_T at_ h hl
  unfold absParts at this
  rw [if_pos (abs_T at_)] at this
  exact this
end Go.Proofs.YtkpmfahmhmdccaaDoor.Fil
