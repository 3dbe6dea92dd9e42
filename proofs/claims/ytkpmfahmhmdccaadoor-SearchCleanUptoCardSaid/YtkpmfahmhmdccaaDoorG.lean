/-
  Candidates: the document's.
-/
import Derived.Test.YtkpmfahmhmdccaaDoorA
import Derived.Deep.Cut
namespace Go.Proofs.YtkpmfahmhmdccaaDoor
open Go.RowKit

set_option maxRecDepth 100000 in
set_option maxHeartbeats 1000000 in
theorem rput_any (B : Nat) (A : Option Addr) (c : Nat) (L : List Str) (p : Str) (w : World) (ho : w.ownsRow B 9 1 (.slice A L.length c) L.length (strs L)) (hB : B ≤ w.heap.size) (hp : p.length ≤ 140737488351232) (hL : (L.length + 1) * 16 ≤ 140737488355328) :
    Calls Tryd.prog 20 #[.slice A L.length c, str p] w fun e w' => ∃ A' c', e = .returned (.slice A' (L ++ addP p).length c') ∧ w'.ownsRow B 9 1 (.slice A' (L ++ addP p).length c') (L ++ addP p).length (strs (L ++ addP p)) ∧ Below B w w' := by
  have HC := Lib.hid (rclean_any p w (by omega))
  have HO := Lib.hid ho
  clear ho
  rcases clean_zero p with h0 | h0
  · have HA := Lib.hid (addP_yes h0)
    rw [h0] at HC
    generalize (Fil.clean p).1 = q at *
    clear h0
    obtain ⟨i0, hi0, hz0, hz1, hz2⟩ := info_parts Fil.Tryd.info_string
    have m1 : L.length + 1 ≤ maxLen := by simp only [maxLen]; omega
    go_enter Tryd.func20, Tryd.ntmps20
    go_wp2_with fail
    refine HC.out.mono ?_
    rintro e w1 ⟨rfl, hb⟩
    have HO1 := Lib.hid (Fil.own_below HO.out hb)
    have HB := Lib.hid (hb.mono hB)
    have hs1 := hb.size
    clear hb HC HO
    have HBA := Lib.hid ((Below.refl w1.heap.size w1).alloc (Nat.le_refl _) (.cells #[str q] 9))
    have HOA := Lib.hid (HO1.out.alloc (.cells #[str q] 9))
    have HCN := Lib.hid (cells_new w1 [str q] 9)
    have HSZ := Lib.hid (show (w1.alloc (.cells #[str q] 9)).heap.size = w1.heap.size + 1 by simp)
    go_wp2_with (at_builtin; refine wpList_append_src rfl (.tmp 15) (.tmp 17) 22 rfl B 9 i0 (.string ⟨#[]⟩) 16 Tryd.underlying22 hi0 hz0 hz1 hz2 rfl (.slice A L.length c) L.length (strs L) rfl HOA.out (fun _ => True) _ 1 1 [str q] rfl ⟨rfl, (by intro h; cases h), Nat.le_refl _, (by intro _ _ _; trivial), (by intro ad h; cases h; exact HCN.out)⟩ (by intro u hu; simp at hu; subst hu; rfl) m1 hL (by have := HSZ.out; omega) ?_; intro v' w2 hown hg hat; obtain ⟨A', c', rfl⟩ := own_slice hown; have HO2 := Lib.hid hown; have HG2 := Lib.hid hg; clear hown hg hat)
    go_ret
    have hpl : (L ++ addP p).length = L.length + 1 := by rw [HA.out]; simp
    refine ⟨A', c', by rw [hpl]; rfl, ?_, ?_⟩
    · rw [hpl, HA.out, strs_app]
      exact HO2.out
    · exact (HB.out.trans (HBA.out.mono (by omega))).grown HG2.out (by have := HSZ.out; omega) (fun j hj => (HOA.out.lt j hj).1)
  · have HA := Lib.hid (addP_no (p := p) (by rw [h0]; decide))
    rw [h0] at HC
    generalize (Fil.clean p).1 = q at *
    clear h0
    go_enter Tryd.func20, Tryd.ntmps20
    go_wp2_with fail
    refine HC.out.mono ?_
    rintro e w1 ⟨rfl, hb⟩
    have HO1 := Lib.hid (Fil.own_below HO.out hb)
    have HB := Lib.hid (hb.mono hB)
    clear hb HC HO
    go_wp2
    go_ret
    rw [HA.out, List.append_nil]
    exact ⟨A, c, rfl, HO1.out, HB.out⟩
theorem rpath_cat (a nm : Str) : (({ data := a.toArray } : ByteArray) ++ ({ data := #[47] } : ByteArray)) ++ ({ data := nm.toArray } : ByteArray) = { data := (a ++ 47 :: nm).toArray } := by
  rw [show ({ data := #[47] } : ByteArray) = ⟨[47].toArray⟩ from rfl, ByteArray.mk_append_mk, ByteArray.mk_append_mk]
  simp
theorem one_yes {o nm d : Str} (h : (expE o d).2 = 0) : inOne o nm d = addP ((expE o d).1 ++ 47 :: nm) := if_pos h
theorem one_no {o nm d : Str} (h : ¬ (expE o d).2 = 0) : inOne o nm d = [] := if_neg h
set_option maxRecDepth 100000 in
set_option maxHeartbeats 2000000 in
theorem rin_any (B : Nat) (o nm : Str) (A D : Option Addr) (c d : Nat) (ds L : List Str) (w : World) (hw : w.ownsRow B 9 1 (.slice A L.length c) L.length (strs L)) (hB : B ≤ w.heap.size)
    (hd : Src w (fun k => k < B) D ds.length d (strs ds)) (lo : o.length ≤ 5000) (ln : nm.length ≤ 200) (ld : ∀ d ∈ ds, d.length ≤ 140737488351232) (hL : (L.length + ds.length + 1) * 16 ≤ 140737488355328) :
    Calls Tryd.prog 19 #[.slice A L.length c, str nm, str o, .slice D ds.length d] w fun e w' => ∃ A' c', e = .returned (.slice A' (L ++ inD o nm ds).length c') ∧ w'.ownsRow B 9 1 (.slice A' (L ++ inD o nm ds).length c') (L ++ inD o nm ds).length (strs (L ++ inD o nm ds)) ∧ Below B w w' := by
  have HO := Lib.hid hw
  have HD := Lib.hid hd
  have LD := Lib.hid ld
  have hcap := hd.cap
  clear hw hd ld
  go_enter Tryd.func19, Tryd.ntmps19
  go_wp2_with fail
  go_loopw [0, 9] (fun t0 t wr => ∃ (k : Nat) (A' : Option Addr) (c' : Nat), k ≤ ds.length ∧ t = .int .i64 (k : Int) ∧ t0 = .slice A' (L ++ inD o nm (ds.take k)).length c' ∧ wr.ownsRow B 9 1 (.slice A' (L ++ inD o nm (ds.take k)).length c') (L ++ inD o nm (ds.take k)).length (strs (L ++ inD o nm (ds.take k))) ∧ Below B w wr) (fun _ t _ => ds.length - (intOf t).toNat)
  case atStart => exact ⟨0, A, c, Nat.zero_le _, rfl, by simp [inD], by simpa [inD] using HO.out, Below.refl _ _⟩
  case round =>
    obtain ⟨k, A', c', hk, rfl, rfl, ho, hb⟩ := hrel
    have HR := Lib.hid ho
    have HB := Lib.hid hb
    clear ho hb
    by_cases hlt : k < ds.length
    · obtain ⟨ad, rfl⟩ : ∃ ad, D = some ad := by
        cases D with
        | none => have := (HD.out.nil rfl).1; omega
        | some ad => exact ⟨ad, rfl⟩
      have hc : wr.cell? (ad.add k) = some (str ds[k]) := (HD.out.below HB.out (fun j hj => hj)).at_ ad rfl k _ (strs_get ds k hlt)
      have hdl := LD.out ds[k] (List.getElem_mem _)
      have HT := Lib.hid (inD_take o nm ds k hlt)
      have hln := inD_len o nm (ds.take k)
      rw [List.length_take] at hln
      have HX := Lib.hid (rexpand_any ds[k] o wr hdl lo)
      unfold Exps at HX
      have hs := HB.out.size
      by_cases he : (expE o ds[k]).2 = 0
      · have HI := Lib.hid (HT.out.trans (by rw [one_yes he]))
        have hel := expE_len o ds[k]
        rw [he] at HX
        have hml : (L ++ inD o nm (ds.take k)).length ≤ L.length + k := by rw [List.length_append]; omega
        have hassoc : ∀ M : List Str, (L ++ inD o nm (ds.take k)) ++ M = L ++ (inD o nm (ds.take k) ++ M) := fun M => List.append_assoc _ _ _
        have HAS := Lib.hid hassoc
        generalize hM : L ++ inD o nm (ds.take k) = M at *
        have hm1 : (M.length + 1) * 16 ≤ 140737488355328 := Nat.le_trans (Nat.mul_le_mul_right 16 (by omega)) hL
        generalize ds[k] = dd at *
        generalize (expE o dd).1 = x at *
        clear he HT hassoc hM
        go_wp2_with (go_at_call 17; refine HX.out.mono ?_; rintro e w1 ⟨rfl, hb⟩; have HO1 := Lib.hid (Fil.own_below HR.out hb); have HB1 := Lib.hid (HB.out.trans (hb.mono (Nat.le_trans hB hs))); have hs1 := hb.size; clear hb)
        rw [rpath_cat]
        refine (rput_any B A' c' M (x ++ 47 :: nm) w1 HO1.out (by omega) (by simp; omega) hm1).mono ?_
        rintro e w2 ⟨A2, c2, rfl, ho2, hb2⟩
        have HO2 := Lib.hid ho2
        have HB2 := Lib.hid (HB1.out.trans hb2)
        clear ho2 hb2
        go_wp2
        go_roundw
        case rel =>
          have e2 : L ++ inD o nm (ds.take (k + 1)) = M ++ addP (x ++ 47 :: nm) := by rw [HI.out, HAS.out]
          exact ⟨k + 1, A2, c2, by omega, by go_num, by rw [e2, List.length_append], by rw [e2]; exact HO2.out, HB2.out⟩
        case measure => simp [intOf]; omega
      · have HI := Lib.hid (HT.out.trans (by rw [one_no he, List.append_nil]))
        have heb : ((expE o ds[k]).2 == 0) = false := by simpa using he
        generalize inD o nm (ds.take k) = M at *
        generalize ds[k] = dd at *
        generalize (expE o dd).1 = x at *
        generalize (expE o dd).2 = y at *
        clear he HT
        go_wp2_with (go_at_call 17; refine HX.out.mono ?_; rintro e w1 ⟨rfl, hb⟩; have HO1 := Lib.hid (Fil.own_below HR.out hb); have HB1 := Lib.hid (HB.out.trans (hb.mono (Nat.le_trans hB hs))); clear hb)
        go_roundw
        case rel => exact ⟨k + 1, A', c', by omega, by go_num, by rw [HI.out, List.length_append], by rw [HI.out]; exact HO1.out, HB1.out⟩
        case measure => simp [intOf]; omega
    · obtain rfl : k = ds.length := by omega
      rw [List.take_length] at *
      go_wp2
      go_ret
      exact ⟨A', c', rfl, HR.out, HB.out⟩
end Go.Proofs.YtkpmfahmhmdccaaDoor
