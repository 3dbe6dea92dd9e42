/-
  Directories, one behind the other: the closure.
-/
import Derived.Test.YtkpmfahmhmdccaaDoorB
namespace Go.Proofs.YtkpmfahmhmdccaaDoor
open Go.RowKit

abbrev addF (g : Nat) : Value := .func (.func 26) #[] #[.pointer (some ⟨g, 0, none⟩)]
theorem path_cat (a nm : Str) : (({ data := a.toArray } : ByteArray) ++ ({ data := #[47] } : ByteArray)) ++ ({ data := nm.toArray } : ByteArray) = { data := (a ++ 47 :: nm).toArray } := by
  rw [show ({ data := #[47] } : ByteArray) = ⟨[47].toArray⟩ from rfl, ByteArray.mk_append_mk, ByteArray.mk_append_mk]
  simp
theorem inOne_yes {o nm d : Str} (h : (expE o d).2 = 0) : inOne o nm d = addP ((expE o d).1 ++ 47 :: nm) := if_pos h
theorem inOne_no {o nm d : Str} (h : ¬ (expE o d).2 = 0) : inOne o nm d = [] := if_neg h
set_option maxRecDepth 100000 in
set_option maxHeartbeats 2000000 in
theorem addIn_any (P Q : Nat → Prop) (o nm : Str) (A : Option Addr) (c : Nat) (ds : List Str) (g bo ba bn : Nat) (L : List Str) (w : World) (h : PB P w g L) (hm : Ml w)
    (hd : Src w Q A ds.length c (strs ds)) (hQ : ∀ k, Q k → P k) (h0 : P 0) (hbo : Bx w bo #[str o] 9) (hba : Bx w ba #[addF g] 55) (hbn : Bx w bn #[str nm] 9) (ho : P bo) (ha : P ba) (hn : P bn)
    (lo : o.length ≤ 140737488351232) (ln : nm.length ≤ 200) (ld : ∀ d ∈ ds, d.length ≤ 140737488351232) (hL : (L.length + ds.length + 1) * 16 ≤ 140737488355328) :
    Calls Tryd.prog 27 #[.slice A ds.length c, .pointer (some ⟨bo, 0, none⟩), .pointer (some ⟨ba, 0, none⟩), .pointer (some ⟨bn, 0, none⟩)] w fun e w' => e = .returned (.tuple #[]) ∧ PB P w' g (L ++ inD o nm ds) ∧ Kept P w w' := by
  have HP := Lib.hid h
  have HM := Lib.hid hm
  have HD := Lib.hid hd
  have HQ := Lib.hid hQ
  have H0 := Lib.hid h0
  have HBO := Lib.hid hbo
  have HBA := Lib.hid hba
  have HBN := Lib.hid hbn
  have HO := Lib.hid ho
  have HA := Lib.hid ha
  have HN := Lib.hid hn
  have LD := Lib.hid ld
  have hcap := hd.cap
  clear h hm hd hQ h0 hbo hba hbn ho ha hn ld
  go_enter Tryd.func27, Tryd.ntmps27
  go_wp2_with fail
  go_loopw [11] (fun t wr => ∃ k : Nat, k ≤ ds.length ∧ t = .int .i64 (k : Int) ∧ PB P wr g (L ++ inD o nm (ds.take k)) ∧ Kept P w wr) (fun t _ => ds.length - (intOf t).toNat)
  case atStart => exact ⟨0, Nat.zero_le _, rfl, by simpa [inD] using HP.out, Kept.refl _ _⟩
  case round =>
    obtain ⟨k, hk, rfl, hp, hkp⟩ := hrel
    have HPR := Lib.hid hp
    have HK := Lib.hid hkp
    clear hp hkp
    by_cases hlt : k < ds.length
    · obtain ⟨ad, rfl⟩ : ∃ ad, A = some ad := by
        cases A with
        | none => have := (HD.out.nil rfl).1; omega
        | some ad => exact ⟨ad, rfl⟩
      have hc : wr.cell? (ad.add k) = some (str ds[k]) := (HD.out.keep (fun j hj _ => HK.out.block j (HQ.out j hj))).at_ ad rfl k _ (strs_get ds k hlt)
      have ko : wr.cell? ⟨bo, 0, none⟩ = some (str o) := (HBO.out.keep (HK.out.block _ HO.out)).c 0
      have hdl := LD.out ds[k] (List.getElem_mem _)
      have HT := Lib.hid (inD_take o nm ds k hlt)
      have hln := inD_len o nm (ds.take k)
      rw [List.length_take] at hln
      have HX := Lib.hid (expand_any ds[k] o wr hdl lo (HK.out.ml HM.out H0.out))
      unfold Exps at HX
      by_cases he : (expE o ds[k]).2 = 0
      · have HI := Lib.hid (HT.out.trans (by rw [inOne_yes he]))
        have hel := expE_len o ds[k]
        rw [he] at HX
        generalize inD o nm (ds.take k) = M at *
        generalize ds[k] = d at *
        generalize (expE o d).1 = x at *
        clear he HT
        go_wp2_with (go_at_call 25; refine HX.out.mono ?_; rintro e w1 ⟨rfl, hb⟩; have HP1 := Lib.hid (HPR.out.below hb); have HK1 := Lib.hid (HK.out.trans (kept_of hb (fun k hk => (HPR.out.pr k hk).1))); have ka : w1.cell? ⟨ba, 0, none⟩ = some (addF g) := (HBA.out.keep (HK1.out.block _ HA.out)).c 0; have kn : w1.cell? ⟨bn, 0, none⟩ = some (str nm) := (HBN.out.keep (HK1.out.block _ HN.out)).c 0; clear hb)
        rw [path_cat]
        refine (add_any P (x ++ 47 :: nm) g (L ++ M) w1 (by simp; omega) HP1.out (HK1.out.ml HM.out H0.out) (by rw [List.length_append]; omega)).mono ?_
        rintro e w2 ⟨rfl, hp2, hk2⟩
        have HP2 := Lib.hid hp2
        have HK2 := Lib.hid (HK1.out.trans hk2)
        clear hp2 hk2
        go_wp2
        go_roundw
        case rel => exact ⟨k + 1, by omega, by go_num, by rw [HI.out, ← List.append_assoc]; exact HP2.out, HK2.out⟩
        case measure => simp [intOf]; omega
      · have HI := Lib.hid (HT.out.trans (by rw [inOne_no he, List.append_nil]))
        have heb : ((expE o ds[k]).2 == 0) = false := by simpa using he
        generalize inD o nm (ds.take k) = M at *
        generalize ds[k] = d at *
        generalize (expE o d).1 = x at *
        generalize (expE o d).2 = y at *
        clear he HT
        go_wp2_with (go_at_call 25; refine HX.out.mono ?_; rintro e w1 ⟨rfl, hb⟩; have HP1 := Lib.hid (HPR.out.below hb); have HK1 := Lib.hid (HK.out.trans (kept_of hb (fun k hk => (HPR.out.pr k hk).1))); clear hb)
        go_roundw
        case rel => exact ⟨k + 1, by omega, by go_num, by rw [HI.out]; exact HP1.out, HK1.out⟩
        case measure => simp [intOf]; omega
    · obtain rfl : k = ds.length := by omega
      rw [List.take_length] at HPR
      go_wp2
      go_end0
      exact ⟨rfl, HPR.out, HK.out⟩

end Go.Proofs.YtkpmfahmhmdccaaDoor
