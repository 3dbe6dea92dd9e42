/-
  Candidates: the document's, whole.
-/
import Derived.Test.YtkpmfahmhmdccaaDoorG
import Derived.Test.YtkpmfahmhmdccaaDoorF
namespace Go.Proofs.YtkpmfahmhmdccaaDoor
open Go.RowKit

def fnd (nm : Str) (kn : List (Str × Str)) : Bool := kn.any fun x => x.1 == nm
theorem cacheP_snoc (nm : Str) (x : Str × Str) : ∀ kn, cacheP nm (kn ++ [x]) = if fnd nm kn = true then cacheP nm kn else if x.1 = nm then addP x.2 else []
  | [] => by obtain ⟨a, p⟩ := x; simp [fnd, cacheP]
  | (a, p) :: kn => by
    have ih := cacheP_snoc nm x kn
    rw [List.cons_append, cacheP, cacheP, ih]
    by_cases h : a = nm
    · simp [fnd, h]
    · have hb : (a == nm) = false := by simpa using h
      rw [if_neg h, if_neg h]
      show _ = if ((a == nm) || fnd nm kn) = true then _ else _
      rw [hb, Bool.false_or]
theorem fnd_snoc (nm : Str) (x : Str × Str) (kn : List (Str × Str)) : fnd nm (kn ++ [x]) = (fnd nm kn || (x.1 == nm)) := by simp [fnd]
theorem fnd_empty (nm : Str) : ∀ kn, fnd nm kn = false → cacheP nm kn = []
  | [], _ => rfl
  | (a, p) :: kn, h => by
    simp only [fnd, List.any_cons, Bool.or_eq_false_iff] at h
    have h1 : ¬ a = nm := by simpa using h.1
    rw [cacheP, if_neg h1, fnd_empty nm kn h.2]
theorem libcat (nm : Str) : ({ data := #[47, 108, 105, 98, 47] } : ByteArray) ++ ({ data := nm.toArray } : ByteArray) = { data := (libS ++ 47 :: nm).toArray } := by
  rw [show ({ data := #[47, 108, 105, 98, 47] } : ByteArray) = ⟨[47, 108, 105, 98, 47].toArray⟩ from rfl, ByteArray.mk_append_mk]
  rfl
theorem usrcat (nm : Str) : ({ data := #[47, 117, 115, 114, 47, 108, 105, 98, 47] } : ByteArray) ++ ({ data := nm.toArray } : ByteArray) = { data := (usrS ++ 47 :: nm).toArray } := by
  rw [show ({ data := #[47, 117, 115, 114, 47, 108, 105, 98, 47] } : ByteArray) = ⟨[47, 117, 115, 114, 47, 108, 105, 98, 47].toArray⟩ from rfl, ByteArray.mk_append_mk]
  rfl
theorem exp_lib (o : Str) : expE o libS = (libS, 0) := by
  unfold expE
  rw [if_neg (by decide), exp_none o libS (by decide)]
  rfl
theorem exp_usr (o : Str) : expE o usrS = (usrS, 0) := by
  unfold expE
  rw [if_neg (by decide), exp_none o usrS (by decide)]
  rfl
theorem inD_sys (o nm : Str) : inD o nm [libS, usrS] = addP (libS ++ 47 :: nm) ++ addP (usrS ++ 47 :: nm) := by
  unfold inD inOne
  simp only [List.flatMap_cons, List.flatMap_nil, List.append_nil, exp_lib, exp_usr, if_true]
def candM (o nm : Str) (rp ps : List Str) (kn : List (Str × Str)) : List Str := inD o nm rp ++ inD o nm ps ++ cacheP nm kn
theorem candL_eq (o nm : Str) (rp ps : List Str) (kn : List (Str × Str)) : candL o nm rp ps kn = candM o nm rp ps kn ++ addP (libS ++ 47 :: nm) ++ addP (usrS ++ 47 :: nm) := by
  unfold candL candM
  rw [inD_sys, ← List.append_assoc]
theorem candM_len (o nm : Str) (rp ps : List Str) (kn : List (Str × Str)) : (candM o nm rp ps kn).length ≤ rp.length + ps.length + 1 := by
  have := inD_len o nm rp
  have := inD_len o nm ps
  have := cacheP_len nm kn
  unfold candM
  rw [List.length_append, List.length_append]
  omega
theorem candM_take {o nm : Str} {rp ps : List Str} {kn : List (Str × Str)} {k : Nat} (hk : k < kn.length) : candM o nm rp ps (kn.take (k + 1)) = if fnd nm (kn.take k) = true then candM o nm rp ps (kn.take k) else if kn[k].1 = nm then candM o nm rp ps (kn.take k) ++ addP kn[k].2 else candM o nm rp ps (kn.take k) := by
  unfold candM
  rw [List.take_succ_eq_append_getElem hk, cacheP_snoc]
  cases hf : fnd nm (kn.take k) with
  | true => rfl
  | false =>
    rw [fnd_empty nm _ hf]
    simp only [Bool.false_eq_true, if_false, List.append_nil]
    split
    · rfl
    · rw [List.append_nil]
theorem fnd_take {nm : Str} {kn : List (Str × Str)} {k : Nat} (hk : k < kn.length) : fnd nm (kn.take (k + 1)) = (fnd nm (kn.take k) || (kn[k].1 == nm)) := by
  rw [List.take_succ_eq_append_getElem hk, fnd_snoc]
theorem mul16 {a b : Nat} (h : a ≤ b) (hb : b * 16 ≤ 140737488355328) : a * 16 ≤ 140737488355328 := Nat.le_trans (Nat.mul_le_mul_right 16 h) hb
set_option maxRecDepth 100000 in
set_option maxHeartbeats 1000000 in
theorem rcands_list (Q : Nat → Prop) (o nm : Str) (A1 A2 A3 : Option Addr) (c1 c2 c3 : Nat) (rp ps : List Str) (kn : List (Str × Str)) (w : World)
    (h1 : Src w Q A1 rp.length c1 (strs rp)) (h2 : EnvIn w Q A2 A3 c2 c3 ps kn) (hQ : ∀ k, Q k → k < w.heap.size) (hf : Fits o nm rp ps kn) (lo : o.length ≤ 5000) (h0 : ¬ nm = []) (h200 : ¬ 200 < nm.length) (h47 : ¬ 47 ∈ nm) :
    Calls Tryd.prog 9 #[str nm, str o, .slice A1 rp.length c1, .agg (envA A2 A3 c2 c3 ps kn)] w (Cand w (candL o nm rp ps kn, 0)) := by
  have h0' : (nm == []) = false := by simpa using h0
  have hsz : (ByteArray.mk nm.toArray).size = nm.length := str_size nm
  have HK := Lib.hid (fun W => slashed_any nm W (by omega))
  rw [decide_eq_false h47] at HK
  have hb1 := (Below.refl w.heap.size w).alloc (Nat.le_refl _) (.cells (envA A2 A3 c2 c3 ps kn) 36)
  have hx := Bx.new w (envA A2 A3 c2 c3 ps kn) 36
  have hs1 : (w.alloc (.cells (envA A2 A3 c2 c3 ps kn) 36)).heap.size = w.heap.size + 1 := by simp
  have g1 := (h1.keep (fun k hk _ => hb1.block k (hQ k hk))).weak (Q := fun k => k < w.heap.size + 1) (fun k hk => by have := hQ k hk; omega)
  have g2 := h2.keep (fun k hk => hb1.block k (hQ k hk))
  have g3 := g2.ps.weak (Q := fun k => k < w.heap.size + 1) (fun k hk => by have := hQ k hk; omega)
  have HKN := Lib.hid (g2.kn.2.weak (Q := fun k => k < w.heap.size + 1) (fun k hk => by have := hQ k hk; omega))
  have hkc := g2.kn.2.cap
  have HF := Lib.hid hf
  have HL := Lib.hid (candL_eq o nm rp ps kn)
  have hln : nm.length ≤ 200 := Nat.le_of_not_lt h200
  have HB := Lib.hid hb1
  have HX := Lib.hid hx
  have H3 := Lib.hid g3
  have hlm := hf.len
  have hkl := hf.kl
  have HS1 := Lib.hid hs1
  have hC1 := fun (W : World) (hW : W = w.alloc (.cells (envA A2 A3 c2 c3 ps kn) 36)) => rin_any (w.heap.size + 1) o nm none A1 0 c1 rp [] W (World.ownsRow_nil _ _ _ _) (by rw [hW, hs1]; omega) (by rw [hW]; exact g1) lo hln hf.lr (mul16 (by simp; omega) hlm)
  have HC1 := Lib.hid (hC1 _ rfl)
  clear h1 h2 hb1 hx g1 g2 g3 h47 h0 hf hC1
  generalize candL o nm rp ps kn = R at *
  go_enter Tryd.func9, Tryd.ntmps9
  go_wp2_with (go_at_call 16; refine (HK.out _).mono ?_; rintro e w3 ⟨rfl, rfl⟩)
  refine HC1.out.mono ?_
  rintro e w1 ⟨A', c', rfl, ho, hb⟩
  rw [List.nil_append] at ho
  have HB1 := Lib.hid hb
  have x0 : w1.cell? ⟨w.heap.size, 0, none⟩ = some (.slice A2 ps.length c2) := (HX.out.below' hb (by omega)).c 0
  have hil := inD_len o nm rp
  have HC2 := Lib.hid (rin_any (w.heap.size + 1) o nm A' A2 c' c2 ps (inD o nm rp) w1 ho (by have := hb.size; have := HS1.out; omega) (H3.out.below hb (fun _ h => h)) lo hln HF.out.lp (mul16 (by omega) hlm))
  clear ho hb HC1
  simp only [List.nil_append]
  go_wp2_with fail
  refine HC2.out.mono ?_
  rintro e w2 ⟨A2', c2', rfl, ho, hb⟩
  have HB2 := Lib.hid (HB1.out.trans hb)
  have HO2 := Lib.hid ho
  clear ho hb HC2 x0 HB1 H3
  go_wp2_with fail
  go_loopw [13, 14, 15] (fun t13 t14 t15 wr => ∃ (k : Nat) (A' : Option Addr) (c' : Nat), k ≤ kn.length ∧ t15 = .int .i64 (k : Int) ∧ t14 = .bool (fnd nm (kn.take k)) ∧ t13 = .slice A' (candM o nm rp ps (kn.take k)).length c' ∧ wr.ownsRow (w.heap.size + 1) 9 1 (.slice A' (candM o nm rp ps (kn.take k)).length c') (candM o nm rp ps (kn.take k)).length (strs (candM o nm rp ps (kn.take k))) ∧ Below (w.heap.size + 1) (w.alloc (.cells (envA A2 A3 c2 c3 ps kn) 36)) wr) (fun _ _ t _ => kn.length - (intOf t).toNat)
  case atStart =>
    refine ⟨0, A2', c2', Nat.zero_le _, rfl, rfl, ?_, ?_, HB2.out⟩
    · simp [candM, cacheP]
    · have : candM o nm rp ps (kn.take 0) = inD o nm rp ++ inD o nm ps := by simp [candM, cacheP]
      rw [this]
      exact HO2.out
  case round =>
    obtain ⟨k, A', c', hk, rfl, rfl, rfl, ho, hb⟩ := hrel
    have HO := Lib.hid ho
    have HW := Lib.hid hb
    have x1 : wr.cell? ⟨w.heap.size, 1, none⟩ = some (.slice A3 kn.length c3) := (HX.out.below' hb (by omega)).c 1
    have hmlen := candM_len o nm rp ps (kn.take k)
    have hws : w.heap.size + 1 ≤ wr.heap.size := by have := hb.size; have := HS1.out; omega
    clear ho
    by_cases hlt : k < kn.length
    · obtain ⟨ad, rfl⟩ : ∃ ad, A3 = some ad := by
        cases A3 with
        | none => have := (HKN.out.nil rfl).1; omega
        | some ad => exact ⟨ad, rfl⟩
      have hel := HKN.out.below hb (fun _ h => h)
      obtain ⟨b, of, rfl⟩ := hel.plain (by omega) rfl
      have e0 : wr.cell? ⟨b, of + k * 2, none⟩ = some (str kn[k].1) := hel.get k hlt 0 (str kn[k].1) (by rw [kn_get hlt]; rfl)
      have e1 : wr.cell? ⟨b, of + k * 2 + 1, none⟩ = some (str kn[k].2) := hel.get k hlt 1 (str kn[k].2) (by rw [kn_get hlt]; rfl)
      have hpl := (HF.out.lk kn[k] (List.getElem_mem _)).2
      have HT := Lib.hid (candM_take (o := o) (nm := nm) (rp := rp) (ps := ps) hlt)
      have HN := Lib.hid (fnd_take (nm := nm) hlt)
      generalize candM o nm rp ps (kn.take k) = M at *
      generalize fnd nm (kn.take k) = f at *
      generalize kn[k] = x at *
      obtain ⟨a, p⟩ := x
      simp only at *
      have HPT := Lib.hid (rput_any (w.heap.size + 1) A' c' M p wr HO.out hws hpl (mul16 (by omega) hlm))
      clear hel hb
      by_cases ha : a = nm
      · have hab : (a == nm) = true := by simpa using ha
        cases f
        · have HI := Lib.hid (show candM o nm rp ps (kn.take (k + 1)) = M ++ addP p by rw [HT.out, if_neg (by decide), if_pos ha])
          have HN2 := Lib.hid (show fnd nm (kn.take (k + 1)) = true by rw [HN.out, hab]; rfl)
          clear HT HN ha
          go_wp2_with (go_at_call 20; refine HPT.out.mono ?_; rintro e w4 ⟨A4, c4, rfl, ho4, hb4⟩; have HO4 := Lib.hid ho4; have HB4 := Lib.hid (HW.out.trans hb4); clear ho4 hb4)
          go_roundw
          case rel => exact ⟨k + 1, A4, c4, by omega, by go_num, by rw [HN2.out], by rw [HI.out, List.length_append], by rw [HI.out]; exact HO4.out, HB4.out⟩
          case measure => simp [intOf]; omega
        · have HI := Lib.hid (show candM o nm rp ps (kn.take (k + 1)) = M by rw [HT.out, if_pos rfl])
          have HN2 := Lib.hid (show fnd nm (kn.take (k + 1)) = true by rw [HN.out]; rfl)
          clear HT HN ha
          go_wp2_with fail
          go_roundw
          case rel => exact ⟨k + 1, A', c', by omega, by go_num, by rw [HN2.out], by rw [HI.out], by rw [HI.out]; exact HO.out, HW.out⟩
          case measure => simp [intOf]; omega
      · have hab : (a == nm) = false := by simpa using ha
        have HI := Lib.hid (show candM o nm rp ps (kn.take (k + 1)) = M by rw [HT.out, if_neg ha, ite_self])
        have HN2 := Lib.hid (show fnd nm (kn.take (k + 1)) = f by rw [HN.out, hab, Bool.or_false])
        clear HT HN ha
        go_wp2_with fail
        go_roundw
        case rel => exact ⟨k + 1, A', c', by omega, by go_num, by rw [HN2.out], by rw [HI.out], by rw [HI.out]; exact HO.out, HW.out⟩
        case measure => simp [intOf]; omega
    · obtain rfl : k = kn.length := by omega
      rw [List.take_length] at *
      have HL2 := Lib.hid HL.out
      generalize candM o nm rp ps kn = M at *
      have HP1 := Lib.hid (rput_any (w.heap.size + 1) A' c' M (libS ++ 47 :: nm) wr HO.out hws (by simp; omega) (mul16 (by omega) hlm))
      have hl1 := addP_len (libS ++ 47 :: nm)
      have HBW := Lib.hid (HB.out.trans (hb.mono (Nat.le_succ _)))
      clear hb
      go_wp2_with (fail)
      rw [libcat]
      refine HP1.out.mono ?_
      rintro e w4 ⟨A4, c4, rfl, ho4, hb4⟩
      have hs4 := hb4.size
      have hm2 : (M ++ addP (libS ++ 47 :: nm)).length + 1 ≤ rp.length + ps.length + 10 := by rw [List.length_append]; omega
      generalize M ++ addP (libS ++ 47 :: nm) = M2 at *
      have HP2 := Lib.hid (rput_any (w.heap.size + 1) A4 c4 M2 (usrS ++ 47 :: nm) w4 ho4 (by omega) (by simp; omega) (mul16 hm2 hlm))
      have HB4 := Lib.hid (HBW.out.trans (hb4.mono (Nat.le_succ _)))
      clear ho4 hb4 HP1
      go_wp2_with (fail)
      rw [usrcat]
      refine HP2.out.mono ?_
      rintro e w5 ⟨A5, c5, rfl, ho5, hb5⟩
      rw [← HL.out] at ho5 ⊢
      have HB5 := Lib.hid (HB4.out.trans (hb5.mono (Nat.le_succ _)))
      have HO5 := Lib.hid (own_more ho5 (Nat.le_succ w.heap.size))
      clear ho5 hb5
      go_wp2
      go_ret2
      exact ⟨A5, c5, rfl, HO5.out, HB5.out⟩
end Go.Proofs.YtkpmfahmhmdccaaDoor
