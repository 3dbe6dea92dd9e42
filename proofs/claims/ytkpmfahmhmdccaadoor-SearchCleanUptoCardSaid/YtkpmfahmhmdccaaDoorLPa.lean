/-
  The document's own parts of a path.
-/
import Derived.Test.YtkpmfahmhmdccaaDoorLN
namespace Go.Proofs.YtkpmfahmhmdccaaDoor.Fil
open Go.RowKit

set_option maxHeartbeats 2000000 in
set_option maxRecDepth 100000 in
theorem rparts_any (l : Str) (w : World) (hs : l.length ≤ 9223372036854775807) : Calls Tryd.prog 41 #[str l] w (Parted w (partsOf l)) := by
  by_cases h2 : 200 < l.length
  · go_enter Tryd.func41, Tryd.ntmps41
    go_wp2_with fail
    go_ret2
    refine ⟨Below.refl _ _, ?_⟩
    rw [partsOf, if_pos h2]
    rfl
  · have hpo : partsOf l = scan l [] [] := by rw [scan_eq, partsOf, if_neg h2]
    have h200 : l.length ≤ 200 := by omega
    generalize hR : scan l [] [] = R
    have HPO := Lib.hid (hpo.trans hR)
    have HR := Lib.hid hR
    obtain ⟨i0, hi0, hz0, hz1, hz2⟩ := info_parts Tryd.info_string
    clear hpo hR h2
    go_enter Tryd.func41, Tryd.ntmps41
    go_wp2_with fail
    go_loopw [4, 5, 6] (fun t4 t5 t6 wr => ∃ (i a : Nat) (out : List Str) (A : Option Addr) (c : Nat), t6 = .int .i64 i ∧ t5 = .int .i64 a ∧ t4 = .slice A out.length c ∧ a ≤ i ∧ i ≤ l.length + 1 ∧ out.length ≤ i ∧ Here l i a out ∧ Below w.heap.size w wr ∧ wr.ownsRow w.heap.size 9 1 (.slice A out.length c) out.length (strs out)) (fun _ _ t6 _ => l.length + 1 - (intOf t6).toNat)
    case atStart => exact ⟨0, 0, [], none, 0, rfl, rfl, rfl, Nat.le_refl _, by omega, Nat.le_refl _, .inl ⟨by omega, Nat.le_refl _, by simp⟩, Below.refl _ _, World.ownsRow_nil _ _ _ _⟩
    case round =>
      obtain ⟨i, a, out, A, c, rfl, rfl, rfl, hai, hil, hol, hh, hb, ho⟩ := hrel
      have HB := Lib.hid hb
      have HO := Lib.hid ho
      clear hb ho
      rcases hh with ⟨hi, _, he⟩ | ⟨hi, he⟩
      · have hcl : ((l.drop a).take (i - a)).length ≤ 200 := by simp; omega
        have hsl : ∀ w', (Instr.slice 9 (str l) (some (.int .i64 a)) (some (.int .i64 i)) none).run Tryd.prog w' = .ok (str ((l.drop a).take (i - a))) w' := by
          intro w'
          have hz : (ByteArray.mk l.toArray).size = l.length := by simp [ByteArray.size]
          have h1 : (0 : Int) ≤ (a : Int) := by omega
          have h2 : (a : Int) ≤ (i : Int) := by omega
          have h3 : (i : Int) ≤ ((ByteArray.mk l.toArray).size : Int) := by rw [hz]; omega
          rw [str, run_slice_string (w := w') 9 ⟨l.toArray⟩ .i64 .i64 a i Tryd.underlying9 h1 h2 h3, ByteArray.extract_mk]
          simp
        by_cases hne : ∃ h : i < l.length, ¬ l[i] = 47
        · obtain ⟨hlt, h47⟩ := hne
          rw [scan_at l i hlt, if_neg h47, HR.out] at he
          have hcs := cur_step l a i hai hlt
          have h47' : (((({ data := l.toArray } : ByteArray)[i]'(by simpa [ByteArray.size] using hlt)).toNat : Int) == 47) = false := by
            show (((l[i]).toNat : Int) == 47) = false
            rw [beq_eq_false_iff_ne]
            intro e
            apply h47
            apply UInt8.toNat_inj.1
            have : ((47 : UInt8).toNat : Int) = 47 := rfl
            omega
          have HL := Lib.hid (rletter_any (({ data := l.toArray } : ByteArray)[i]'(by simpa [ByteArray.size] using hlt)) wr)
          have HE := Lib.hid he
          have HCS := Lib.hid hcs
          clear he hcs hsl h47 hcl
          go_wp2_with fail
          refine HL.out.mono ?_
          rintro e w2 ⟨rfl, rfl⟩
          cases hp : pbyte (({ data := l.toArray } : ByteArray)[i]'(by simpa [ByteArray.size] using hlt)) with
          | false =>
            have he := HE.out
            rw [show pbyte l[i] = false from hp, if_neg (by decide)] at he
            go_wp2
            go_ret2
            refine ⟨HB.out, ?_⟩
            rw [HPO.out, ← he]
            rfl
          | true =>
            have he := HE.out
            rw [show pbyte l[i] = true from hp, if_pos rfl] at he
            have HE := Lib.hid he
            clear he
            go_wp2
            go_round
            case rel => exact ⟨i + 1, a, out, A, c, by go_num, rfl, rfl, by omega, by omega, by omega, .inl ⟨by omega, by omega, by rw [HCS.out, HR.out]; exact HE.out⟩, HB.out, HO.out⟩
            case measure => simp [intOf]; omega
        · have hnext : (64 < ((l.drop a).take (i - a)).length → R = none) ∧ (¬ 64 < ((l.drop a).take (i - a)).length → Here l (i + 1) (i + 1) (out ++ partsIn [(l.drop a).take (i - a)])) := by
            by_cases hlt : i < l.length
            · have h47 : l[i] = 47 := Classical.byContradiction fun h => hne ⟨hlt, h⟩
              rw [scan_at l i hlt, if_pos h47, HR.out] at he
              refine ⟨fun h => by rw [if_pos h] at he; exact he.symm, fun h => .inl ⟨by omega, Nat.le_refl _, ?_⟩⟩
              rw [if_neg h] at he
              simp only [Nat.sub_self, List.take_zero]
              rw [he, HR.out]
            · obtain rfl : i = l.length := by omega
              rw [scan_end, HR.out] at he
              refine ⟨fun h => by rw [if_pos h] at he; exact he.symm, fun h => .inr ⟨rfl, ?_⟩⟩
              rw [if_neg h] at he
              rw [he, HR.out]
          have htest : i < l.length → ∃ h : i < (ByteArray.mk l.toArray).size, (((({ data := l.toArray } : ByteArray)[i]'h).toNat : Int) == 47) = true := fun hlt => ⟨by simpa [ByteArray.size] using hlt, by
            show (((l[i]).toNat : Int) == 47) = true
            rw [Classical.byContradiction fun h => hne ⟨hlt, h⟩]
            rfl⟩
          generalize (l.drop a).take (i - a) = cur at *
          have HNX := Lib.hid hnext
          clear he hnext hne
          by_cases hlt : i < l.length
          · obtain ⟨hx, h47⟩ := htest hlt
            clear htest
            by_cases h64 : 64 < cur.length
            · have hr := HNX.out.1 h64
              subst hr
              go_wp2
              go_ret2
              refine ⟨HB.out, ?_⟩
              rw [HPO.out]
              rfl
            · have HH := Lib.hid (HNX.out.2 h64)
              cases hkp : keepPart cur
              · have hpi : out ++ partsIn [cur] = out := by simp [partsIn, hkp]
                rw [hpi] at HH
                have hor : cur = [] ∨ cur = [46] := by
                  unfold keepPart at hkp
                  by_cases h1 : cur = []
                  · exact .inl h1
                  · right
                    simpa [h1] using hkp
                clear hkp hpi HNX
                rcases hor with rfl | rfl
                all_goals
                  go_wp2
                  go_round
                  case rel => exact ⟨i + 1, i + 1, out, A, c, by go_num, by go_num, rfl, Nat.le_refl _, by omega, by omega, HH.out, HB.out, HO.out⟩
                  case measure => simp [intOf]; omega
              · have hpi : out ++ partsIn [cur] = out ++ [cur] := by simp [partsIn, hkp]
                rw [hpi] at HH
                have n1 : (cur == []) = false := by cases hh : (cur == []) <;> simp_all [keepPart]
                have n2 : (cur == [46]) = false := by cases hh : (cur == [46]) <;> simp_all [keepPart]
                have HBA := Lib.hid ((Below.refl wr.heap.size wr).alloc (Nat.le_refl _) (.cells #[str cur] 9))
                have HOA := Lib.hid (HO.out.alloc (.cells #[str cur] 9))
                have HCN := Lib.hid (cell_one_new wr (str cur) 9)
                have HSZ := Lib.hid (show (wr.alloc (.cells #[str cur] 9)).heap.size = wr.heap.size + 1 by simp)
                have hs1 := HB.out.size
                clear hkp hpi HNX
                go_wp2_with (at_builtin; refine wpList_append_src rfl (.tmp 47) (.tmp 49) 22 rfl w.heap.size 9 i0 (.string ⟨#[]⟩) 16 Tryd.underlying22 hi0 hz0 hz1 hz2 rfl (.slice A out.length c) out.length (strs out) rfl HOA.out (fun _ => True) _ 1 1 [str cur] rfl ⟨rfl, (by intro h; cases h), Nat.le_refl _, (by intro _ _ _; trivial), (by intro ad h; cases h; exact HCN.out)⟩ (by intro u hu; simp at hu; subst hu; rfl) (by simp only [maxLen]; omega) (by omega) (by have := HSZ.out; omega) ?_; intro v' w2 hown hg hat; obtain ⟨A', c', rfl⟩ := own_slice hown; have HO2 := Lib.hid hown; have HG2 := Lib.hid hg; clear hown hg hat)
                go_round
                case rel =>
                  refine ⟨i + 1, i + 1, out ++ [cur], A', c', by go_num, by go_num, by simp, Nat.le_refl _, by omega, by simp; omega, HH.out, (HB.out.trans (HBA.out.mono hs1)).grown HG2.out (by have := HSZ.out; omega) (fun j hj => (HOA.out.lt j hj).1), ?_⟩
                  simpa [strs] using HO2.out
                case measure => simp [intOf]; omega
          · clear htest
            by_cases h64 : 64 < cur.length
            · have hr := HNX.out.1 h64
              subst hr
              go_wp2
              go_ret2
              refine ⟨HB.out, ?_⟩
              rw [HPO.out]
              rfl
            · have HH := Lib.hid (HNX.out.2 h64)
              cases hkp : keepPart cur
              · have hpi : out ++ partsIn [cur] = out := by simp [partsIn, hkp]
                rw [hpi] at HH
                have hor : cur = [] ∨ cur = [46] := by
                  unfold keepPart at hkp
                  by_cases h1 : cur = []
                  · exact .inl h1
                  · right
                    simpa [h1] using hkp
                clear hkp hpi HNX
                rcases hor with rfl | rfl
                all_goals
                  go_wp2
                  go_round
                  case rel => exact ⟨i + 1, i + 1, out, A, c, by go_num, by go_num, rfl, Nat.le_refl _, by omega, by omega, HH.out, HB.out, HO.out⟩
                  case measure => simp [intOf]; omega
              · have hpi : out ++ partsIn [cur] = out ++ [cur] := by simp [partsIn, hkp]
                rw [hpi] at HH
                have n1 : (cur == []) = false := by cases hh : (cur == []) <;> simp_all [keepPart]
                have n2 : (cur == [46]) = false := by cases hh : (cur == [46]) <;> simp_all [keepPart]
                have HBA := Lib.hid ((Below.refl wr.heap.size wr).alloc (Nat.le_refl _) (.cells #[str cur] 9))
                have HOA := Lib.hid (HO.out.alloc (.cells #[str cur] 9))
                have HCN := Lib.hid (cell_one_new wr (str cur) 9)
                have HSZ := Lib.hid (show (wr.alloc (.cells #[str cur] 9)).heap.size = wr.heap.size + 1 by simp)
                have hs1 := HB.out.size
                clear hkp hpi HNX
                go_wp2_with (at_builtin; refine wpList_append_src rfl (.tmp 47) (.tmp 49) 22 rfl w.heap.size 9 i0 (.string ⟨#[]⟩) 16 Tryd.underlying22 hi0 hz0 hz1 hz2 rfl (.slice A out.length c) out.length (strs out) rfl HOA.out (fun _ => True) _ 1 1 [str cur] rfl ⟨rfl, (by intro h; cases h), Nat.le_refl _, (by intro _ _ _; trivial), (by intro ad h; cases h; exact HCN.out)⟩ (by intro u hu; simp at hu; subst hu; rfl) (by simp only [maxLen]; omega) (by omega) (by have := HSZ.out; omega) ?_; intro v' w2 hown hg hat; obtain ⟨A', c', rfl⟩ := own_slice hown; have HO2 := Lib.hid hown; have HG2 := Lib.hid hg; clear hown hg hat)
                go_round
                case rel =>
                  refine ⟨i + 1, i + 1, out ++ [cur], A', c', by go_num, by go_num, by simp, Nat.le_refl _, by omega, by simp; omega, HH.out, (HB.out.trans (HBA.out.mono hs1)).grown HG2.out (by have := HSZ.out; omega) (fun j hj => (HOA.out.lt j hj).1), ?_⟩
                  simpa [strs] using HO2.out
                case measure => simp [intOf]; omega
      · subst hi
        rw [HR.out] at he
        go_wp2
        go_ret2
        refine ⟨HB.out, ?_⟩
        rw [HPO.out, ← he]
        exact ⟨A, c, rfl, HO.out⟩
end Go.Proofs.YtkpmfahmhmdccaaDoor.Fil
