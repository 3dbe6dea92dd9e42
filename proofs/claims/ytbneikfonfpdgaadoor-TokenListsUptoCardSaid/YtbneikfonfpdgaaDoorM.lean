/-
  The document's Split; whether texts are the same.
-/
import Derived.Test.YtbneikfonfpdgaaDoorL
import Derived.Test.YtbneikfonfpdgaaDoorH
namespace Go.Proofs.YtbneikfonfpdgaaDoor
open Go.RowKit

theorem cell_one_new (w : World) (v : Value) (t : TypeId) : ∀ j u, ([v] : List Value)[j]? = some u → (w.alloc (.cells #[v] t)).cell? ((⟨w.heap.size, 0, none⟩ : Addr).add j) = some u := cells_new w [v] t
theorem take_more (l : Str) (a i : Nat) (ha : a ≤ i) (hi : i < l.length) : (l.drop a).take (i + 1 - a) = (l.drop a).take (i - a) ++ [l[i]] := by
  have h : i - a < (l.drop a).length := by simp; omega
  rw [show i + 1 - a = (i - a) + 1 by omega, List.take_succ_eq_append_getElem h]
  congr 2
  rw [List.getElem_drop]
  congr 1
  omega
theorem cuts_at (l : Str) (a i : Nat) (ha : a ≤ i) (hi : i < l.length) (hc : l[i] = 58) (hno : ∀ x ∈ (l.drop a).take (i - a), x ≠ 58) : cuts (l.drop a) = (if (l.drop a).take (i - a) = [] then [] else [(l.drop a).take (i - a)]) ++ cuts (l.drop (i + 1)) := by
  have h : l.drop a = (l.drop a).take (i - a) ++ 58 :: l.drop (i + 1) := by
    conv => lhs; rw [← List.take_append_drop (i - a) (l.drop a)]
    rw [List.drop_drop, show a + (i - a) = i by omega, List.drop_eq_getElem_cons hi, hc]
  conv => lhs; rw [h]
  exact cuts_step _ _ hno
theorem cuts_len (s : Str) : (cuts s).length ≤ s.length + 1 := Nat.le_trans (List.length_filter_le _ _) (spl_length 58 s)

set_option maxHeartbeats 2000000 in
set_option maxRecDepth 100000 in
theorem rsplit_any (l : Str) (w : World) (hs : l.length ≤ 1000000000000) :
    Calls Tryd.prog 14 #[str l] w fun e w' => ∃ A d, e = .returned (.slice A (cuts l).length d) ∧ w'.ownsRow w.heap.size 9 1 (.slice A (cuts l).length d) (cuts l).length (strs (cuts l)) ∧ Below w.heap.size w w' := by
  obtain ⟨i0, hi0, hz0, hz1, hz2⟩ := info_parts (show (Tryd.prog.info? 9).map (fun i => (i.zero, i.size, i.bytes)) = some (some (.string ⟨#[]⟩), 1, 16) by kernel_rfl)
  have hcl := cuts_len l
  generalize hR : cuts l = R at *
  have HR := Lib.hid hR
  clear hR
  have hz : (ByteArray.mk l.toArray).size = l.length := by simp [ByteArray.size]
  go_enter Tryd.func14, Tryd.ntmps14
  go_wp2_with fail
  go_loopw [3, 4, 5] (fun t3 t4 t5 wr => ∃ (i a : Nat) (out : List Str) (A : Option Addr) (d : Nat), t5 = .int .i64 (i : Int) ∧ t4 = .int .i64 (a : Int) ∧ t3 = .slice A out.length d ∧ a ≤ i ∧ i ≤ l.length + 1 ∧ R = out ++ cuts (l.drop a) ∧ (i ≤ l.length → ∀ x ∈ (l.drop a).take (i - a), x ≠ 58) ∧ (i = l.length + 1 → a = l.length + 1) ∧ Below w.heap.size w wr ∧ wr.ownsRow w.heap.size 9 1 (.slice A out.length d) out.length (strs out)) (fun _ _ t5 _ => l.length + 1 - (intOf t5).toNat)
  case atStart => exact ⟨0, 0, [], none, 0, rfl, rfl, rfl, Nat.le_refl _, Nat.zero_le _, HR.out.symm, by simp, by omega, Below.refl _ _, World.ownsRow_nil _ _ _ _⟩
  case round =>
    obtain ⟨i, a, out, A, d, rfl, rfl, rfl, hai, hil, hRe, hno, hend, hb, ho⟩ := hrel
    have HB := Lib.hid hb
    have HO := Lib.hid ho
    have HRE := Lib.hid hRe
    have hol : out.length ≤ l.length + 1 := by
      have := congrArg List.length hRe
      rw [List.length_append] at this
      omega
    have HN := Lib.hid hno
    clear hb ho hRe hno
    by_cases hle : i ≤ l.length
    · have HNO := Lib.hid (HN.out hle)
      clear HN hend
      -- whether a part ends here
      by_cases hstop : i = l.length ∨ ∃ h : i < l.length, l[i] = 58
      · have hcur : cuts (l.drop a) = (if (l.drop a).take (i - a) = [] then [] else [(l.drop a).take (i - a)]) ++ cuts (l.drop (i + 1)) := by
          rcases hstop with rfl | ⟨h, hc⟩
          · rw [List.drop_of_length_le (i := l.length + 1) (by omega), cuts_nil, List.append_nil]
            have h1 := HNO.out
            rw [List.take_of_length_le (by simp)] at h1 ⊢
            exact cuts_no _ h1
          · exact cuts_at l a i hai h hc HNO.out
        have hemp : (l.drop a).take (i - a) = [] ↔ i = a := by
          rw [← List.length_eq_zero_iff, List.length_take, List.length_drop]
          omega
        have hsl : ∀ w', (Instr.slice 9 (str l) (some (.int .i64 a)) (some (.int .i64 i)) none).run Tryd.prog w' = .ok (str ((l.drop a).take (i - a))) w' := by
          intro w'
          have h1 : (0 : Int) ≤ (a : Int) := by omega
          have h2 : (a : Int) ≤ (i : Int) := by omega
          have h3 : (i : Int) ≤ ((ByteArray.mk l.toArray).size : Int) := by rw [hz]; omega
          rw [str, run_slice_string (w := w') 9 ⟨l.toArray⟩ .i64 .i64 a i Tryd.underlying9 h1 h2 h3, ByteArray.extract_mk]
          simp
        have HNX := Lib.hid (show R = (out ++ (if (l.drop a).take (i - a) = [] then [] else [(l.drop a).take (i - a)])) ++ cuts (l.drop (i + 1)) by rw [HRE.out, hcur, List.append_assoc])
        generalize (l.drop a).take (i - a) = cur at *
        have HBA := Lib.hid ((Below.refl wr.heap.size wr).alloc (Nat.le_refl _) (.cells #[str cur] 9))
        have HOA := Lib.hid (HO.out.alloc (.cells #[str cur] 9))
        have HCN := Lib.hid (cell_one_new wr (str cur) 9)
        have HSZ := Lib.hid (show (wr.alloc (.cells #[str cur] 9)).heap.size = wr.heap.size + 1 by simp)
        have HS := Lib.hid hstop
        have HE := Lib.hid hemp
        have hs1 := HB.out.size
        have m1 : out.length + 1 ≤ maxLen := by simp only [maxLen]; omega
        have m2 : (out.length + 1) * 16 ≤ 140737488355328 := by omega
        have ht : (i < l.length ∧ ∀ h : i < l.length, (((({ data := l.toArray } : ByteArray)[i]'(by rw [hz]; exact h)).toNat : Int) == 58) = true) ∨ i = l.length := by
          rcases hstop with rfl | ⟨h, hc⟩
          · exact .inr rfl
          · refine .inl ⟨h, fun _ => ?_⟩
            show (((l[i]).toNat : Int) == 58) = true
            rw [hc]; rfl
        clear hcur hstop hemp HRE HNO
        rcases ht with ⟨hlt, h47⟩ | hiL
        · have h48 := h47 hlt
          clear h47
          by_cases hia : i = a
          · have hce := HE.out.2 hia
            rw [if_pos hce, List.append_nil] at HNX
            subst hia
            clear HE hce hai
            go_wp2
            exact ⟨⟨i + 1, i + 1, out, A, d, by go_num, by go_num, rfl, Nat.le_refl _, by omega, HNX.out, by simp, by omega, HB.out, HO.out⟩, by simp [intOf]; omega⟩
          · have hce : ¬ cur = [] := fun e => hia (HE.out.1 e)
            rw [if_neg hce] at HNX
            have hlt2 : a < i := by omega
            clear HE hce hia
            go_wp2_with (at_builtin; refine wpList_append_src rfl (.tmp 25) (.tmp 30) 27 rfl w.heap.size 9 i0 (.string ⟨#[]⟩) 16 Tryd.underlying27 hi0 hz0 hz1 hz2 rfl (.slice A out.length d) out.length (strs out) rfl HOA.out (fun _ => True) _ 1 1 [str cur] rfl ⟨rfl, (by intro h; cases h), Nat.le_refl _, (by intro _ _ _; trivial), (by intro ad h; cases h; exact HCN.out)⟩ (by intro u hu; simp at hu; subst hu; rfl) m1 m2 (by have := HSZ.out; omega) ?_; intro v' w2 hown hg hat; obtain ⟨A', c', rfl⟩ := own_slice hown; have HO2 := Lib.hid hown; have HG2 := Lib.hid hg; clear hown hg hat)
            exact ⟨⟨i + 1, i + 1, out ++ [cur], A', c', by go_num, by go_num, by simp, Nat.le_refl _, by omega, HNX.out, by simp, by omega, (HB.out.trans (HBA.out.mono hs1)).grown HG2.out (by have := HSZ.out; omega) (fun j hj => (HOA.out.lt j hj).1), by simpa [strs] using HO2.out⟩, by simp [intOf]; omega⟩
        · have hlL : (l.length : Int) = (i : Int) := by rw [hiL]
          have hnl : ¬ (i : Int) < (l.length : Int) := by omega
          have hbeq : ((i : Int) == (l.length : Int)) = true := by rw [hlL]; simp
          by_cases hia : i = a
          · have hce := HE.out.2 hia
            rw [if_pos hce, List.append_nil] at HNX
            subst hia
            clear HE hce hai
            go_wp2
            exact ⟨⟨i + 1, i + 1, out, A, d, by go_num, by go_num, rfl, Nat.le_refl _, by omega, HNX.out, by simp, by omega, HB.out, HO.out⟩, by simp [intOf]; omega⟩
          · have hce : ¬ cur = [] := fun e => hia (HE.out.1 e)
            rw [if_neg hce] at HNX
            have hlt2 : a < i := by omega
            clear HE hce hia
            go_wp2_with (at_builtin; refine wpList_append_src rfl (.tmp 25) (.tmp 30) 27 rfl w.heap.size 9 i0 (.string ⟨#[]⟩) 16 Tryd.underlying27 hi0 hz0 hz1 hz2 rfl (.slice A out.length d) out.length (strs out) rfl HOA.out (fun _ => True) _ 1 1 [str cur] rfl ⟨rfl, (by intro h; cases h), Nat.le_refl _, (by intro _ _ _; trivial), (by intro ad h; cases h; exact HCN.out)⟩ (by intro u hu; simp at hu; subst hu; rfl) m1 m2 (by have := HSZ.out; omega) ?_; intro v' w2 hown hg hat; obtain ⟨A', c', rfl⟩ := own_slice hown; have HO2 := Lib.hid hown; have HG2 := Lib.hid hg; clear hown hg hat)
            exact ⟨⟨i + 1, i + 1, out ++ [cur], A', c', by go_num, by go_num, by simp, Nat.le_refl _, by omega, HNX.out, by simp, by omega, (HB.out.trans (HBA.out.mono hs1)).grown HG2.out (by have := HSZ.out; omega) (fun j hj => (HOA.out.lt j hj).1), by simpa [strs] using HO2.out⟩, by simp [intOf]; omega⟩
      · have hlt : i < l.length := by
          rcases Nat.lt_or_ge i l.length with h | h
          · exact h
          · exact absurd (.inl (by omega)) hstop
        have hc : l[i] ≠ 58 := fun e => hstop (.inr ⟨hlt, e⟩)
        have h47 : (((({ data := l.toArray } : ByteArray)[i]'(by rw [hz]; exact hlt)).toNat : Int) == 58) = false := by
          show (((l[i]).toNat : Int) == 58) = false
          rw [beq_eq_false_iff_ne]
          intro e
          apply hc
          apply UInt8.toNat_inj.1
          show (l[i]).toNat = 58
          omega
        have HN2 := Lib.hid (show ∀ x ∈ (l.drop a).take (i + 1 - a), x ≠ 58 by
          rw [take_more l a i hai hlt]
          intro x hx
          rcases List.mem_append.1 hx with hx | hx
          · exact HNO.out x hx
          · rw [List.mem_singleton.1 hx]; exact hc)
        clear hc hstop
        go_wp2
        exact ⟨⟨i + 1, a, out, A, d, by go_num, rfl, rfl, by omega, by omega, HRE.out, fun _ => HN2.out, by omega, HB.out, HO.out⟩, by simp [intOf]; omega⟩
    · obtain rfl : i = l.length + 1 := by omega
      obtain rfl := hend rfl
      have HX := Lib.hid (show R = out by have := HRE.out; rw [List.drop_of_length_le (by omega), cuts_nil, List.append_nil] at this; exact this)
      clear HRE HN
      go_wp2
      go_ret
      rw [HX.out]
      exact ⟨A, d, rfl, HO.out, HB.out⟩
end Go.Proofs.YtbneikfonfpdgaaDoor
