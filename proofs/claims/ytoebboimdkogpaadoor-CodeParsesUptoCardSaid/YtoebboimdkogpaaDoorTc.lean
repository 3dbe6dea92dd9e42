/-
  The document's own cut of a text into pieces.
-/
import Derived.Test.YtoebboimdkogpaaDoorS
namespace Go.Proofs.YtoebboimdkogpaaDoor
open Go.RowKit

theorem Tryd.info_string : (Tryd.prog.info? 9).map (fun i => (i.zero, i.size, i.bytes)) = some (some (.string ⟨#[]⟩), 1, 16) := by kernel_rfl
theorem cut_app' (c : UInt8) : ∀ (a b : Str), (∀ x ∈ a, x ≠ c) → cut c (a ++ c :: b) = a :: cut c b
  | [], b, _ => by rw [List.nil_append, cut, if_pos rfl]
  | x :: a, b, h => by
    rw [List.cons_append, cut, if_neg (h x (by simp)), cut_app' c a b (fun y hy => h y (by simp [hy]))]
theorem cut_one' (c : UInt8) : ∀ (a : Str), (∀ x ∈ a, x ≠ c) → cut c a = [a]
  | [], _ => rfl
  | x :: a, h => by
    rw [cut, if_neg (h x (by simp)), cut_one' c a (fun y hy => h y (by simp [hy]))]
theorem cut_at (c : UInt8) (l : Str) (a i : Nat) (ha : a ≤ i) (hi : i < l.length) (hc : l[i] = c) (hno : ∀ x ∈ (l.drop a).take (i - a), x ≠ c) : cut c (l.drop a) = (l.drop a).take (i - a) :: cut c (l.drop (i + 1)) := by
  have h : l.drop a = (l.drop a).take (i - a) ++ c :: l.drop (i + 1) := by
    conv => lhs; rw [← List.take_append_drop (i - a) (l.drop a)]
    rw [List.drop_drop, show a + (i - a) = i by omega, List.drop_eq_getElem_cons hi, hc]
  conv => lhs; rw [h]
  exact cut_app' c _ _ hno
theorem take_next (l : Str) (a i : Nat) (ha : a ≤ i) (hi : i < l.length) : (l.drop a).take (i + 1 - a) = (l.drop a).take (i - a) ++ [l[i]] := by
  have h : i - a < (l.drop a).length := by simp; omega
  rw [show i + 1 - a = (i - a) + 1 by omega, List.take_succ_eq_append_getElem h]
  congr 2
  rw [List.getElem_drop]
  congr 1
  omega

set_option maxHeartbeats 2000000 in
set_option maxRecDepth 100000 in
theorem rcut_any (l : Str) (c : UInt8) (w : World) (hs : (l.length + 1) * 16 ≤ 140737488355328) :
    Calls Tryd.prog 43 #[str l, .int .u8 c.toNat] w fun e w' => ∃ A d, e = .returned (.slice A (cut c l).length d) ∧ Below w.heap.size w w' ∧ w'.ownsRow w.heap.size 9 1 (.slice A (cut c l).length d) (cut c l).length (strs (cut c l)) := by
  obtain ⟨i0, hi0, hz0, hz1, hz2⟩ := info_parts Tryd.info_string
  generalize hR : cut c l = R
  have HR := Lib.hid hR
  have HRL := Lib.hid (show R.length ≤ l.length + 1 by rw [← hR]; exact cut_length c l)
  clear hR
  go_enter Tryd.func43, Tryd.ntmps43
  go_wp2_with fail
  go_loopw [5, 6, 7] (fun t5 t6 t7 wr => ∃ (i a : Nat) (out : List Str) (A : Option Addr) (d : Nat), t7 = .int .i64 i ∧ t6 = .int .i64 a ∧ t5 = .slice A out.length d ∧ a ≤ i ∧ i ≤ l.length ∧ R = out ++ cut c (l.drop a) ∧ (∀ x ∈ (l.drop a).take (i - a), x ≠ c) ∧ Below w.heap.size w wr ∧ wr.ownsRow w.heap.size 9 1 (.slice A out.length d) out.length (strs out)) (fun _ _ t7 _ => l.length - (intOf t7).toNat)
  case atStart => exact ⟨0, 0, [], none, 0, rfl, rfl, rfl, Nat.le_refl _, Nat.zero_le _, HR.out.symm, by simp, Below.refl _ _, World.ownsRow_nil _ _ _ _⟩
  case round =>
    obtain ⟨i, a, out, A, d, rfl, rfl, rfl, hai, hil, hRe, hno, hb, ho⟩ := hrel
    have HB := Lib.hid hb
    have HO := Lib.hid ho
    have HRE := Lib.hid hRe
    have HN := Lib.hid hno
    have hol : out.length + 1 ≤ R.length := by
      rw [hRe, List.length_append]
      have := List.length_pos_iff.2 (cut_ne c (l.drop a))
      omega
    have hol' := HRL.out
    clear hb ho hRe hno
    have hz : (ByteArray.mk l.toArray).size = l.length := by simp [ByteArray.size]
    by_cases hlt : i < l.length
    · by_cases hc : l[i] = c
      · have h47 : (((({ data := l.toArray } : ByteArray)[i]'(by simpa [ByteArray.size] using hlt)).toNat : Int) == (c.toNat : Int)) = true := by
          show (((l[i]).toNat : Int) == (c.toNat : Int)) = true
          rw [hc]
          simp
        have hsl : ∀ w', (Instr.slice 9 (str l) (some (.int .i64 a)) (some (.int .i64 i)) none).run Tryd.prog w' = .ok (str ((l.drop a).take (i - a))) w' := by
          intro w'
          have h1 : (0 : Int) ≤ (a : Int) := by omega
          have h2 : (a : Int) ≤ (i : Int) := by omega
          have h3 : (i : Int) ≤ ((ByteArray.mk l.toArray).size : Int) := by rw [hz]; omega
          rw [str, run_slice_string (w := w') 9 ⟨l.toArray⟩ .i64 .i64 a i Tryd.underlying9 h1 h2 h3, ByteArray.extract_mk]
          simp
        have HNX := Lib.hid (show R = (out ++ [(l.drop a).take (i - a)]) ++ cut c (l.drop (i + 1)) by
          rw [HRE.out, cut_at c l a i hai hlt hc HN.out, List.append_assoc]
          rfl)
        generalize (l.drop a).take (i - a) = cur at *
        have HBA := Lib.hid ((Below.refl wr.heap.size wr).alloc (Nat.le_refl _) (.cells #[str cur] 9))
        have HOA := Lib.hid (HO.out.alloc (.cells #[str cur] 9))
        have HCN := Lib.hid ((Bx.new wr #[str cur] 9).c 0)
        have HSZ := Lib.hid (show (wr.alloc (.cells #[str cur] 9)).heap.size = wr.heap.size + 1 by simp)
        have hs1 := HB.out.size
        have m1 : out.length + 1 ≤ maxLen := by simp only [maxLen]; omega
        have m2 : (out.length + 1) * 16 ≤ 140737488355328 := by omega
        clear hc HN HRE
        go_wp2_with (at_builtin; refine wpList_append_src rfl (.tmp 19) (.tmp 24) 51 rfl w.heap.size 9 i0 (.string ⟨#[]⟩) 16 Tryd.underlying51 hi0 hz0 hz1 hz2 rfl (.slice A out.length d) out.length (strs out) rfl HOA.out (fun _ => True) _ 1 1 [str cur] rfl ⟨rfl, (by intro h; cases h), Nat.le_refl _, (by intro _ _ _; trivial), (by intro ad h j u hu; cases h; obtain rfl : j = 0 := (by have := (List.getElem?_eq_some_iff.1 hu).1; simp at this; omega); rw [plainAdd]; simp at hu; subst hu; exact HCN.out)⟩ (by intro u hu; simp at hu; subst hu; rfl) m1 m2 (by have := HSZ.out; omega) ?_; intro v' w2 hown hg hat; obtain ⟨A', c', rfl⟩ := own_slice hown; have HO2 := Lib.hid hown; have HG2 := Lib.hid hg; clear hown hg hat)
        exact ⟨⟨i + 1, i + 1, out ++ [cur], A', c', by go_num, by go_num, by simp, Nat.le_refl _, by omega, HNX.out, by simp, (HB.out.trans (HBA.out.mono hs1)).grown HG2.out (by have := HSZ.out; omega) (fun j hj => (HOA.out.lt j hj).1), by simpa [strs] using HO2.out⟩, by simp [intOf]; omega⟩
      · have h47 : (((({ data := l.toArray } : ByteArray)[i]'(by simpa [ByteArray.size] using hlt)).toNat : Int) == (c.toNat : Int)) = false := by
          show (((l[i]).toNat : Int) == (c.toNat : Int)) = false
          rw [beq_eq_false_iff_ne]
          intro e
          apply hc
          apply UInt8.toNat_inj.1
          omega
        have HN2 := Lib.hid (show ∀ x ∈ (l.drop a).take (i + 1 - a), x ≠ c by
          rw [take_next l a i hai hlt]
          intro x hx
          rcases List.mem_append.1 hx with hx | hx
          · exact HN.out x hx
          · rw [List.mem_singleton.1 hx]; exact hc)
        clear hc
        go_wp2
        exact ⟨⟨i + 1, a, out, A, d, by go_num, rfl, rfl, by omega, by omega, HRE.out, HN2.out, HB.out, HO.out⟩, by simp [intOf]; omega⟩
    · obtain rfl : i = l.length := by omega
      have hsl : ∀ w', (Instr.slice 9 (str l) (some (.int .i64 a)) none none).run Tryd.prog w' = .ok (str (l.drop a)) w' := by
        intro w'
        rw [str, run_slice_string_l (w := w') 9 ⟨l.toArray⟩ (by kernel_rfl) .i64 (a : Int) (by omega) (by rw [hz]; omega), ByteArray.extract_mk, show ((a : Int)).toNat = a by omega, hz, List.take_of_length_le (by simp)]
      have HNX := Lib.hid (show R = out ++ [l.drop a] by
        have := HN.out
        rw [List.take_of_length_le (by simp)] at this
        rw [HRE.out, cut_one' c _ this])
      generalize l.drop a = cur at *
      have HOA := Lib.hid (HO.out.alloc (.cells #[str cur] 9))
      have HBA := Lib.hid (HB.out.alloc HB.out.size (.cells #[str cur] 9))
      have HCN := Lib.hid ((Bx.new wr #[str cur] 9).c 0)
      have m1 : out.length + 1 ≤ maxLen := by simp only [maxLen]; omega
      have m2 : (out.length + 1) * 16 ≤ 140737488355328 := by omega
      clear HN HRE HR
      go_wp2_with (at_builtin; refine wpList_append_src rfl (.tmp 28) (.tmp 32) 51 rfl w.heap.size 9 i0 (.string ⟨#[]⟩) 16 Tryd.underlying51 hi0 hz0 hz1 hz2 rfl (.slice A out.length d) out.length (strs out) rfl HOA.out (fun _ => True) _ 1 1 [str cur] rfl ⟨rfl, (by intro h; cases h), Nat.le_refl _, (by intro _ _ _; trivial), (by intro ad h j u hu; cases h; obtain rfl : j = 0 := (by have := (List.getElem?_eq_some_iff.1 hu).1; simp at this; omega); rw [plainAdd]; simp at hu; subst hu; exact HCN.out)⟩ (by intro u hu; simp at hu; subst hu; rfl) m1 m2 HBA.out.size ?_; intro v' w2 hown hg hat; obtain ⟨A', c', rfl⟩ := own_slice hown; have HO2 := Lib.hid hown; have HG2 := Lib.hid hg; clear hown hg hat)
      go_ret
      have hE := HNX.out
      have hl2 : (cells [] : List Value).length = 0 := rfl
      subst hE
      refine ⟨A', c', by simp, HBA.out.grown HG2.out HBA.out.size (fun j hj => (HOA.out.lt j hj).1), ?_⟩
      simpa [strs] using HO2.out

set_option maxRecDepth 100000 in
theorem rwith_any (i : Ins) (f : UInt8) (n : Int) (w : World) :
    Calls Tryd.prog 54 #[insV i, .int .u8 f.toNat, .int .i64 n] w fun e w' => e = .returned (insV (withP i f n)) ∧ Below w.heap.size w w' := by
  have e0 : ((f.toNat : Int) == 97) = (f == 97) := u8_int f 97
  have e1 : ((f.toNat : Int) == 98) = (f == 98) := u8_int f 98
  have e2 : ((f.toNat : Int) == 99) = (f == 99) := u8_int f 99
  obtain ⟨op, a, b, c, m⟩ := i
  by_cases h0 : f = 97
  · subst h0
    go_enter Tryd.func54, Tryd.ntmps54
    go_wp2_with fail
    exact bodyPost_ret (v := insV ⟨op, n, b, c, m⟩) (by simp [results, Tryd.results54, go_sem]) rfl ⟨rfl, ((Below.refl _ _).alloc (Nat.le_refl _) _).alloc (by simp) _⟩
  · by_cases h1 : f = 98
    · subst h1
      go_enter Tryd.func54, Tryd.ntmps54
      go_wp2_with fail
      exact bodyPost_ret (v := insV ⟨op, a, n, c, m⟩) (by simp [results, Tryd.results54, go_sem]) rfl ⟨rfl, ((Below.refl _ _).alloc (Nat.le_refl _) _).alloc (by simp) _⟩
    · by_cases h2 : f = 99
      · subst h2
        go_enter Tryd.func54, Tryd.ntmps54
        go_wp2_with fail
        exact bodyPost_ret (v := insV ⟨op, a, b, n, m⟩) (by simp [results, Tryd.results54, go_sem]) rfl ⟨rfl, ((Below.refl _ _).alloc (Nat.le_refl _) _).alloc (by simp) _⟩
      · have hw : withP ⟨op, a, b, c, m⟩ f n = ⟨op, a, b, c, n⟩ := by simp [withP, h0, h1, h2]
        rw [hw]
        rw [beq_eq_false_iff_ne.2 h0] at e0
        rw [beq_eq_false_iff_ne.2 h1] at e1
        rw [beq_eq_false_iff_ne.2 h2] at e2
        clear h0 h1 h2 hw
        go_enter Tryd.func54, Tryd.ntmps54
        go_wp2_with fail
        exact bodyPost_ret (v := insV ⟨op, a, b, c, n⟩) (by simp [results, Tryd.results54, go_sem]) rfl ⟨rfl, ((Below.refl _ _).alloc (Nat.le_refl _) _).alloc (by simp) _⟩
end Go.Proofs.YtoebboimdkogpaaDoor
