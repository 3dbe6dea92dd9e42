/-
  Lists joined: the program's, and the document's.
-/
import Derived.Test.YtbneikfonfpdgaaDoorC
namespace Go.Proofs.YtbneikfonfpdgaaDoor
open Go.RowKit

/-- How much room joined texts take. -/
def sumL : List Str → Nat
  | [] => 0
  | s :: r => s.length + 1 + sumL r
theorem jnA_sum : ∀ (ps : List Str) (out : Str), (jnA out ps).length ≤ out.length + sumL ps
  | [], out => by simp [jnA, sumL]
  | p :: ps, out => by
    rw [jnA, sumL]
    have h := jnA_sum ps (if p = [] then out else if out = [] then p else out ++ 58 :: p)
    refine Nat.le_trans h ?_
    split
    · omega
    · split <;> (try simp) <;> omega
theorem sumL_take (ps : List Str) (k : Nat) : sumL (ps.take k) ≤ sumL ps := by
  induction ps generalizing k with
  | nil => simp [sumL]
  | cons p ps ih =>
    cases k with
    | zero => exact Nat.zero_le _
    | succ k => have := ih k; simp only [List.take_succ_cons, sumL]; omega
theorem sumL_mem {ps : List Str} {p : Str} (h : p ∈ ps) : p.length + 1 ≤ sumL ps := by
  induction ps with
  | nil => cases h
  | cons q ps ih =>
    rcases List.mem_cons.1 h with rfl | h
    · simp only [sumL]; omega
    · have := ih h; simp only [sumL]; omega
theorem jn_take (ps : List Str) (k : Nat) (hk : k < ps.length) : jn (ps.take (k + 1)) = if ps[k] = [] then jn (ps.take k) else if jn (ps.take k) = [] then ps[k] else jn (ps.take k) ++ 58 :: ps[k] := by
  rw [List.take_succ_eq_append_getElem hk, jn_snoc]
theorem jn_sum (ps : List Str) (k : Nat) : (jn (ps.take k)).length ≤ sumL ps := by
  have h1 := jnA_sum (ps.take k) []
  have h2 := sumL_take ps k
  unfold jn
  simp at h1
  omega
theorem empty_no {p : Str} (h : p ≠ []) : p.isEmpty = false := by cases p with
  | nil => exact absurd rfl h
  | cons x l => rfl

set_option maxRecDepth 100000 in
set_option maxHeartbeats 1000000 in
theorem join_any (P : Nat → Prop) (A : Option Addr) (n c : Nat) (ps : List Str) (w : World) (h : Src w P A n c (strs ps)) (hn : n ≤ 9223372036854775806) (hl : sumL ps ≤ 140737488351232) :
    Calls Tryd.prog 15 #[.slice A n c] w fun e w' => e = .returned (str (jn ps)) ∧ Below w.heap.size w w' := by
  have hlen : ps.length = n := by simpa using h.len
  have HS := Lib.hid h.lt
  have HL := Lib.hid (jn_sum ps)
  have HT := Lib.hid (jn_take ps)
  have HR := Lib.hid (show jn ps = jn (ps.take n) by rw [List.take_of_length_le (by omega)])
  generalize jn ps = r at *
  clear h
  go_enter Tryd.func15, Tryd.ntmps15
  go_wp2_with fail
  go_loopw [5, 8] (fun _ i wr => ∃ k : Nat, k ≤ n ∧ i = .int .i64 (k : Int) ∧ Bld wr w.heap.size w.heap.size (jn (ps.take k)) ∧ Below w.heap.size w wr) (fun _ i _ => n - (intOf i).toNat)
  case atStart => exact ⟨0, Nat.zero_le _, rfl, bld_new w, (Below.refl _ _).alloc (Nat.le_refl _) _⟩
  case round =>
    obtain ⟨k, hk, rfl, hb, hB⟩ := hrel
    have HB := Lib.hid hb
    have HW := Lib.hid hB
    clear hb hB
    by_cases hkn : k < n
    · have hk' : k < ps.length := by omega
      cases A with
      | none => have := (HS.out.nil rfl).1; omega
      | some ad =>
        have hc := HS.out.below HW.out (fun j hj => hj) |>.at_ ad rfl k _ (strs_get ps k hk')
        have hpl : ps[k].length + 1 ≤ sumL ps := sumL_mem (List.getElem_mem _)
        have h1 := HT.out k hk'
        have h2 := HL.out (k + 1)
        have h3 := HL.out k
        generalize hj1 : jn (ps.take (k + 1)) = j1 at *
        generalize hj0 : jn (ps.take k) = j0 at *
        generalize hp : ps[k] = p at *
        have HP := Lib.hid (And.intro hj1 (And.intro hj0 hp))
        have H1 := Lib.hid h1
        clear hj1 hj0 hp h1
        by_cases hp0 : p = []
        · subst hp0
          rw [if_pos rfl] at H1
          go_wp2_with fail
          go_round
          case rel => exact ⟨k + 1, by omega, by go_num, by rw [HP.out.1, H1.out]; exact HB.out, HW.out⟩
          case measure => simp [intOf]; omega
        · rw [if_neg hp0] at H1
          have hpn : p.length ≠ 0 := fun e => hp0 (List.eq_nil_of_length_eq_zero e)
          have hpe := empty_no hp0
          by_cases hj : j0 = []
          · subst hj
            rw [if_pos rfl] at H1
            go_wp2_with (first
              | (go_at_call 22; refine (blen_any _ _ _ _ HB.out).mono ?_; rintro e w' ⟨rfl, rfl⟩)
              | (go_at_call 23; refine (write_any _ _ _ _ _ HB.out (by simp; omega) HW.out.size).mono ?_; rintro e w2 ⟨⟨v, rfl⟩, hb2, hw2⟩))
            go_round
            case rel => exact ⟨k + 1, by omega, by go_num, by rw [HP.out.1, H1.out]; exact hb2, HW.out.trans hw2⟩
            case measure => simp [intOf]; omega
          · rw [if_neg hj] at H1
            have hjn : 0 < j0.length := by
              rcases Nat.eq_zero_or_pos j0.length with e | e
              · exact absurd (List.eq_nil_of_length_eq_zero e) hj
              · exact e
            have hlen1 : j0.length + (1 + p.length) ≤ 140737488355328 := by
              have e := congrArg List.length H1.out
              simp at e
              omega
            go_wp2_with fail
            refine (blen_any _ _ _ _ HB.out).mono ?_
            rintro e w' ⟨rfl, rfl⟩
            go_wp2_with fail
            refine (write_any _ _ _ [58] _ HB.out (by simp; omega) HW.out.size).mono ?_
            rintro e w2 ⟨⟨v, rfl⟩, hb2, hw2⟩
            go_wp2_with fail
            refine (write_any _ _ _ _ _ hb2 (by simp; omega) (HW.out.trans hw2).size).mono ?_
            rintro e w3 ⟨⟨v3, rfl⟩, hb3, hw3⟩
            go_wp2_with fail
            go_round
            case rel => exact ⟨k + 1, by omega, by go_num, by rw [HP.out.1, H1.out]; simpa using hb3, (HW.out.trans hw2).trans hw3⟩
            case measure => simp [intOf]; omega
    · obtain rfl : k = n := by omega
      rw [← HR.out] at HB
      go_wp2_with (go_at_call 24; refine (bstring_any _ _ _ _ HB.out HW.out.size).mono ?_; rintro e w2 ⟨rfl, hw2⟩)
      go_ret
      exact ⟨rfl, HW.out.trans hw2⟩

theorem add_str (a b : Str) (h : a.length + b.length ≤ 9223372036854775807) (w : World) : (Op.stringOp .add ⟨a.toArray⟩ ⟨b.toArray⟩).run Tryd.prog w = .ok (str (a ++ b)) w := by
  rw [run_string_add_sum w _ _ (by simpa [ByteArray.size] using h), ByteArray.mk_append_mk]
set_option maxRecDepth 100000 in
set_option maxHeartbeats 1000000 in
theorem rjoin_any (P : Nat → Prop) (A : Option Addr) (n c : Nat) (ps : List Str) (w : World) (h : Src w P A n c (strs ps)) (hn : n ≤ 9223372036854775806) (hl : sumL ps ≤ 140737488351232) :
    Calls Tryd.prog 16 #[.slice A n c] w fun e w' => e = .returned (str (jn ps)) ∧ Below w.heap.size w w' := by
  have hlen : ps.length = n := by simpa using h.len
  have HS := Lib.hid h.lt
  have HL := Lib.hid (jn_sum ps)
  have HT := Lib.hid (jn_take ps)
  have HR := Lib.hid (show jn ps = jn (ps.take n) by rw [List.take_of_length_le (by omega)])
  generalize jn ps = r at *
  clear h
  go_enter Tryd.func16, Tryd.ntmps16
  go_wp2_with fail
  go_loopw [3, 4] (fun o i wr => ∃ k : Nat, k ≤ n ∧ i = .int .i64 (k : Int) ∧ o = str (jn (ps.take k)) ∧ Below w.heap.size w wr) (fun _ i _ => n - (intOf i).toNat)
  case atStart => exact ⟨0, Nat.zero_le _, rfl, rfl, Below.refl _ _⟩
  case round =>
    obtain ⟨k, hk, rfl, rfl, hB⟩ := hrel
    have HW := Lib.hid hB
    clear hB
    by_cases hkn : k < n
    · have hk' : k < ps.length := by omega
      cases A with
      | none => have := (HS.out.nil rfl).1; omega
      | some ad =>
        have hc := HS.out.below HW.out (fun j hj => hj) |>.at_ ad rfl k _ (strs_get ps k hk')
        have hpl : ps[k].length + 1 ≤ sumL ps := sumL_mem (List.getElem_mem _)
        have h1 := HT.out k hk'
        have h3 := HL.out k
        generalize hj1 : jn (ps.take (k + 1)) = j1 at *
        generalize hj0 : jn (ps.take k) = j0 at *
        generalize hp : ps[k] = p at *
        have HP := Lib.hid (And.intro hj1 (And.intro hj0 hp))
        have H1 := Lib.hid h1
        clear hj1 hj0 hp h1
        by_cases hp0 : p = []
        · subst hp0
          rw [if_pos rfl] at H1
          have hadd := add_str j0 [] (by simp; omega)
          rw [List.append_nil] at hadd
          go_wp2
          go_round
          case rel => exact ⟨k + 1, by omega, by go_num, by rw [HP.out.1, H1.out], HW.out⟩
          case measure => simp [intOf]; omega
        · rw [if_neg hp0] at H1
          have hpe := empty_no hp0
          by_cases hj : j0 = []
          · subst hj
            rw [if_pos rfl] at H1
            have hadd := add_str [] p (by simp; omega)
            rw [List.nil_append] at hadd
            go_wp2
            go_round
            case rel => exact ⟨k + 1, by omega, by go_num, by rw [HP.out.1, H1.out], HW.out⟩
            case measure => simp [intOf]; omega
          · rw [if_neg hj] at H1
            have hje := empty_no hj
            have hadd := add_str j0 [58] (by simp; omega)
            have hadd2 := add_str (j0 ++ [58]) p (by simp; omega)
            rw [show j0 ++ [58] ++ p = j0 ++ 58 :: p by simp] at hadd2
            go_wp2
            go_round
            case rel => exact ⟨k + 1, by omega, by go_num, by rw [HP.out.1, H1.out], HW.out⟩
            case measure => simp [intOf]; omega
    · obtain rfl : k = n := by omega
      go_wp2
      go_ret
      rw [HR.out]
      exact ⟨rfl, HW.out⟩
end Go.Proofs.YtbneikfonfpdgaaDoor
