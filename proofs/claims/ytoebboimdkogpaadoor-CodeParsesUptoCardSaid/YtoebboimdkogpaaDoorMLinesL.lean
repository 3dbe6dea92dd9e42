/-
  A text is refused at the number of its first line that is refused alone: the law's walk.
-/
import Derived.Test.YtoebboimdkogpaaDoorMForm
import Derived.Test.YtoebboimdkogpaaDoorOc
namespace Go.Proofs.YtoebboimdkogpaaDoor
open Go.RowKit

/-- The number of the first line that is refused alone. -/
def FirstM (ls : List Str) (f : Nat) : Prop := (f = 0 ∧ ∀ y ∈ ls, typedM y ≠ none) ∨ (∃ p x q, ls = p ++ x :: q ∧ f = p.length + 1 ∧ (∀ y ∈ p, typedM y ≠ none) ∧ typedM x = none)
theorem first_ok {ls : List Str} {f : Nat} {y : Str} (h : FirstM ls f) (hy : typedM y ≠ none) : FirstM (ls ++ [y]) f := by
  rcases h with ⟨h0, h⟩ | ⟨p, x, q, rfl, h1, h2, h3⟩
  · refine .inl ⟨h0, fun z hz => ?_⟩
    rcases List.mem_append.1 hz with hz | hz
    · exact h z hz
    · rw [List.mem_singleton.1 hz]; exact hy
  · exact .inr ⟨p, x, q ++ [y], by simp, h1, h2, h3⟩
theorem first_bad {ls : List Str} {y : Str} (h : FirstM ls 0) (hy : typedM y = none) : FirstM (ls ++ [y]) (ls.length + 1) := by
  rcases h with ⟨_, h⟩ | ⟨p, x, q, _, h1, _⟩
  · exact .inr ⟨ls, y, [], rfl, rfl, h, hy⟩
  · omega
theorem first_more {ls : List Str} {f : Nat} (y : Str) (h : FirstM ls f) (hf : f ≠ 0) : FirstM (ls ++ [y]) f := by
  rcases h with ⟨h0, h⟩ | ⟨p, x, q, rfl, h1, h2, h3⟩
  · exact absurd h0 hf
  · exact .inr ⟨p, x, q ++ [y], by simp, h1, h2, h3⟩
theorem first_same : ∀ (p p' : List Str) (x x' : Str) (q q' : List Str), p ++ x :: q = p' ++ x' :: q' → (∀ y ∈ p, typedM y ≠ none) → typedM x = none → (∀ y ∈ p', typedM y ≠ none) → typedM x' = none → p.length = p'.length
  | [], [], _, _, _, _, _, _, _, _, _ => rfl
  | [], a :: p', x, x', q, q', h, _, hx, hp', _ => by
    injection h with h1 _
    exact absurd (h1 ▸ hx) (hp' a (by simp))
  | a :: p, [], x, x', q, q', h, hp, _, _, hx' => by
    injection h with h1 _
    exact absurd (h1.symm ▸ hx') (hp a (by simp))
  | a :: p, b :: p', x, x', q, q', h, hp, hx, hp', hx' => by
    injection h with _ h2
    have := first_same p p' x x' q q' h2 (fun y hy => hp y (by simp [hy])) hx (fun y hy => hp' y (by simp [hy])) hx'
    simp [this]
theorem sum_take : ∀ (ls : List Str) (k : Nat), (joinL (ls.take k)).length ≤ sumL ls
  | [], k => by simp [joinL, sumL]
  | s :: r, 0 => by simp [joinL]
  | s :: r, k + 1 => by
    have := sum_take r k
    have e : joinL ((s :: r).take (k + 1)) = s ++ [10] ++ joinL (r.take k) := by simp [joinL]
    rw [e]
    simp only [List.length_append, List.length_singleton, sumL]
    omega
theorem sum_at : ∀ (ls : List Str), ls.length ≤ sumL ls ∧ ∀ y ∈ ls, y.length + 1 ≤ sumL ls
  | [] => ⟨Nat.le_refl _, by intro y hy; cases hy⟩
  | s :: r => by
    obtain ⟨h1, h2⟩ := sum_at r
    refine ⟨by simp [sumL]; omega, fun y hy => ?_⟩
    rcases List.mem_cons.1 hy with rfl | hy
    · simp [sumL]
    · have := h2 y hy
      simp only [sumL]; omega
theorem join_take (ls : List Str) (k : Nat) (hk : k < ls.length) : joinL (ls.take (k + 1)) = joinL (ls.take k) ++ (ls[k] ++ [10]) := by
  rw [joinL, List.take_succ_eq_append_getElem hk, List.flatMap_append, List.flatMap_singleton]
  rfl
/-- Behind a Parse of one line. -/
theorem parse_line (y : Str) (w : World) (hy : ∀ z ∈ y, z ≠ 10) (hl : y.length ≤ 1048576) (he : Env w) :
    Calls Tryd.prog 24 #[str (y ++ [10])] w fun e w' => Below w.heap.size w w' ∧ ((typedM y ≠ none ∧ ∃ A c, e = .returned (.tuple #[.slice A 1 c, .int .i64 0, .int .i64 0])) ∨ (typedM y = none ∧ e = .returned (.tuple #[.slice none 0 0, .int .i64 1, .int .i64 41]))) := by
  have hln : lns (y ++ [10]) = [y] := lns_app y [] hy
  refine (parse_any (y ++ [10]) w (by simp; omega) (by rw [hln]; simp) (fun x hx => ?_) he).mono ?_
  · rw [hln] at hx
    rw [List.mem_singleton.1 hx]
    omega
  · rintro e w' ⟨hb, ⟨is, A, c, hm, rfl, _⟩ | ⟨p, x, more, hm, _, hx, rfl⟩⟩
    · rw [hln] at hm
      cases is with
      | nil => simp at hm
      | cons i is =>
        cases is with
        | cons => simp at hm
        | nil =>
          simp only [List.map_cons, List.map_nil, List.cons.injEq, and_true] at hm
          exact ⟨hb, .inl ⟨by rw [hm]; simp, A, c, rfl⟩⟩
    · rw [hln] at hm
      cases p with
      | nil =>
        injection hm with h1 _
        exact ⟨hb, .inr ⟨by rw [h1]; exact hx, rfl⟩⟩
      | cons a p => simp at hm

set_option maxRecDepth 100000 in
set_option maxHeartbeats 4000000 in
theorem linesL_any (A : Option Addr) (n c : Nat) (ss : List Str) (w : World) (h : Src w (fun k => k < w.heap.size) A n c (strs ss)) (hn : sumL ss ≤ 1048576) (he : Env w) :
    Calls Tryd.prog 10 #[.slice A n c] w fun e w' => e = .returned (.bool true) ∧ Below w.heap.size w w' := by
  have hl : ss.length = n := by simpa [strs_len] using h.len
  have hnn : n ≤ 1048576 := by have := (sum_at ss).1; omega
  have H := Lib.hid h
  have HE := Lib.hid he
  have HA := Lib.hid (awake_any w he)
  have HJT := Lib.hid (fun k => Nat.le_trans (sum_take ss k) hn)
  have HSA := Lib.hid (fun y (hy : y ∈ ss) => Nat.le_trans ((sum_at ss).2 y hy) hn)
  clear h he hn
  go_enter Tryd.func10, Tryd.ntmps10
  go_wp2_with fail
  refine HA.out.mono ?_
  rintro e w1 ⟨rfl, hb1⟩
  have HB1 := Lib.hid hb1
  clear hb1 HA
  go_wp2_with fail
  go_loopw [4, 5, 6] (fun t4 t5 t6 wr => ∃ (i f : Nat), i ≤ n ∧ t6 = .int .i64 i ∧ t5 = .int .i64 f ∧ t4 = str (joinL (ss.take i)) ∧ FirstM (ss.take i) f ∧ f ≤ i ∧ (∀ y ∈ ss.take i, ∀ z ∈ y, z ≠ 10) ∧ Below w.heap.size w wr) (fun _ _ t6 _ => n - (intOf t6).toNat)
  case atStart => exact ⟨0, 0, Nat.zero_le _, rfl, rfl, rfl, .inl ⟨rfl, by simp⟩, Nat.le_refl _, by simp, HB1.out⟩
  case round =>
    obtain ⟨i, f, hi, rfl, rfl, rfl, hf, hfi, hno, hb⟩ := hrel
    have HF := Lib.hid hf
    have HNO := Lib.hid hno
    have HB := Lib.hid hb
    clear hf hno hb
    by_cases hin : i < n
    · have hki : i < ss.length := by omega
      obtain ⟨ad, rfl⟩ : ∃ ad, A = some ad := by
        cases A with
        | none => have := (H.out.nil rfl).1; omega
        | some ad => exact ⟨ad, rfl⟩
      obtain ⟨b, o, rfl⟩ := H.out.plainA (by omega)
      have hcell : wr.cell? ⟨b, o + i, none⟩ = some (str ss[i]) := by
        have := (H.out.below HB.out (fun _ h => h)).at_ _ rfl i (str ss[i]) (by simp [strs, hki])
        rwa [plainAdd] at this
      have HJ := Lib.hid (join_take ss i hki)
      have HTK := Lib.hid (List.take_succ_eq_append_getElem hki)
      have hyl := HSA.out ss[i] (List.getElem_mem hki)
      have hjl := HJT.out i
      have hlt : (ss.take i).length = i := by rw [List.length_take]; omega
      have HLT := Lib.hid hlt
      generalize ss[i] = y at *
      generalize joinL (ss.take i) = T at *
      clear hlt
      go_wp2_with fail
      go_loopw [7] (fun t7 wq => ∃ k : Nat, k ≤ y.length ∧ t7 = .int .i64 k ∧ (∀ z ∈ y.take k, z ≠ 10) ∧ wq = wr) (fun t7 _ => y.length - (intOf t7).toNat)
      case atStart => exact ⟨0, Nat.zero_le _, rfl, by simp, rfl⟩
      case round =>
        obtain ⟨k, hk, rfl, hyn, rfl⟩ := hrel
        have HYN := Lib.hid hyn
        clear hyn
        by_cases hky : k < y.length
        · have he : ((((⟨y.toArray⟩ : ByteArray)[k]'(by simpa [ByteArray.size] using hky)).toNat : Int) == 10) = (y[k] == 10) := u8_int y[k] 10
          by_cases h10 : y[k] = 10
          · rw [h10, beq_self_eq_true] at he
            clear h10
            go_wp2
            go_ret
            exact ⟨rfl, HB.out⟩
          · have HY2 := Lib.hid (show ∀ z ∈ y.take (k + 1), z ≠ 10 by
              rw [List.take_succ_eq_append_getElem hky]
              intro z hz
              rcases List.mem_append.1 hz with hz | hz
              · exact HYN.out z hz
              · rw [List.mem_singleton.1 hz]; exact h10)
            rw [beq_eq_false_iff_ne.2 h10] at he
            clear h10 HYN
            go_wp2
            exact ⟨⟨k + 1, by omega, by go_num, HY2.out, by first | rfl | trivial⟩, by simp [intOf]; omega⟩
        · obtain rfl : k = y.length := by omega
          have HY := Lib.hid (show ∀ z ∈ y, z ≠ 10 by have := HYN.out; rwa [List.take_length] at this)
          have HP := Lib.hid (parse_line y _ HY.out (by omega) (HE.out.below HB.out))
          have hadd := add_str y [10] (by simp; omega)
          have hadd2 := add_str T (y ++ [10]) (by simp; omega)
          clear HYN
          go_wp2_with fail
          refine HP.out.mono ?_
          rintro e w5 ⟨hb5, ⟨hty, A5, c5, rfl⟩ | ⟨hty, rfl⟩⟩
          · have HB5 := Lib.hid (HB.out.trans (hb5.mono HB.out.size))
            have hcell5 := cell_below hb5 hcell
            have HF5 := Lib.hid (show FirstM (ss.take (i + 1)) f by rw [HTK.out]; exact first_ok HF.out hty)
            have HN5 := Lib.hid (show ∀ y ∈ ss.take (i + 1), ∀ z ∈ y, z ≠ 10 by
              rw [HTK.out]
              intro x hx
              rcases List.mem_append.1 hx with hx | hx
              · exact HNO.out x hx
              · rw [List.mem_singleton.1 hx]; exact HY.out)
            clear hb5 hty hcell HF HNO HTK HY HP
            go_wp2_with fail
            exact ⟨⟨i + 1, f, by omega, by go_num, rfl, by rw [HJ.out], HF5.out, by omega, HN5.out, HB5.out⟩, by simp [intOf]; omega⟩
          · have HB5 := Lib.hid (HB.out.trans (hb5.mono HB.out.size))
            have hcell5 := cell_below hb5 hcell
            have HN5 := Lib.hid (show ∀ y ∈ ss.take (i + 1), ∀ z ∈ y, z ≠ 10 by
              rw [HTK.out]
              intro x hx
              rcases List.mem_append.1 hx with hx | hx
              · exact HNO.out x hx
              · rw [List.mem_singleton.1 hx]; exact HY.out)
            by_cases hf0 : f = 0
            · subst hf0
              have HF5 := Lib.hid (show FirstM (ss.take (i + 1)) (i + 1) by
                rw [HTK.out]
                have := first_bad HF.out hty
                rwa [HLT.out] at this)
              clear hb5 hty hcell HF HNO HTK HY HP
              go_wp2_with fail
              exact ⟨⟨i + 1, i + 1, by omega, by go_num, by go_num, by rw [HJ.out], HF5.out, by omega, HN5.out, HB5.out⟩, by simp [intOf]; omega⟩
            · have HF5 := Lib.hid (show FirstM (ss.take (i + 1)) f by rw [HTK.out]; exact first_more y HF.out hf0)
              have hfz : ((f : Int) == 0) = false := by rw [beq_eq_false_iff_ne]; omega
              clear hb5 hty hcell HF HNO HTK HY HP hf0
              go_wp2_with fail
              exact ⟨⟨i + 1, f, by omega, by go_num, rfl, by rw [HJ.out], HF5.out, by omega, HN5.out, HB5.out⟩, by simp [intOf]; omega⟩
    · obtain rfl : i = n := by omega
      have htn : ss.take i = ss := List.take_of_length_le (by omega)
      have hF := HF.out
      have hN := HNO.out
      have hJ := HJT.out i
      rw [htn] at hF hN hJ
      rw [htn]
      have hln : lns (joinL ss) = ss := lns_join ss hN
      have HP := Lib.hid (parse_any (joinL ss) wr (by omega) (by rw [hln]; omega) (fun x hx => by rw [hln] at hx; have := HSA.out x hx; omega) (HE.out.below HB.out))
      have HF2 := Lib.hid hF
      have HLN := Lib.hid hln
      generalize joinL ss = T at *
      clear hF hN hJ HF HNO htn hln HJT HSA
      go_wp2_with fail
      refine HP.out.mono ?_
      rintro e w5 ⟨hb5, ⟨is, A5, c5, hm, rfl, _⟩ | ⟨p, x, more, hm, hp, hx, rfl⟩⟩
      · have HB5 := Lib.hid (HB.out.trans (hb5.mono HB.out.size))
        rw [HLN.out] at hm
        have hil : is.length = i := by
          have := congrArg List.length hm
          simp only [List.length_map] at this
          omega
        rcases HF2.out with ⟨rfl, _⟩ | ⟨p, x, q, he, _, _, hx⟩
        · clear hb5 hm HP
          rw [hil]
          clear hil
          go_wp2_with fail
          go_ret
          exact ⟨by simp, HB5.out⟩
        · exfalso
          have h1 : typedM x ∈ ss.map typedM := List.mem_map_of_mem (by rw [he]; simp)
          rw [hm, hx] at h1
          simp at h1
      · have HB5 := Lib.hid (HB.out.trans (hb5.mono HB.out.size))
        rw [HLN.out] at hm
        rcases HF2.out with ⟨_, h0⟩ | ⟨p', x', q', he, hf', hp', hx'⟩
        · exact absurd hx (h0 x (by rw [hm]; simp))
        · have hpl := first_same p p' x x' more q' (hm.symm.trans he) hp hx hp' hx'
          have hff : ((p.length + 1 : Nat) : Int) = (f : Int) := by omega
          have hfp : (0 : Int) < (f : Int) := by omega
          rw [hff]
          clear hb5 hm HP hff hpl hf' hp hp' hx hx' he
          go_wp2_with fail
          go_ret
          exact ⟨by simp, HB5.out⟩
end Go.Proofs.YtoebboimdkogpaaDoor
