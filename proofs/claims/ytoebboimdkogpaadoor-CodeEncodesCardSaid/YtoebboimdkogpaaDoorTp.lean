/-
  Print: the program's, whole.
-/
import Derived.Test.YtoebboimdkogpaaDoorT
namespace Go.Proofs.YtoebboimdkogpaaDoor
open Go.RowKit

/-- Behind a Print. -/
def Printed (w : World) (is : List Ins) (e : Ending) (w' : World) : Prop :=
  Below w.heap.size w w' ∧ ((is.all mayB = false ∧ e = .returned (.tuple #[str [], .int .i64 40])) ∨ (is.all mayB = true ∧ e = .returned (.tuple #[str (textOf is), .int .i64 0])))

set_option maxRecDepth 100000 in
set_option maxHeartbeats 1000000 in
theorem print_any (P : Nat → Prop) (A : Option Addr) (n c : Nat) (is : List Ins) (w : World) (h : Isl w P A n c is) (hn : n * 40 ≤ 140737488351232) (he : Env w) :
    Calls Tryd.prog 14 #[.slice A n c] w (Printed w is) := by
  have HV := Lib.hid (areValid_any P A n c is w h (by omega) he.sh)
  have H := Lib.hid h.lt
  have HE := Lib.hid he
  have hl := h.len
  clear h he
  cases hv : is.all mayB
  · rw [hv] at HV
    have HF := Lib.hid hv
    clear hv
    go_enter Tryd.func14, Tryd.ntmps14
    go_wp2_with fail
    refine HV.out.mono ?_
    rintro e w1 ⟨rfl, hb⟩
    have HB := Lib.hid hb
    clear hb
    go_wp2
    go_ret2
    exact ⟨HB.out, .inl ⟨HF.out, rfl⟩⟩
  · rw [hv] at HV
    have HT := Lib.hid hv
    have HLE := Lib.hid (show ∀ k, (textOf (is.take k)).length ≤ k * 31 by
      intro k
      refine Nat.le_trans (text_len _ (List.all_eq_true.2 fun i hi => List.all_eq_true.1 hv i (List.mem_of_mem_take hi))) ?_
      rw [List.length_take]
      exact Nat.mul_le_mul_right _ (Nat.min_le_left _ _))
    clear hv
    go_enter Tryd.func14, Tryd.ntmps14
    go_wp2_with fail
    refine HV.out.mono ?_
    rintro e w1 ⟨rfl, hb⟩
    have HB := Lib.hid hb
    clear hb HV
    go_wp2_with fail
    go_loopw [4, 12] (fun v t wr => ∃ (k : Nat) (A' : Option Addr) (c' : Nat), k ≤ n ∧ t = .int .i64 k ∧ v = .slice A' (textOf (is.take k)).length c' ∧ Below w.heap.size w wr ∧ wr.ownsRow w.heap.size 5 1 (.slice A' (textOf (is.take k)).length c') (textOf (is.take k)).length (cells (textOf (is.take k)))) (fun _ t _ => n - (intOf t).toNat)
    case atStart => exact ⟨0, none, 0, Nat.zero_le _, rfl, rfl, HB.out, by simpa [textOf, cells] using World.ownsRow_nil w1 w.heap.size 5 1⟩
    case round =>
      obtain ⟨k, A', c', hk, rfl, rfl, hb, ho⟩ := hrel
      have HBR := Lib.hid hb
      have HOR := Lib.hid ho
      clear hb ho HB
      by_cases hkn : k < n
      · have hki : k < is.length := by omega
        cases A with
        | none => have := (H.out.nil rfl).1; omega
        | some ad =>
          obtain ⟨b, o, rfl⟩ := H.out.plain (by omega)
          obtain ⟨c0, c1, c2, c3, c4⟩ := (H.out.below HBR.out (fun _ h => h)).get k hki
          have HTK := Lib.hid (text_take is k hki)
          have hm := List.all_eq_true.1 HT.out _ (List.getElem_mem hki)
          have hle := HLE.out k
          generalize textOf (is.take k) = T at *
          generalize is[k] = i at *
          have HX := Lib.hid (fun w3 (h3 : w3.ownsRow w.heap.size 5 1 (.slice A' T.length c') T.length (cells T)) (h4 : w.heap.size ≤ w3.heap.size) (h5 : EnvB w.heap.size w3) => appendLine_any w.heap.size T.length A' c' _ i w3 h3 h4 hm (by omega) h5)
          have HEB := Lib.hid (HE.out.b.on HBR.out)
          obtain ⟨op, a, b', c'', n'⟩ := i
          simp only at c0 c1 c2 c3 c4
          clear hm hle
          go_wp2_with fail
          refine (HX.out _ (HOR.out.alloc _) (by have := HBR.out.size; simp; omega) (HEB.out.on ((Below.refl _ _).alloc HBR.out.size _))).mono ?_
          rintro e w4 ⟨A4, c4', rfl, ho4, hb4⟩
          have HO4 := Lib.hid ho4
          have HB4 := Lib.hid ((HBR.out.alloc HBR.out.size _).trans hb4)
          have hlen : T.length + (lineOf ⟨op, a, b', c'', n'⟩).length = (textOf (is.take (k + 1))).length := by rw [HTK.out, List.length_append]
          have HLN := Lib.hid hlen
          clear ho4 hb4 HX hlen
          go_wp2
          refine ⟨⟨k + 1, A4, c4', by omega, by go_num, by rw [HLN.out], HB4.out, ?_⟩, by simp [intOf]; omega⟩
          have := HO4.out
          rw [HLN.out, ← cells_app, ← HTK.out] at this
          exact this
      · obtain rfl : k = n := by omega
        have HTL := Lib.hid (show is.take k = is by rw [List.take_of_length_le (by omega)])
        rw [HTL.out] at HOR
        rw [HTL.out]
        have hcv := conv_string (Src.of_own HOR.out)
        clear H
        go_wp2
        go_ret2
        exact ⟨HBR.out, .inr ⟨HT.out, rfl⟩⟩
end Go.Proofs.YtoebboimdkogpaaDoor
