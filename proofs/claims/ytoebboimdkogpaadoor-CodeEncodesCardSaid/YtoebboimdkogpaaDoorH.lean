/-
  Encode: the program's and the document's.
-/
import Derived.Test.YtoebboimdkogpaaDoorG
namespace Go.Proofs.YtoebboimdkogpaaDoor
open Go.RowKit

/-- The bytes of instructions, one behind the other. -/
def encL (is : List Ins) : Str := is.flatMap bytesOf
theorem encL_len (is : List Ins) : (encL is).length = is.length * 8 := by
  induction is with
  | nil => rfl
  | cons i is ih =>
    have : encL (i :: is) = bytesOf i ++ encL is := rfl
    rw [this, List.length_append, ih, List.length_cons]
    have : (bytesOf i).length = 8 := rfl
    omega
theorem encL_take (is : List Ins) (k : Nat) (hk : k < is.length) : encL (is.take (k + 1)) = encL (is.take k) ++ bytesOf is[k] := by
  rw [List.take_succ_eq_append_getElem hk, encL, List.flatMap_append]
  simp [encL]
/-- Behind an Encode. -/
def Encoded (w : World) (is : List Ins) (e : Ending) (w' : World) : Prop :=
  Below w.heap.size w w' ∧ ((is.all mayB = false ∧ e = .returned (.tuple #[.slice none 0 0, .int .i64 40])) ∨
    (is.all mayB = true ∧ ∃ A c, e = .returned (.tuple #[.slice A (is.length * 8) c, .int .i64 0]) ∧ w'.ownsRow w.heap.size 5 1 (.slice A (is.length * 8) c) (is.length * 8) (cells (encL is))))

set_option maxRecDepth 100000 in
set_option maxHeartbeats 1000000 in
theorem encode_any (P : Nat → Prop) (A : Option Addr) (n c : Nat) (is : List Ins) (w : World) (h : Isl w P A n c is) (hn : n * 40 ≤ 140737488355328) (hs : Shps w) :
    Calls Tryd.prog 12 #[.slice A n c] w (Encoded w is) := by
  obtain ⟨i0, hi, hz0, hz1, hz2⟩ := info_parts Tryd.info_u8
  have HV := Lib.hid (areValid_any P A n c is w h (by omega) hs)
  have H := Lib.hid h.lt
  have hl := h.len
  have hw8 : wrap64 ((n : Int) * 8) = ((n * 8 : Nat) : Int) := by
    rw [IntWalk.wrap64_in _ (by omega)]
    omega
  have HW8 := Lib.hid hw8
  clear h hs
  cases hv : is.all mayB
  · rw [hv] at HV
    have HF := Lib.hid hv
    clear hv hw8
    go_enter Tryd.func12, Tryd.ntmps12
    go_wp2_with fail
    refine HV.out.mono ?_
    rintro e w1 ⟨rfl, hb⟩
    have HB := Lib.hid hb
    clear hb
    go_wp2
    go_ret2
    exact ⟨HB.out, .inl ⟨HF.out, rfl⟩⟩
  · rw [hv] at HV
    have HT := Lib.hid hv
    clear hv
    have hm3 : n * 8 ≤ maxLen := by simp only [maxLen]; omega
    go_enter Tryd.func12, Tryd.ntmps12
    go_wp2_with fail
    refine HV.out.mono ?_
    rintro e w1 ⟨rfl, hb⟩
    have HB := Lib.hid hb
    clear hb HV
    go_wp2_with (at_make; refine wpList_make_own _ rfl _ _ _ rfl w.heap.size 5 i0 _ 1 Tryd.underlying24 hi hz0 hz1 .i64 .i64 _ (n * 8) rfl rfl (by first | exact HW8.out | rfl) (by rw [hz2]; omega) hm3 HB.out.size ?_; intro w2 hown hg; have HO := Lib.hid hown; have HG := Lib.hid hg; clear hown hg)
    have HB2 := Lib.hid (HB.out.grown HG.out HB.out.size (fun k hk => by cases hk))
    go_loopw [16, 4] (fun t v wr => ∃ (k : Nat) (A' : Option Addr) (c' : Nat), k ≤ n ∧ t = .int .i64 k ∧ v = .slice A' (k * 8) c' ∧ Below w.heap.size w wr ∧ wr.ownsRow w.heap.size 5 1 (.slice A' (k * 8) c') (k * 8) (cells (encL (is.take k)))) (fun t _ _ => n - (intOf t).toNat)
    case atStart => exact ⟨0, _, _, Nat.zero_le _, rfl, rfl, HB2.out, by simpa [encL, cells] using HO.out⟩
    case round =>
      obtain ⟨k, A', c', hk, rfl, rfl, hb, ho⟩ := hrel
      have HBR := Lib.hid hb
      have HOR := Lib.hid ho
      clear hb ho HB2 HO HG HB
      by_cases hkn : k < n
      · have hki : k < is.length := by omega
        cases A with
        | none => have := (H.out.nil rfl).1; omega
        | some ad =>
          obtain ⟨b, o, rfl⟩ := H.out.plain (by omega)
          obtain ⟨c0, c1, c2, c3, c4⟩ := (H.out.below HBR.out (fun _ h => h)).get k hki
          have HTK := Lib.hid (encL_take is k hki)
          generalize is[k] = i at *
          have hx := fun w3 (h3 : w3.ownsRow w.heap.size 5 1 (.slice A' (k * 8) c') (k * 8) (cells (encL (is.take k)))) (h4 : w.heap.size ≤ w3.heap.size) => appendBytes_any w.heap.size (k * 8) (.slice A' (k * 8) c') _ i w3 h3 h4 (by omega)
          obtain ⟨op, a, b', c'', n'⟩ := i
          simp only at c0 c1 c2 c3 c4
          have HX := Lib.hid hx
          clear hx
          go_wp2_with fail
          refine (HX.out _ (HOR.out.alloc _) (by have := HBR.out.size; simp; omega)).mono ?_
          rintro e w4 ⟨v', rfl, ho4, hb4⟩
          obtain ⟨A4, c4', rfl⟩ := own_slice ho4
          have HO4 := Lib.hid ho4
          have HB4 := Lib.hid ((HBR.out.alloc HBR.out.size _).trans hb4)
          clear ho4 hb4 HX
          go_wp2
          exact ⟨⟨k + 1, A4, c4', by omega, by go_num, by rw [Nat.add_mul], HB4.out, by rw [HTK.out, cells_app, Nat.add_mul]; exact HO4.out⟩, by simp [intOf]; omega⟩
      · obtain rfl : k = n := by omega
        have HTL := Lib.hid (show encL (is.take k) = encL is by rw [List.take_of_length_le (by omega)])
        clear H
        go_wp2
        go_ret2
        refine ⟨HBR.out, .inr ⟨HT.out, A', c', ?_, ?_⟩⟩
        · rw [hl]; rfl
        · have := HOR.out
          rw [HTL.out] at this
          rw [hl]
          exact this

set_option maxRecDepth 100000 in
set_option maxHeartbeats 1000000 in
theorem rencode_any (P : Nat → Prop) (A : Option Addr) (n c : Nat) (is : List Ins) (w : World) (h : Isl w P A n c is) (hn : n * 40 ≤ 140737488355328) :
    Calls Tryd.prog 13 #[.slice A n c] w (Encoded w is) := by
  obtain ⟨i0, hi, hz0, hz1, hz2⟩ := info_parts Tryd.info_u8
  have H := Lib.hid h.lt
  have hl := h.len
  clear h
  go_enter Tryd.func13, Tryd.ntmps13
  go_wp2_with fail
  go_loopw [5, 4] (fun t v wr => ∃ (k : Nat) (A' : Option Addr) (c' : Nat), k ≤ n ∧ t = .int .i64 k ∧ v = .slice A' (k * 8) c' ∧ Below w.heap.size w wr ∧ wr.ownsRow w.heap.size 5 1 (.slice A' (k * 8) c') (k * 8) (cells (encL (is.take k))) ∧ (is.take k).all mayB = true) (fun t _ _ => n - (intOf t).toNat)
  case atStart => exact ⟨0, none, 0, Nat.zero_le _, rfl, rfl, Below.refl _ _, by simpa [encL, cells] using World.ownsRow_nil w w.heap.size 5 1, rfl⟩
  case round =>
    obtain ⟨k, A', c', hk, rfl, rfl, hb, ho, hall⟩ := hrel
    have HBR := Lib.hid hb
    have HOR := Lib.hid ho
    have HA := Lib.hid hall
    clear hb ho hall
    by_cases hkn : k < n
    · have hki : k < is.length := by omega
      cases A with
      | none => have := (H.out.nil rfl).1; omega
      | some ad =>
        obtain ⟨b, o, rfl⟩ := H.out.plain (by omega)
        have HC := Lib.hid (fun w1 (h1 : Below w.heap.size w w1) => (H.out.below h1 (fun _ h => h)).get k hki)
        obtain ⟨c0, c1, c2, c3, c4⟩ := HC.out _ HBR.out
        have HTK := Lib.hid (encL_take is k hki)
        have HAK := Lib.hid (show (is.take (k + 1)).all mayB = mayB is[k] by
          rw [List.take_succ_eq_append_getElem hki, List.all_append, HA.out]
          simp)
        have HNO := Lib.hid (show mayB is[k] = false → is.all mayB = false by
          intro h
          rw [List.all_eq_false]
          exact ⟨_, List.getElem_mem hki, fun e => Bool.noConfusion (h.symm.trans e)⟩)
        generalize is[k] = i at *
        have HM := Lib.hid (rmay_any i)
        have HX := Lib.hid (rbytes_any i)
        obtain ⟨op, a, b', c'', n'⟩ := i
        simp only at c0 c1 c2 c3 c4
        cases hm : mayB ⟨op, a, b', c'', n'⟩
        · rw [hm] at HM HNO
          clear hm HTK HAK HX
          go_wp2_with fail
          refine (HM.out _).mono ?_
          rintro e w2 ⟨rfl, hb2⟩
          have HB2 := Lib.hid (HBR.out.trans (hb2.mono HBR.out.size))
          clear hb2
          go_wp2
          go_ret2
          exact ⟨HB2.out, .inl ⟨HNO.out (by first | rfl | trivial), rfl⟩⟩
        · rw [hm] at HM HAK
          have HX := Lib.hid (fun w1 => HX.out w1 hm)
          clear hm HNO
          go_wp2_with fail
          refine (HM.out _).mono ?_
          rintro e w2 ⟨rfl, hb2⟩
          have HB2 := Lib.hid (HBR.out.trans (hb2.mono HBR.out.size))
          have HO2 := Lib.hid (HOR.out.kept (row := none) ⟨hb2.os, hb2.tape, hb2.output, hb2.size, fun k hk _ => hb2.block k hk⟩ (by cases A' <;> simp [Value.ownBlock]))
          clear hb2 c0 c1 c2 c3 c4 HM
          obtain ⟨c0, c1, c2, c3, c4⟩ := HC.out _ HB2.out
          clear HBR HOR
          go_wp2_with fail
          refine (HX.out _).mono ?_
          rintro e w3 ⟨rfl, hb3, hs3⟩
          have HB3 := Lib.hid (HB2.out.trans (hb3.mono HB2.out.size))
          have HO3 := Lib.hid (HO2.out.kept (row := none) ⟨hb3.os, hb3.tape, hb3.output, hb3.size, fun k hk _ => hb3.block k hk⟩ (by cases A' <;> simp [Value.ownBlock]))
          have HS3 := Lib.hid hs3
          have HR3 := Lib.hid HO3.out.lt
          have m1 : k * 8 + 8 ≤ maxLen := by simp only [maxLen]; omega
          have m2 : (k * 8 + 8) * 1 ≤ 140737488355328 := by omega
          have H1 := Lib.hid (cells_one (bytesOf ⟨op, a, b', c'', n'⟩))
          clear hb3 hs3 c0 c1 c2 c3 c4 HX HO2
          go_wp2_with (at_builtin; refine wpList_append_src rfl (.tmp 18) (.tmp 23) _ rfl w.heap.size 5 i0 _ 1 Tryd.underlying24 hi hz0 hz1 hz2 rfl (.slice A' (k * 8) c') (k * 8) _ rfl HO3.out _ _ 8 8 _ rfl HS3.out H1.out m1 m2 HB3.out.size ?_; intro v' w4 hown' hg hat; obtain ⟨A4, c4, rfl⟩ := own_slice hown')
          have HB4 := HB3.out.grown hg HB3.out.size (fun k hk => (HR3.out k hk).1)
          exact ⟨⟨k + 1, A4, c4, by omega, by go_num, by rw [Nat.add_mul], HB4, by rw [HTK.out, cells_app, Nat.add_mul]; exact hown', HAK.out⟩, by simp [intOf]; omega⟩
    · obtain rfl : k = n := by omega
      have HTL := Lib.hid (show is.take k = is from List.take_of_length_le (by omega))
      clear H
      go_wp2
      go_ret2
      have h1 := HOR.out
      have h2 := HA.out
      rw [HTL.out] at h1 h2
      refine ⟨HBR.out, .inr ⟨h2, A', c', ?_, ?_⟩⟩
      · rw [hl]; rfl
      · rw [hl]
        exact h1
end Go.Proofs.YtoebboimdkogpaaDoor
