/-
  Instructions, one behind the other: the law's walk.
-/
import Derived.Test.YtoebboimdkogpaaDoorMForm
namespace Go.Proofs.YtoebboimdkogpaaDoor
open Go.RowKit

theorem isl_cells {w : World} {P : Nat → Prop} {A : Option Addr} {n c : Nat} {is : List Ins} (h : Isl w P A n c is) : ∀ ad, A = some ad → ∀ j u, (icells is)[j]? = some u → w.cell? (ad.add j) = some u := by
  intro ad hA j u hu
  have hj : j < is.length * 5 := by have := (List.getElem?_eq_some_iff.1 hu).1; rw [icells_len] at this; exact this
  have hk : j / 5 < is.length := by omega
  have h1 := icells_at is (j / 5) hk (j % 5) (Nat.mod_lt _ (by decide))
  rw [show j / 5 * 5 + j % 5 = j by omega, hu] at h1
  obtain ⟨c0, c1, c2, c3, c4⟩ := h.at_ ad hA (j / 5) hk
  have hm : j % 5 = 0 ∨ j % 5 = 1 ∨ j % 5 = 2 ∨ j % 5 = 3 ∨ j % 5 = 4 := by omega
  rw [show j = j / 5 * 5 + j % 5 by omega]
  rcases hm with hm | hm | hm | hm | hm <;> rw [hm] at h1 ⊢ <;> simp only [List.getElem?_cons_zero, List.getElem?_cons_succ] at h1 <;> rw [h1] <;> simpa [addAdd, Nat.add_assoc] using (by assumption)

/-- An append of instructions that can be read, none or not, onto a row of the call's own. -/
theorem wpList_append_ins {w : World} {ops : Array Oper} {rest : List Oper} {o : Oper} {a : Act} {Q : Exit → Act → World → Prop} (hgd : o.guard = none) (s x : Operand)
    (ho : o.op = .call { callee := .builtin .append, args := #[s, x], argTypes := #[22, 22] })
    (base : Nat) (A : Option Addr) (n c : Nat) (is : List Ins) (hs : a.eval s = .slice A n c) (hown : w.ownsRow base 35 5 (.slice A n c) n (icells is))
    (P : Nat → Prop) (B : Option Addr) (m d : Nat) (js : List Ins) (hx : a.eval x = .slice B m d) (hr : Isl w P B m d js)
    (hbytes : (n + m) * 40 ≤ 140737488355328) (hbase : base ≤ w.heap.size)
    (h : ∀ A' c' w', w'.ownsRow base 35 5 (.slice A' (n + m) c') (n + m) (icells (is ++ js)) → w.grownBy w' (Value.slice A n c).ownBlock → wpList Tryd.prog ops Q rest (a.put o.dst (.slice A' (n + m) c')) w') : wpList Tryd.prog ops Q (o :: rest) a w := by
  obtain ⟨i0, hi, hz0, hz1, hz2⟩ := info_parts Tryd.info_inst
  cases B with
  | none =>
    obtain ⟨rfl, rfl⟩ := hr.nil rfl
    have hn : js = [] := List.eq_nil_of_length_eq_zero hr.len
    subst hn
    exact wpList_append_own_none hgd s x 22 ho base 35 i0 5 Tryd.underlying22 hi (.slice A n c) n (icells is) hs hown hx (h A c w (by simpa using hown) (World.grownBy.refl w _))
  | some ad =>
    have hl := hr.len
    exact wpList_append_own_at w hgd s x 22 ho base 35 i0 _ 5 40 Tryd.underlying22 hi hz0 hz1 hz2 rfl (by decide) (.slice A n c) n (icells is) hs hown ad m d (icells js) hx (by rw [icells_len, hl]) (isl_cells hr ad rfl) (icells_one js) (by simp only [maxLen]; omega) hbytes hbase fun v' w' a1 a2 _ _ => by
      obtain ⟨A', c', rfl⟩ := own_slice5 a1
      exact h A' c' w' (by rw [icells_app]; exact a1) a2

/-- Encode and Print of instructions that may be, or not. -/
theorem encode_yes (P : Nat → Prop) (A : Option Addr) (n c : Nat) (is : List Ins) (w : World) (h : Isl w P A n c is) (hn : n * 40 ≤ 140737488351232) (he : Env w) (hv : is.all mayB = true) :
    Calls Tryd.prog 12 #[.slice A n c] w fun e w' => Below w.heap.size w w' ∧ ∃ A' c', e = .returned (.tuple #[.slice A' (encL is).length c', .int .i64 0]) ∧ Src w' (fun k => k < w'.heap.size) A' (encL is).length c' (cells (encL is)) := by
  refine (encode_any P A n c is w h (by omega) he.sh).mono ?_
  rintro e w' ⟨hb, ⟨h0, _⟩ | ⟨_, A', c', rfl, ho⟩⟩
  · rw [hv] at h0; cases h0
  · rw [← encL_len] at ho ⊢
    exact ⟨hb, A', c', rfl, (Src.of_own ho).lt⟩
theorem encode_no (P : Nat → Prop) (A : Option Addr) (n c : Nat) (is : List Ins) (w : World) (h : Isl w P A n c is) (hn : n * 40 ≤ 140737488351232) (he : Env w) (hv : is.all mayB = false) :
    Calls Tryd.prog 12 #[.slice A n c] w fun e w' => Below w.heap.size w w' ∧ e = .returned (.tuple #[.slice none 0 0, .int .i64 40]) := by
  refine (encode_any P A n c is w h (by omega) he.sh).mono ?_
  rintro e w' ⟨hb, ⟨_, rfl⟩ | ⟨h0, _⟩⟩
  · exact ⟨hb, rfl⟩
  · rw [hv] at h0; cases h0
theorem print_yes (P : Nat → Prop) (A : Option Addr) (n c : Nat) (is : List Ins) (w : World) (h : Isl w P A n c is) (hn : n * 40 ≤ 140737488351232) (he : Env w) (hv : is.all mayB = true) :
    Calls Tryd.prog 14 #[.slice A n c] w fun e w' => Below w.heap.size w w' ∧ e = .returned (.tuple #[str (textOf is), .int .i64 0]) := by
  refine (print_any P A n c is w h hn he).mono ?_
  rintro e w' ⟨hb, ⟨h0, _⟩ | ⟨_, rfl⟩⟩
  · rw [hv] at h0; cases h0
  · exact ⟨hb, rfl⟩
theorem print_no (P : Nat → Prop) (A : Option Addr) (n c : Nat) (is : List Ins) (w : World) (h : Isl w P A n c is) (hn : n * 40 ≤ 140737488351232) (he : Env w) (hv : is.all mayB = false) :
    Calls Tryd.prog 14 #[.slice A n c] w fun e w' => Below w.heap.size w w' ∧ e = .returned (.tuple #[str [], .int .i64 40]) := by
  refine (print_any P A n c is w h hn he).mono ?_
  rintro e w' ⟨hb, ⟨_, rfl⟩ | ⟨h0, _⟩⟩
  · exact ⟨hb, rfl⟩
  · rw [hv] at h0; cases h0

set_option maxRecDepth 100000 in
set_option maxHeartbeats 4000000 in
theorem parts_any (A : Option Addr) (n c : Nat) (is : List Ins) (B : Option Addr) (m d : Nat) (js : List Ins) (w : World) (h : Isl w (fun k => k < w.heap.size) A n c is) (h2 : Isl w (fun k => k < w.heap.size) B m d js) (hn : n + m ≤ 1048576) (he : Env w) :
    Calls Tryd.prog 8 #[.slice A n c, .slice B m d] w fun e w' => e = .returned (.bool true) ∧ Below w.heap.size w w' := by
  have hl := h.len
  have hl2 := h2.len
  subst hl hl2
  have H := Lib.hid h
  have H2 := Lib.hid h2
  have HE := Lib.hid he
  have HA := Lib.hid (awake_any w he)
  have hb1 : is.length * 40 ≤ 140737488351232 := by omega
  have hb2 : js.length * 40 ≤ 140737488351232 := by omega
  have hb3 : (is ++ js).length * 40 ≤ 140737488351232 := by rw [List.length_append]; omega
  have hb4 : (0 + is.length) * 40 ≤ 140737488355328 := by omega
  have hb5 : (is.length + js.length) * 40 ≤ 140737488355328 := by omega
  have HL := Lib.hid (show is.length + js.length = (is ++ js).length by simp)
  clear h h2 he
  go_enter Tryd.func8, Tryd.ntmps8
  go_wp2_with fail
  refine HA.out.mono ?_
  rintro e w1 ⟨rfl, hb1'⟩
  have HB1 := Lib.hid hb1'
  have HN1 := Lib.hid (World.ownsRow_nil w1 w.heap.size 35 5)
  clear hb1' HA
  go_wp2_with (first
    | (at_builtin; refine wpList_append_ins rfl _ _ rfl w.heap.size none 0 0 [] rfl HN1.out (fun k => k < w.heap.size) A is.length c is rfl (H.out.below HB1.out (fun _ h => h)) hb4 HB1.out.size ?_; intro A3 c3 w2 hown hg; have HO2 := Lib.hid (show w2.ownsRow w.heap.size 35 5 (.slice A3 is.length c3) is.length (icells is) by simpa using hown); have HB2 := Lib.hid (HB1.out.grown hg HB1.out.size (fun k hk => by cases hk)); clear hown hg)
    | (at_builtin; refine wpList_append_ins rfl _ _ rfl w.heap.size A3 is.length c3 is rfl HO2.out (fun k => k < w.heap.size) B js.length d js rfl (H2.out.below HB2.out (fun _ h => h)) hb5 HB2.out.size ?_; intro A4 c4 w3 hown hg; have HO3 := Lib.hid hown; have HB3 := Lib.hid (HB2.out.grown hg HB2.out.size (fun k hk => (HO2.out.lt k hk).1)); clear hown hg))
  have HI3 := Lib.hid ((Isl.of_own HO3.out).lt)
  have HM := Lib.hid (show (is ++ js).all mayB = (is.all mayB && js.all mayB) by rw [List.all_append])
  have HN3 := Lib.hid (show (is.length + js.length) * 40 ≤ 140737488351232 by omega)
  have HNA := Lib.hid hb1
  have HNB := Lib.hid hb2
  have HEA := Lib.hid (encL_app is js)
  have HTA := Lib.hid (text_app is js)
  have HLE := Lib.hid (show (encL is).length ≤ 8388608 ∧ (encL js).length ≤ 8388608 by rw [encL_len, encL_len]; omega)
  have HLT := Lib.hid (show (is.all mayB = true → (textOf is).length ≤ 33554432) ∧ (js.all mayB = true → (textOf js).length ≤ 33554432) from ⟨fun h => by have := text_len is h; omega, fun h => by have := text_len js h; omega⟩)
  clear hb1 hb2 hb3 hb4 hb5 HL HN1 HO2 HB1 HB2 HO3
  cases hva : is.all mayB
  · have HVA := Lib.hid hva
    cases hvb : js.all mayB
    · have HVB := Lib.hid hvb
      clear hva hvb
      have HVL := Lib.hid (show (is ++ js).all mayB = false by rw [HM.out, HVA.out, HVB.out]; rfl)
      go_wp2_with fail
      refine (encode_no _ A is.length c is w3 (H.out.below HB3.out (fun _ h => h)) HNA.out (HE.out.below HB3.out) HVA.out).mono ?_
      rintro e w4 ⟨hb4, rfl⟩
      have HB4 := Lib.hid (HB3.out.trans (hb4.mono HB3.out.size))
      have HI4 := Lib.hid (HI3.out.lt.below hb4 (fun _ h => h))
      clear hb4 HI3 HB3
      go_wp2_with fail
      refine (encode_no _ B js.length d js w4 (H2.out.below HB4.out (fun _ h => h)) HNB.out (HE.out.below HB4.out) HVB.out).mono ?_
      rintro e w5 ⟨hb5, rfl⟩
      have HB5 := Lib.hid (HB4.out.trans (hb5.mono HB4.out.size))
      have HI5 := Lib.hid (HI4.out.lt.below hb5 (fun _ h => h))
      clear hb5 HI4 HB4
      go_wp2_with fail
      refine (encode_no _ A4 (is.length + js.length) c4 (is ++ js) w5 (HI5.out) HN3.out (HE.out.below HB5.out) HVL.out).mono ?_
      rintro e w6 ⟨hb6, rfl⟩
      have HB6 := Lib.hid (HB5.out.trans (hb6.mono HB5.out.size))
      have HI6 := Lib.hid (HI5.out.lt.below hb6 (fun _ h => h))
      clear hb6 HI5 HB5
      go_wp2_with fail
      refine (print_no _ A is.length c is w6 (H.out.below HB6.out (fun _ h => h)) HNA.out (HE.out.below HB6.out) HVA.out).mono ?_
      rintro e w7 ⟨hb7, rfl⟩
      have HB7 := Lib.hid (HB6.out.trans (hb7.mono HB6.out.size))
      have HI7 := Lib.hid (HI6.out.lt.below hb7 (fun _ h => h))
      clear hb7 HI6 HB6
      go_wp2_with fail
      refine (print_no _ B js.length d js w7 (H2.out.below HB7.out (fun _ h => h)) HNB.out (HE.out.below HB7.out) HVB.out).mono ?_
      rintro e w8 ⟨hb8, rfl⟩
      have HB8 := Lib.hid (HB7.out.trans (hb8.mono HB7.out.size))
      have HI8 := Lib.hid (HI7.out.lt.below hb8 (fun _ h => h))
      clear hb8 HI7 HB7
      go_wp2_with fail
      refine (print_no _ A4 (is.length + js.length) c4 (is ++ js) w8 (HI8.out) HN3.out (HE.out.below HB8.out) HVL.out).mono ?_
      rintro e w9 ⟨hb9, rfl⟩
      have HB9 := Lib.hid (HB8.out.trans (hb9.mono HB8.out.size))
      have HI9 := Lib.hid (HI8.out.lt.below hb9 (fun _ h => h))
      clear hb9 HI8 HB8
      go_wp2_with fail
      go_ret
      exact ⟨by simp, HB9.out⟩
    · have HVB := Lib.hid hvb
      clear hva hvb
      have HVL := Lib.hid (show (is ++ js).all mayB = false by rw [HM.out, HVA.out, HVB.out]; rfl)
      go_wp2_with fail
      refine (encode_no _ A is.length c is w3 (H.out.below HB3.out (fun _ h => h)) HNA.out (HE.out.below HB3.out) HVA.out).mono ?_
      rintro e w4 ⟨hb4, rfl⟩
      have HB4 := Lib.hid (HB3.out.trans (hb4.mono HB3.out.size))
      have HI4 := Lib.hid (HI3.out.lt.below hb4 (fun _ h => h))
      clear hb4 HI3 HB3
      go_wp2_with fail
      refine (encode_yes _ B js.length d js w4 (H2.out.below HB4.out (fun _ h => h)) HNB.out (HE.out.below HB4.out) HVB.out).mono ?_
      rintro e w5 ⟨hb5, Eb, fb, rfl, hsb⟩
      have HB5 := Lib.hid (HB4.out.trans (hb5.mono HB4.out.size))
      have HI5 := Lib.hid (HI4.out.lt.below hb5 (fun _ h => h))
      have HSb5 := Lib.hid hsb
      clear hb5 HI4 HB4 hsb
      go_wp2_with fail
      refine (encode_no _ A4 (is.length + js.length) c4 (is ++ js) w5 (HI5.out) HN3.out (HE.out.below HB5.out) HVL.out).mono ?_
      rintro e w6 ⟨hb6, rfl⟩
      have HB6 := Lib.hid (HB5.out.trans (hb6.mono HB5.out.size))
      have HI6 := Lib.hid (HI5.out.lt.below hb6 (fun _ h => h))
      have HSb6 := Lib.hid (HSb5.out.lt.below hb6 (fun _ h => h))
      clear hb6 HI5 HB5 HSb5
      go_wp2_with fail
      refine (print_no _ A is.length c is w6 (H.out.below HB6.out (fun _ h => h)) HNA.out (HE.out.below HB6.out) HVA.out).mono ?_
      rintro e w7 ⟨hb7, rfl⟩
      have HB7 := Lib.hid (HB6.out.trans (hb7.mono HB6.out.size))
      have HI7 := Lib.hid (HI6.out.lt.below hb7 (fun _ h => h))
      have HSb7 := Lib.hid (HSb6.out.lt.below hb7 (fun _ h => h))
      clear hb7 HI6 HB6 HSb6
      go_wp2_with fail
      refine (print_yes _ B js.length d js w7 (H2.out.below HB7.out (fun _ h => h)) HNB.out (HE.out.below HB7.out) HVB.out).mono ?_
      rintro e w8 ⟨hb8, rfl⟩
      have HB8 := Lib.hid (HB7.out.trans (hb8.mono HB7.out.size))
      have HI8 := Lib.hid (HI7.out.lt.below hb8 (fun _ h => h))
      have HSb8 := Lib.hid (HSb7.out.lt.below hb8 (fun _ h => h))
      clear hb8 HI7 HB7 HSb7
      go_wp2_with fail
      refine (print_no _ A4 (is.length + js.length) c4 (is ++ js) w8 (HI8.out) HN3.out (HE.out.below HB8.out) HVL.out).mono ?_
      rintro e w9 ⟨hb9, rfl⟩
      have HB9 := Lib.hid (HB8.out.trans (hb9.mono HB8.out.size))
      have HI9 := Lib.hid (HI8.out.lt.below hb9 (fun _ h => h))
      have HSb9 := Lib.hid (HSb8.out.lt.below hb9 (fun _ h => h))
      clear hb9 HI8 HB8 HSb8
      go_wp2_with fail
      go_ret
      exact ⟨by simp, HB9.out⟩
  · have HVA := Lib.hid hva
    cases hvb : js.all mayB
    · have HVB := Lib.hid hvb
      clear hva hvb
      have HVL := Lib.hid (show (is ++ js).all mayB = false by rw [HM.out, HVA.out, HVB.out]; rfl)
      go_wp2_with fail
      refine (encode_yes _ A is.length c is w3 (H.out.below HB3.out (fun _ h => h)) HNA.out (HE.out.below HB3.out) HVA.out).mono ?_
      rintro e w4 ⟨hb4, Ea, fa, rfl, hsa⟩
      have HB4 := Lib.hid (HB3.out.trans (hb4.mono HB3.out.size))
      have HI4 := Lib.hid (HI3.out.lt.below hb4 (fun _ h => h))
      have HSa4 := Lib.hid hsa
      clear hb4 HI3 HB3 hsa
      go_wp2_with fail
      refine (encode_no _ B js.length d js w4 (H2.out.below HB4.out (fun _ h => h)) HNB.out (HE.out.below HB4.out) HVB.out).mono ?_
      rintro e w5 ⟨hb5, rfl⟩
      have HB5 := Lib.hid (HB4.out.trans (hb5.mono HB4.out.size))
      have HI5 := Lib.hid (HI4.out.lt.below hb5 (fun _ h => h))
      have HSa5 := Lib.hid (HSa4.out.lt.below hb5 (fun _ h => h))
      clear hb5 HI4 HB4 HSa4
      go_wp2_with fail
      refine (encode_no _ A4 (is.length + js.length) c4 (is ++ js) w5 (HI5.out) HN3.out (HE.out.below HB5.out) HVL.out).mono ?_
      rintro e w6 ⟨hb6, rfl⟩
      have HB6 := Lib.hid (HB5.out.trans (hb6.mono HB5.out.size))
      have HI6 := Lib.hid (HI5.out.lt.below hb6 (fun _ h => h))
      have HSa6 := Lib.hid (HSa5.out.lt.below hb6 (fun _ h => h))
      clear hb6 HI5 HB5 HSa5
      go_wp2_with fail
      refine (print_yes _ A is.length c is w6 (H.out.below HB6.out (fun _ h => h)) HNA.out (HE.out.below HB6.out) HVA.out).mono ?_
      rintro e w7 ⟨hb7, rfl⟩
      have HB7 := Lib.hid (HB6.out.trans (hb7.mono HB6.out.size))
      have HI7 := Lib.hid (HI6.out.lt.below hb7 (fun _ h => h))
      have HSa7 := Lib.hid (HSa6.out.lt.below hb7 (fun _ h => h))
      clear hb7 HI6 HB6 HSa6
      go_wp2_with fail
      refine (print_no _ B js.length d js w7 (H2.out.below HB7.out (fun _ h => h)) HNB.out (HE.out.below HB7.out) HVB.out).mono ?_
      rintro e w8 ⟨hb8, rfl⟩
      have HB8 := Lib.hid (HB7.out.trans (hb8.mono HB7.out.size))
      have HI8 := Lib.hid (HI7.out.lt.below hb8 (fun _ h => h))
      have HSa8 := Lib.hid (HSa7.out.lt.below hb8 (fun _ h => h))
      clear hb8 HI7 HB7 HSa7
      go_wp2_with fail
      refine (print_no _ A4 (is.length + js.length) c4 (is ++ js) w8 (HI8.out) HN3.out (HE.out.below HB8.out) HVL.out).mono ?_
      rintro e w9 ⟨hb9, rfl⟩
      have HB9 := Lib.hid (HB8.out.trans (hb9.mono HB8.out.size))
      have HI9 := Lib.hid (HI8.out.lt.below hb9 (fun _ h => h))
      have HSa9 := Lib.hid (HSa8.out.lt.below hb9 (fun _ h => h))
      clear hb9 HI8 HB8 HSa8
      go_wp2_with fail
      go_ret
      exact ⟨by simp, HB9.out⟩
    · have HVB := Lib.hid hvb
      clear hva hvb
      have HVL := Lib.hid (show (is ++ js).all mayB = true by rw [HM.out, HVA.out, HVB.out]; rfl)
      go_wp2_with fail
      refine (encode_yes _ A is.length c is w3 (H.out.below HB3.out (fun _ h => h)) HNA.out (HE.out.below HB3.out) HVA.out).mono ?_
      rintro e w4 ⟨hb4, Ea, fa, rfl, hsa⟩
      have HB4 := Lib.hid (HB3.out.trans (hb4.mono HB3.out.size))
      have HI4 := Lib.hid (HI3.out.lt.below hb4 (fun _ h => h))
      have HSa4 := Lib.hid hsa
      clear hb4 HI3 HB3 hsa
      go_wp2_with fail
      refine (encode_yes _ B js.length d js w4 (H2.out.below HB4.out (fun _ h => h)) HNB.out (HE.out.below HB4.out) HVB.out).mono ?_
      rintro e w5 ⟨hb5, Eb, fb, rfl, hsb⟩
      have HB5 := Lib.hid (HB4.out.trans (hb5.mono HB4.out.size))
      have HI5 := Lib.hid (HI4.out.lt.below hb5 (fun _ h => h))
      have HSa5 := Lib.hid (HSa4.out.lt.below hb5 (fun _ h => h))
      have HSb5 := Lib.hid hsb
      clear hb5 HI4 HB4 HSa4 hsb
      go_wp2_with fail
      refine (encode_yes _ A4 (is.length + js.length) c4 (is ++ js) w5 (HI5.out) HN3.out (HE.out.below HB5.out) HVL.out).mono ?_
      rintro e w6 ⟨hb6, El, fl, rfl, hsl⟩
      have HB6 := Lib.hid (HB5.out.trans (hb6.mono HB5.out.size))
      have HI6 := Lib.hid (HI5.out.lt.below hb6 (fun _ h => h))
      have HSa6 := Lib.hid (HSa5.out.lt.below hb6 (fun _ h => h))
      have HSb6 := Lib.hid (HSb5.out.lt.below hb6 (fun _ h => h))
      have HSl6 := Lib.hid hsl
      clear hb6 HI5 HB5 HSa5 HSb5 hsl
      go_wp2_with fail
      refine (print_yes _ A is.length c is w6 (H.out.below HB6.out (fun _ h => h)) HNA.out (HE.out.below HB6.out) HVA.out).mono ?_
      rintro e w7 ⟨hb7, rfl⟩
      have HB7 := Lib.hid (HB6.out.trans (hb7.mono HB6.out.size))
      have HI7 := Lib.hid (HI6.out.lt.below hb7 (fun _ h => h))
      have HSa7 := Lib.hid (HSa6.out.lt.below hb7 (fun _ h => h))
      have HSb7 := Lib.hid (HSb6.out.lt.below hb7 (fun _ h => h))
      have HSl7 := Lib.hid (HSl6.out.lt.below hb7 (fun _ h => h))
      clear hb7 HI6 HB6 HSa6 HSb6 HSl6
      go_wp2_with fail
      refine (print_yes _ B js.length d js w7 (H2.out.below HB7.out (fun _ h => h)) HNB.out (HE.out.below HB7.out) HVB.out).mono ?_
      rintro e w8 ⟨hb8, rfl⟩
      have HB8 := Lib.hid (HB7.out.trans (hb8.mono HB7.out.size))
      have HI8 := Lib.hid (HI7.out.lt.below hb8 (fun _ h => h))
      have HSa8 := Lib.hid (HSa7.out.lt.below hb8 (fun _ h => h))
      have HSb8 := Lib.hid (HSb7.out.lt.below hb8 (fun _ h => h))
      have HSl8 := Lib.hid (HSl7.out.lt.below hb8 (fun _ h => h))
      clear hb8 HI7 HB7 HSa7 HSb7 HSl7
      go_wp2_with fail
      refine (print_yes _ A4 (is.length + js.length) c4 (is ++ js) w8 (HI8.out) HN3.out (HE.out.below HB8.out) HVL.out).mono ?_
      rintro e w9 ⟨hb9, rfl⟩
      have HB9 := Lib.hid (HB8.out.trans (hb9.mono HB8.out.size))
      have HI9 := Lib.hid (HI8.out.lt.below hb9 (fun _ h => h))
      have HSa9 := Lib.hid (HSa8.out.lt.below hb9 (fun _ h => h))
      have HSb9 := Lib.hid (HSb8.out.lt.below hb9 (fun _ h => h))
      have HSl9 := Lib.hid (HSl8.out.lt.below hb9 (fun _ h => h))
      clear hb9 HI8 HB8 HSa8 HSb8 HSl8
      have hca := conv_string HSa9.out
      have hcb := conv_string HSb9.out
      have hcl := conv_string HSl9.out
      rw [HEA.out, List.length_append] at hcl ⊢
      rw [HTA.out]
      have hadd := add_str (encL is) (encL js) (by have := HLE.out; omega) w9
      have hadd2 := add_str (textOf is) (textOf js) (by have h1 := HLT.out.1 HVA.out; have h2 := HLT.out.2 HVB.out; omega) w9
      go_wp2_with fail
      go_ret
      exact ⟨by simp, HB9.out⟩
end Go.Proofs.YtoebboimdkogpaaDoor
