/-
  The document's examples.
-/
import Derived.Test.YtoebboimdkogpaaDoorH
import Derived.Test.YtoebboimdkogpaaDoorJ
import Derived.Test.YtoebboimdkogpaaDoorQ
namespace Go.Proofs.YtoebboimdkogpaaDoor
open Go.RowKit

deriving instance DecidableEq for Ins
def exA : Str := [97, 100, 100, 32, 114, 49, 32, 114, 50, 32, 114, 49, 54]
def exB : Str := [104, 97, 108, 116, 10, 111, 117, 116, 32, 114, 51]
theorem exA_no : typedM exA = none := by decide +kernel
theorem exA_lns : lns exA = [exA] := by decide
theorem exB_lns : (lns exB).map typedM = [some ⟨0, 0, 0, 0, 0⟩, some ⟨19, 3, 0, 0, 0⟩] := by decide +kernel
theorem ex_enc : encL [⟨1, 1, 0, 0, -2⟩] = [1, 1, 0, 0, 254, 255, 255, 255] := by decide
theorem ex_may : [(⟨1, 1, 0, 0, -2⟩ : Ins)].all mayB = true := by decide

theorem ex_parseA (w : World) (he : Env w) : Calls Tryd.prog 24 #[.string ⟨#[97, 100, 100, 32, 114, 49, 32, 114, 50, 32, 114, 49, 54]⟩] w fun e w' => e = .returned (.tuple #[.slice none 0 0, .int .i64 1, .int .i64 41]) ∧ Below w.heap.size w w' := by
  refine (parse_any exA w (by decide) (by decide) (by decide) he).mono ?_
  rintro e w' ⟨hb, ⟨is, A, c, h, _⟩ | ⟨p, x, more, h, _, _, rfl⟩⟩
  · rw [exA_lns] at h
    cases is with
    | nil => simp at h
    | cons i is => simp [exA_no] at h
  · rw [exA_lns] at h
    cases p with
    | nil => exact ⟨rfl, hb⟩
    | cons a p => simp at h
theorem ex_parseB (w : World) (he : Env w) : Calls Tryd.prog 24 #[.string ⟨#[104, 97, 108, 116, 10, 111, 117, 116, 32, 114, 51]⟩] w fun e w' => ∃ A c, e = .returned (.tuple #[.slice A 2 c, .int .i64 0, .int .i64 0]) ∧ Below w.heap.size w w' ∧ w'.ownsRow w.heap.size 35 5 (.slice A 2 c) 2 (icells [⟨0, 0, 0, 0, 0⟩, ⟨19, 3, 0, 0, 0⟩]) := by
  refine (parse_any exB w (by decide) (by decide) (by decide) he).mono ?_
  have hB := exB_lns
  rintro e w' ⟨hb, ⟨is, A, c, h, rfl, ho⟩ | ⟨p, x, more, h, _, hx, _⟩⟩
  · rw [hB] at h
    have hi : is = [⟨0, 0, 0, 0, 0⟩, ⟨19, 3, 0, 0, 0⟩] := by
      match is, h with
      | [a, b], h => simp at h; rw [h.1, h.2]
    subst hi
    exact ⟨A, c, rfl, hb, ho⟩
  · rw [h] at hB
    have h1 : typedM x ∈ (p ++ x :: more).map typedM := List.mem_map_of_mem (by simp)
    rw [hB, hx] at h1
    simp at h1
theorem conv_string {w : World} {P : Nat → Prop} {A : Option Addr} {n c : Nat} {l : Str} (h : Src w P A n c (cells l)) : (convert 24 9 (.slice A n c)).run Tryd.prog w = .ok (str l) w := by
  have hl : l.length = n := by have := h.len; simpa [cells_len] using this
  subst hl
  cases A with
  | none =>
    have h0 := (h.nil rfl).1
    have : l = [] := List.eq_nil_of_length_eq_zero h0
    subst this
    exact run_convert_bytes_nil w 24 5 Tryd.underlying24 Tryd.underlying5 _ _ 9 Tryd.underlying9
  | some a =>
    exact run_convert_bytes_back w 24 9 5 a c l Tryd.underlying24 Tryd.underlying5 Tryd.underlying9 fun j hj => h.at_ a rfl j _ (by simp [cells, hj])
theorem ex_two {w : World} {B : Nat} {A : Option Addr} {c : Nat} (ho : w.ownsRow B 35 5 (.slice A 2 c) 2 (icells [⟨0, 0, 0, 0, 0⟩, ⟨19, 3, 0, 0, 0⟩])) : ∃ g, A = some ⟨g, 0, none⟩ ∧ w.cell? ⟨g, 5, none⟩ = some (.int .i64 19) ∧ w.cell? ⟨g, 6, none⟩ = some (.int .i64 3) ∧ w.cell? ⟨g, 7, none⟩ = some (.int .i64 0) ∧ w.cell? ⟨g, 8, none⟩ = some (.int .i64 0) ∧ w.cell? ⟨g, 9, none⟩ = some (.int .i64 0) := by
  have h := (Isl.of_own ho).at_
  rcases ho.2 with ⟨h1, _⟩ | ⟨g, cap, cur, h1, _⟩
  · cases h1
  · cases h1
    obtain ⟨h1, h2, h3, h4, h5⟩ := h _ rfl 1 (by decide)
    exact ⟨g, rfl, h1, h2, h3, h4, h5⟩
theorem isl_one (w : World) (i : Ins) : Isl (w.alloc (.cells #[.int .i64 i.op, .int .i64 i.a, .int .i64 i.b, .int .i64 i.c, .int .i64 i.n] 35)) (fun k => k < w.heap.size + 1) (some ⟨w.heap.size, 0, none⟩) 1 1 [i] := by
  have h := Bx.new w #[.int .i64 i.op, .int .i64 i.a, .int .i64 i.b, .int .i64 i.c, .int .i64 i.n] 35
  refine ⟨rfl, (by intro h; cases h), Nat.le_refl _, (by intro ad h _; cases h; show w.heap.size < _; omega), ?_⟩
  intro ad had k hk
  cases had
  obtain rfl : k = 0 := by simp at hk; omega
  exact ⟨h.c 0, h.c 1, h.c 2, h.c 3, h.c 4⟩
theorem ex_encode (w : World) (P : Nat → Prop) (A : Option Addr) (c : Nat) (h : Isl w P A 1 c [⟨1, 1, 0, 0, -2⟩]) (hs : Shps w) : Calls Tryd.prog 12 #[.slice A 1 c] w fun e w' => ∃ A c, e = .returned (.tuple #[.slice A 8 c, .int .i64 0]) ∧ Below w.heap.size w w' ∧ w'.ownsRow w.heap.size 5 1 (.slice A 8 c) 8 (cells [1, 1, 0, 0, 254, 255, 255, 255]) := by
  refine (encode_any P A 1 c _ w h (by decide) hs).mono ?_
  rintro e w' ⟨hb, ⟨h1, _⟩ | ⟨_, A, c, rfl, ho⟩⟩
  · rw [ex_may] at h1; cases h1
  · rw [ex_enc] at ho
    exact ⟨A, c, rfl, hb, ho⟩

set_option maxRecDepth 100000 in
set_option maxHeartbeats 4000000 in
theorem awake_any (w : World) (he : Env w) : Calls Tryd.prog 11 #[] w fun e w' => e = .returned (.bool true) ∧ Below w.heap.size w w' := by
  have HE := Lib.hid he
  have HI := Lib.hid (isl_one w ⟨1, 1, 0, 0, -2⟩)
  clear he
  go_enter Tryd.func11, Tryd.ntmps11
  go_wp2_with fail
  have HB1 := Lib.hid ((Below.refl w.heap.size w).alloc (Nat.le_refl _) (.cells #[.int .i64 1, .int .i64 1, .int .i64 0, .int .i64 0, .int .i64 (-2)] 35))
  refine (ex_encode _ _ _ _ HI.out (HE.out.below HB1.out).sh).mono ?_
  rintro e w1 ⟨A1, c1, rfl, hb1, ho1⟩
  have HB2 := Lib.hid (HB1.out.trans (hb1.mono HB1.out.size))
  have hc1 := conv_string (Src.of_own ho1)
  have HO1 := Lib.hid ho1
  clear hb1 ho1 HI HB1 hc1
  go_wp2_with fail
  refine (ex_parseA _ (HE.out.below HB2.out)).mono ?_
  rintro e w2 ⟨rfl, hb2⟩
  have HB3 := Lib.hid (HB2.out.trans (hb2.mono HB2.out.size))
  have HS2 := Lib.hid ((Src.of_own HO1.out).lt.below hb2 (fun _ h => h))
  clear hb2 HO1 HB2
  go_wp2_with fail
  refine (ex_parseB _ (HE.out.below HB3.out)).mono ?_
  rintro e w3 ⟨A3, c3, rfl, hb3, ho3⟩
  have HB4 := Lib.hid (HB3.out.trans (hb3.mono HB3.out.size))
  obtain ⟨g, rfl, k0, k1, k2, k3, k4⟩ := ex_two ho3
  have hc := conv_string (HS2.out.lt.below hb3 (fun _ h => h))
  clear hb3 ho3 HS2 HB3 HE
  go_wp2_with fail
  go_ret
  exact ⟨rfl, HB4.out⟩
end Go.Proofs.YtoebboimdkogpaaDoor
