/-
  The law ScopeLooks, walked (written by mkl.py).
-/
import Derived.Test.YtpcgedngikpnoaaI
namespace Go.Proofs.Ytpcgedngikpnoaa
set_option maxRecDepth 100000
set_option linter.unusedSimpArgs false
set_option linter.unusedVariables false
open Go.RowKit

theorem same_ints (P Q : Nat → Prop) (A B : Option Addr) (c d : Nat) (l : List Int) (w : World) (h : Src w P A l.length c (ints l)) (k : Src w Q B l.length d (ints l)) (hn : l.length ≤ 4611686018427387904) :
    Calls Try.prog 16 #[.slice A l.length c, .slice B l.length d] w fun e w' => e = .returned (.bool true) ∧ Below w.heap.size w w' := by
  have HS := Lib.hid h.lt
  have HK := Lib.hid k.lt
  clear h k
  go_enter Try.func16, Try.ntmps16
  go_wp2_with fail
  go_loopw [5] (fun i wr => ∃ j : Nat, j ≤ l.length ∧ i = .int .i64 (j : Int) ∧ Below w.heap.size w wr) (fun i _ => l.length - (intOf i).toNat)
  case atStart => exact ⟨0, Nat.zero_le _, rfl, Below.refl _ _⟩
  case round =>
    obtain ⟨j, hj, rfl, hB⟩ := hrel
    have HW := Lib.hid hB
    clear hB
    by_cases hjn : j < l.length
    · cases A with
      | none => have := (HS.out.nil rfl).1; omega
      | some ad =>
        cases B with
        | none => have := (HK.out.nil rfl).1; omega
        | some bd =>
          have hc := HS.out.below HW.out (fun j hj => hj) |>.at_ ad rfl j _ (ints_get l j hjn)
          have hc2 := HK.out.below HW.out (fun j hj => hj) |>.at_ bd rfl j _ (ints_get l j hjn)
          have hmix : Try.prog.follows .mixedOrders = true := by kernel_rfl
          generalize l[j] = p at *
          have hd1 : wr.drew.cell? (ad.add j) = some (.int .i64 p) := hc
          have hd2 : wr.drew.cell? (bd.add j) = some (.int .i64 p) := hc2
          go_wp2_with fail
          go_region
          all_goals go_wp2
          all_goals
            exact ⟨⟨j + 1, by omega, by go_num, HW.out.trans ((drew_below wr).mono HW.out.size)⟩, by simp [intOf]; omega⟩
    · obtain rfl : j = l.length := by omega
      go_wp2
      go_ret
      exact ⟨rfl, HW.out⟩
/-- A row of numbers somewhere. -/
def Nr (l : List Int) (nb : Nat) (w : World) : Prop := ∃ B, w.ownsRow B 3 1 (.slice (some ⟨nb, 0, none⟩) l.length l.length) l.length (ints l)
theorem Nr.keepb {l : List Int} {w w' : World} {nb : Nat} (h : Nr l nb w) (hb : Below w.heap.size w w') : Nr l nb w' := by
  obtain ⟨B, h⟩ := h
  exact ⟨B, own_kept h fun k hk => hb.block k (h.lt k hk).2⟩
theorem Nr.of {l : List Int} {n nb B : Nat} {w : World} (h : w.ownsRow B 3 1 (.slice (some ⟨nb, 0, none⟩) n n) n (ints l)) : Nr l nb w ∧ n = l.length := by
  have e : n = l.length := by have := h.1; simp [ints] at this; omega
  subst e
  exact ⟨⟨B, h⟩, rfl⟩
set_option maxRecDepth 100000 in
set_option maxHeartbeats 4000000 in
theorem looks_any (r : Sym) (skip : Int) (A : Option Addr) (n c : Nat) (xs : List Im) (w : World) (h : Ims w (fun k => k < w.heap.size) A n c xs) (hf : FitsS xs) (hn : n ≤ 17592186044416) (hrn : r.name.length ≤ 140737488355328) :
    Calls Try.prog 3 #[symV r, .int .i64 skip, .slice A n c] w fun e w' => e = .returned (.bool true) ∧ Below w.heap.size w w' := by
  obtain rfl := h.len
  have hbx := box_below w r
  have HB1 := Lib.hid hbx
  have HR1 := Lib.hid (Sx.new w r)
  have HI1 := Lib.hid (h.lt hbx)
  have HF := Lib.hid hf
  clear hbx h hf
  go_enter Try.func3, Try.ntmps3
  go_upto_region 1 with (fail)
  change Code.wp _ _ _ _ (w.alloc (.cells (symA r) 25))
  generalize w.alloc (.cells (symA r) 25) = w1 at *
  go_upto_region 2 with (go_at_call 12; (with_reducible refine (awake_any _).mono ?_); rintro e w2 ⟨rfl, hb2⟩; have HR2 := Lib.hid (HR1.out.below hb2); have HI2 := Lib.hid (HI1.out.lt hb2); have HB2 := Lib.hid (HB1.out.trans (hb2.mono HB1.out.size)); clear hb2 HR1 HI1 HB1)
  have HLK := Lib.hid (fun (X : World) (hX : Ims X (fun k => k < X.heap.size) A xs.length c xs) => look_any r skip A xs.length c xs X hX HF.out hn hrn)
  have HDK := Lib.hid (fun (X : World) (hX : Ims X (fun k => k < X.heap.size) A xs.length c xs) => dlook_any r skip A xs.length c xs X hX HF.out hn hrn)
  generalize lookP (fun x => (tabI r x).1) skip 0 xs = L at *
  generalize numL (tabN r) skip xs (goneP (fun x => (tabI r x).1) skip 0 xs) = nl at *
  obtain ⟨y0, y1, y2, y3, y4, y5, y6, y7, y8⟩ := HR2.out.cells
  go_upto_region 3 with (go_at_call 13; (with_reducible refine (HLK.out _ HI2.out).mono ?_); rintro e w3 ⟨nb, rfl, ho, hb3⟩; have HNA3 := Lib.hid (Nr.of ho).1; have HLN := Lib.hid (Nr.of ho).2; clear ho; have HR3 := Lib.hid (HR2.out.below hb3); have HI3 := Lib.hid (HI2.out.lt hb3); have HB3 := Lib.hid (HB2.out.trans (hb3.mono HB2.out.size)); clear HR2 HI2 HB2)
  have hbx : Below w3.heap.size w3 (w3.alloc (.cells (fdA L) 29)) := (Below.refl _ _).alloc (Nat.le_refl _) _
  have HFA4 := Lib.hid (Bx.new w3 (fdA L) 29)
  have HR4 := Lib.hid (HR3.out.below hbx)
  have HI4 := Lib.hid (HI3.out.lt hbx)
  have HNA4 := Lib.hid (HNA3.out.keepb hbx)
  have HB4 := Lib.hid (HB3.out.trans (hbx.mono HB3.out.size))
  clear HR3 HI3 HNA3 HB3
  clear hbx
  change Code.wp _ _ _ _ (w3.alloc (.cells (fdA L) 29))
  generalize (w3.alloc (.cells (fdA L) 29)) = w4 at *
  generalize w3.heap.size = g4 at *
  clear y0 y1 y2 y3 y4 y5 y6 y7 y8 hb3
  obtain ⟨y0, y1, y2, y3, y4, y5, y6, y7, y8⟩ := HR4.out.cells
  go_upto_region 4 with (go_at_call 14; (with_reducible refine (HDK.out _ HI4.out).mono ?_); rintro e w5 ⟨nd, rfl, ho, hb5⟩; have HNB5 := Lib.hid (Nr.of ho).1; clear ho; have HR5 := Lib.hid (HR4.out.below hb5); have HNA5 := Lib.hid (HNA4.out.keepb hb5); have HFA5 := Lib.hid (HFA4.out.below hb5); have HB5 := Lib.hid (HB4.out.trans (hb5.mono HB4.out.size)); clear HR4 HNA4 HFA4 HB4)
  have hbx : Below w5.heap.size w5 (w5.alloc (.cells (fdA L) 34)) := (Below.refl _ _).alloc (Nat.le_refl _) _
  have HFB6 := Lib.hid (Bx.new w5 (fdA L) 34)
  have HNA6 := Lib.hid (HNA5.out.keepb hbx)
  have HFA6 := Lib.hid (HFA5.out.below hbx)
  have HNB6 := Lib.hid (HNB5.out.keepb hbx)
  have HB6 := Lib.hid (HB5.out.trans (hbx.mono HB5.out.size))
  clear HNA5 HFA5 HNB5 HB5
  clear hbx
  change Code.wp _ _ _ _ (w5.alloc (.cells (fdA L) 34))
  generalize (w5.alloc (.cells (fdA L) 34)) = w6 at *
  generalize w5.heap.size = g6 at *
  clear y0 y1 y2 y3 y4 y5 y6 y7 y8 hb5
  obtain ⟨l0, l1, l2⟩ := L
  have a0 := HFA6.out.c 0
  have a1 := HFA6.out.c 1
  have a2 := HFA6.out.c 2
  have b0 := HFB6.out.c 0
  have b1 := HFB6.out.c 1
  have b2 := HFB6.out.c 2
  have HAL := Lib.hid (fun X => alike_any (l0, l1, l2) (l0, l1, l2) X)
  rw [decide_eq_true rfl] at HAL
  have hln := HLN.out
  rw [hln]
  have HSM := Lib.hid (fun (X : World) (h1 : Nr nl nb X) (h2 : Nr nl nd X) => show Calls Try.prog 16 #[.slice (some ⟨nb, 0, none⟩) nl.length nl.length, .slice (some ⟨nd, 0, none⟩) nl.length nl.length] X _ from by
    obtain ⟨B1, h1⟩ := h1
    obtain ⟨B2, h2⟩ := h2
    exact same_ints _ _ _ _ _ _ nl X (Src.of_own h1) (Src.of_own h2) (by omega))
  clear hln
  go_upto_region 99 with (first
    | (go_at_call 15; (with_reducible refine (HAL.out _).mono ?_); rintro e w7 ⟨rfl, hb7⟩; have HNA7 := Lib.hid (HNA6.out.keepb hb7); have HNB7 := Lib.hid (HNB6.out.keepb hb7); have HB7 := Lib.hid (HB6.out.trans (hb7.mono HB6.out.size)); clear HNA6 HNB6 HB6; clear hb7)
    | (go_at_call 16; (with_reducible refine (HSM.out _ HNA7.out HNB7.out).mono ?_); rintro e w8 ⟨rfl, hb8⟩; have HB8 := Lib.hid (HB7.out.trans (hb8.mono HB7.out.size)); clear HB7; clear hb8))
  first | go_ret2 | go_ret | skip
  exact ⟨rfl, HB8.out⟩
end Go.Proofs.Ytpcgedngikpnoaa
