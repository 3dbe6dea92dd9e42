/-
  The document's first one.
-/
import Derived.Test.YtpcgedngikpnoaaTK
import Derived.Test.YtpcgedngikpnoaaYTo
namespace Go.Proofs.Ytpcgedngikpnoaa
set_option maxRecDepth 100000
set_option linter.unusedSimpArgs false
set_option linter.unusedVariables false
open Go.RowKit

set_option maxRecDepth 100000 in
set_option maxHeartbeats 2000000 in
theorem qfirst_any (r : Sym) (A : Option Addr) (n c : Nat) (ss : List Sym) (w : World) (h : Syl w (fun k => k < w.heap.size) A n c ss) (hn : n ≤ 1000000000000000000) : Calls Try.prog 35 #[symV r, .slice A n c] w fun e w' => e = .returned (.int .i64 (firstS r ss)) ∧ Below w.heap.size w w' := by
  obtain rfl := h.len
  have H := Lib.hid h
  have HB0 := Lib.hid (box_below w r)
  have HY0 := Lib.hid (Sx.new w r)
  have HFI := Lib.hid (fun k hk h1 h2 => first_is (r := r) (ss := ss) (k := k) hk h1 h2)
  have HFN := Lib.hid (fun h1 => first_none (r := r) (ss := ss) h1)
  have HV := Lib.hid (fun (X : World) (hX : Below w.heap.size w X) => rversioned_any A ss.length c ss X (h.lt hX) hn)
  clear h
  go_enter Try.func35, Try.ntmps35
  go_upto_region 1 with (fail)
  change Code.wp _ _ _ _ (w.alloc (.cells (symA r) 25))
  generalize w.alloc (.cells (symA r) 25) = w0 at *
  generalize ss.any vdB = v at *
  go_upto_region 2 with (fail)
  go_loopw [5] (fun t wr => ∃ k : Nat, k ≤ ss.length ∧ t = .int .i64 k ∧ Below w0.heap.size w0 wr ∧ ∀ j (hj : j < ss.length), j < k → matchB r ss[j] v = false) (fun t _ => ss.length - (intOf t).toNat)
  case atStart => exact ⟨0, Nat.zero_le _, rfl, Below.refl _ _, by intro j _ hj; omega⟩
  case round =>
    obtain ⟨k, hk, rfl, hb, hall⟩ := hrel
    have HB := Lib.hid hb
    have HALL := Lib.hid hall
    clear hb hall
    by_cases hki : k < ss.length
    · obtain ⟨ad, rfl⟩ : ∃ ad, A = some ad := by
        cases A with
        | none => have := (H.out.nil rfl).1; omega
        | some ad => exact ⟨ad, rfl⟩
      obtain ⟨b, o, rfl⟩ := H.out.plain (by omega)
      have hcap := H.out.cap
      have hbw : Below w.heap.size w wr.drew := HB0.out.trans ((below_draw HB.out).mono HB0.out.size)
      have HVR := Lib.hid (HV.out _ hbw)
      obtain ⟨c0, c1, c2, c3, c4, c5, c6, c7, c8⟩ := (H.out.below hbw (fun _ h => h)).get k hki
      obtain ⟨y0, y1, y2, y3, y4, y5, y6, y7, y8⟩ := (HY0.out.below (below_draw HB.out)).cells
      have hk0 : (0 : Int) ≤ (k : Int) := by omega
      have hk1 : (k : Int) < (ss.length : Int) := by omega
      have HMA := Lib.hid (rmatch_any r ss[k] v wr.drew)
      have HYS := Lib.hid (fun h1 => HFI.out k hki h1 HALL.out)
      have HNO := Lib.hid (show matchB r ss[k] v = false → ∀ j (hj : j < ss.length), j < k + 1 → matchB r ss[j] v = false from fun h j hj hjk => by
        by_cases e : j = k
        · subst e; exact h
        · exact HALL.out j hj (by omega))
      clear hbw
      generalize ss[k] = y at *
      generalize hml : matchB r y v = ml at *
      go_upto_region 4 with (fail)
      go_still_tail 7, (by kernel_rfl)
      still_call (HVR.out.mono fun e w' h => ⟨h.1, h.2.symm⟩)
      repeat still_step
      refine wpStill_nil ?_
      change wpList _ _ _ _ _ wr.drew
      cases ml
      · have HN := Lib.hid (HNO.out rfl)
        go_upto_region 5 with (go_at_call 39; refine (HMA.out).mono ?_; rintro en w5 ⟨rfl, hb5⟩; have HB6 := Lib.hid (HB.out.trans (((drew_below wr).trans hb5).mono HB.out.size)); clear hb5)
        clear c0 c1 c2 c3 c4 c5 c6 c7 c8 y0 y1 y2 y3 y4 y5 y6 y7 y8 HMA HYS HNO
        go_wp2_with fail
        go_roundw
        case rel => exact ⟨k + 1, hki, by go_num, HB6.out, HN.out⟩
        case measure => simp [intOf]; omega
      · have HN := Lib.hid (HYS.out rfl)
        go_upto_region 99 with (go_at_call 39; refine (HMA.out).mono ?_; rintro en w5 ⟨rfl, hb5⟩; have HB6 := Lib.hid (HB.out.trans (((drew_below wr).trans hb5).mono HB.out.size)); clear hb5)
        first | go_ret | skip
        exact ⟨ret_i HN.out.symm, HB0.out.trans (HB6.out.mono HB0.out.size)⟩
    · obtain rfl : k = ss.length := by omega
      have HN := Lib.hid (HFN.out fun j hj => HALL.out j hj hj)
      go_upto_region 99 with (fail)
      first | go_ret | skip
      exact ⟨ret_i HN.out.symm, HB0.out.trans (HB.out.mono HB0.out.size)⟩
end Go.Proofs.Ytpcgedngikpnoaa
