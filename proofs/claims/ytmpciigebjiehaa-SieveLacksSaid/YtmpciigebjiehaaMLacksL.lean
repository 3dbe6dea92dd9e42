/-
  The law of what a filter lacks, walked.
-/
import Derived.Test.YtmpciigebjiehaaL
namespace Go.Proofs.Ytmpciigebjiehaa
open Go.RowKit

theorem rlacks_n (P : Nat → Prop) (A : Option Addr) (n c : Nat) (l : List UInt64) (s : Int) (h : UInt32) (w : World) (hx : Src w P A n c (wds l)) (hn : n ≤ 9223372036854775807) :
    Calls Try.prog 26 #[flt A n c s, u32v h] w fun e w' => e = .returned (.bool (lacksB l s h)) ∧ Below w.heap.size w w' := by
  obtain rfl : l.length = n := by simpa [wds_len] using hx.len
  exact rLacks_any P A c l s h w hx hn

set_option maxHeartbeats 2000000 in
theorem lacksL_any (A : Option Addr) (n c : Nat) (s : Int) (l : List UInt64) (h : UInt32) (w : World) (hx : Src w (fun k => k < w.heap.size) A n c (wds l)) (hn : n ≤ 9223372036854775807) :
    Calls Try.prog 6 #[flt A n c s, u32v h] w fun e w' => e = .returned (.bool true) ∧ Below w.heap.size w w' := by
  have HX := Lib.hid hx
  have HBX := Lib.hid (Bx.new w A n c s)
  have HB0 := Lib.hid ((Below.refl w.heap.size w).alloc (Nat.le_refl _) (.cells #[.slice A n c, .int .i64 s] 30))
  clear hx
  go_enter Try.func6, Try.ntmps6
  go_wp2
  have h0 := HBX.out.c0
  have h1 := HBX.out.c1
  generalize w.alloc (.cells #[.slice A n c, .int .i64 s] 30) = w0 at *
  have HA := Lib.hid ((awake_any w0.drew).mono (R' := fun e w' => e = .returned (.bool true) ∧ Below w.heap.size w w' ∧ Bx w' w.heap.size A n c s) (fun e w' h => ⟨h.1, HB0.out.drew.trans (h.2.mono HB0.out.drew.size), (HBX.out.below (drew_below w0)).below h.2⟩))
  have HL := Lib.hid (fun (w1 : World) (hb : Below w.heap.size w w1) (hbx : Bx w1 w.heap.size A n c s) => (lacks_n _ A n c l s h w1 (HX.out.below hb (fun _ h => h)) hn).mono (R' := fun e w' => e = .returned (.bool (lacksB l s h)) ∧ Below w.heap.size w w' ∧ Bx w' w.heap.size A n c s) (fun e w' h => ⟨h.1, hb.trans (h.2.mono hb.size), hbx.below h.2⟩))
  have HR := Lib.hid (fun (w1 : World) (hb : Below w.heap.size w w1) => (rlacks_n _ A n c l s h w1 (HX.out.below hb (fun _ h => h)) hn).mono (R' := fun e w' => e = .returned (.bool (lacksB l s h)) ∧ Below w.heap.size w w') (fun e w' h => ⟨h.1, hb.trans (h.2.mono hb.size)⟩))
  go_region_with (first
    | (go_at_call 12; refine HA.out.mono ?_; rintro e w1 ⟨rfl, hb, hbx⟩; have h2 := hbx.c0; have h3 := hbx.c1; have HB1 := Lib.hid hb; have HBX1 := Lib.hid hbx; clear hb hbx)
    | (go_at_call 25; refine (HL.out _ HB1.out HBX1.out).mono ?_; rintro e w2 ⟨rfl, hb, hbx⟩; have h4 := hbx.c0; have h5 := hbx.c1; have HB2 := Lib.hid hb; clear hb hbx)
    | (go_at_call 26; refine (HR.out _ HB2.out).mono ?_; rintro e w3 ⟨rfl, hb⟩; have HB3 := Lib.hid hb; clear hb))
  all_goals
    go_wp2
    go_ret
    exact ⟨rfl, HB3.out⟩
end Go.Proofs.Ytmpciigebjiehaa
