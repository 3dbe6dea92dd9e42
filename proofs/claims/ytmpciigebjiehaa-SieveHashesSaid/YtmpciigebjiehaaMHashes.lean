/-
  The laws of hashes, walked.
-/
import Derived.Test.YtmpciigebjiehaaL
namespace Go.Proofs.Ytmpciigebjiehaa
open Go.RowKit

theorem hashes_any (h : UInt32) (s : ByteArray) (w : World) (hs : s.size ≤ 9223372036854775807) :
    Calls Try.prog 3 #[u32v h, .string s] w fun e w' => e = .returned (.bool true) ∧ Below w.heap.size w w' := by
  go_enter Try.func3, Try.ntmps3
  go_wp2_with (first
    | (go_at_call 12; refine (awake_any _).mono ?_; rintro e w1 ⟨rfl, hb⟩; have HB := Lib.hid hb; clear hb)
    | (go_at_call 13; refine (hash_any s _ hs).mono ?_; rintro e w' ⟨rfl, rfl⟩)
    | (go_at_call 14; refine (rhash_any s _ hs).mono ?_; rintro e w' ⟨rfl, rfl⟩)
    | (go_at_call 15; refine (more_any h s _ hs).mono ?_; rintro e w' ⟨rfl, rfl⟩)
    | (go_at_call 16; refine (rmore_any h s _ hs).mono ?_; rintro e w' ⟨rfl, rfl⟩))
  go_ret
  exact ⟨rfl, HB.out⟩
end Go.Proofs.Ytmpciigebjiehaa
