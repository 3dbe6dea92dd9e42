/-
  The law of two texts, walked.
-/
import Derived.Test.YtmpciigebjiehaaL
namespace Go.Proofs.Ytmpciigebjiehaa
open Go.RowKit

theorem parts_any (a b : ByteArray) (w : World) (hs : a.size + b.size ≤ 9223372036854775807) :
    Calls Try.prog 8 #[.string a, .string b] w fun e w' => e = .returned (.bool true) ∧ Below w.heap.size w w' := by
  go_enter Try.func8, Try.ntmps8
  go_wp2_with (go_at_call 12; refine (awake_any _).mono ?_; rintro e w1 ⟨rfl, hb⟩; have HB := Lib.hid hb; clear hb)
  have e1 : hashFrom 5381 (a ++ b).data.toList = hashFrom (hashFrom 5381 a.data.toList) b.data.toList := by
    rw [← hashFrom_app]
    congr 1
  have e2 : hashFrom 7 (⟨#[]⟩ : ByteArray).data.toList = 7 := by decide +kernel
  refine (hash_any (a ++ b) _ (by rw [ByteArray.size_append]; exact hs)).mono ?_
  rw [e1]
  rintro e w' ⟨rfl, rfl⟩
  go_wp2_with (fail)
  refine (hash_any a _ (by omega)).mono ?_
  rintro e w' ⟨rfl, rfl⟩
  go_wp2_with (fail)
  refine (more_any (hashFrom 5381 a.data.toList) b _ (by omega)).mono ?_
  rintro e w' ⟨rfl, rfl⟩
  go_wp2_with (fail)
  refine (more_any 7 ⟨#[]⟩ _ (by decide)).mono ?_
  rw [e2]
  rintro e w' ⟨rfl, rfl⟩
  go_wp2_with (fail)
  go_ret
  exact ⟨rfl, HB.out⟩
end Go.Proofs.Ytmpciigebjiehaa
