/-
  Lists of the same texts; the laws' examples.
-/
import Derived.Test.YtbneikfonfpdgaaDoorM
namespace Go.Proofs.YtbneikfonfpdgaaDoor
open Go.RowKit

set_option maxRecDepth 100000 in
set_option maxHeartbeats 1000000 in
theorem same_yes (P Q : Nat → Prop) (A B : Option Addr) (n c d : Nat) (ps : List Str) (w : World) (h : Src w P A n c (strs ps)) (k : Src w Q B n d (strs ps)) (hn : n ≤ 9223372036854775806) :
    Calls Tryd.prog 13 #[.slice A n c, .slice B n d] w fun e w' => e = .returned (.bool true) ∧ Below w.heap.size w w' := by
  have hlen : ps.length = n := by simpa using h.len
  have HS := Lib.hid h.lt
  have HK := Lib.hid k.lt
  clear h k
  go_enter Tryd.func13, Tryd.ntmps13
  go_wp2_with fail
  go_loopw [5] (fun i wr => ∃ j : Nat, j ≤ n ∧ i = .int .i64 (j : Int) ∧ Below w.heap.size w wr) (fun i _ => n - (intOf i).toNat)
  case atStart => exact ⟨0, Nat.zero_le _, rfl, Below.refl _ _⟩
  case round =>
    obtain ⟨j, hj, rfl, hB⟩ := hrel
    have HW := Lib.hid hB
    clear hB
    by_cases hjn : j < n
    · have hj' : j < ps.length := by omega
      cases A with
      | none => have := (HS.out.nil rfl).1; omega
      | some ad =>
        cases B with
        | none => have := (HK.out.nil rfl).1; omega
        | some bd =>
          have hc := HS.out.below HW.out (fun j hj => hj) |>.at_ ad rfl j _ (strs_get ps j hj')
          have hc2 := HK.out.below HW.out (fun j hj => hj) |>.at_ bd rfl j _ (strs_get ps j hj')
          have hmix : Tryd.prog.follows .mixedOrders = true := by kernel_rfl
          have hd1 : wr.drew.cell? (ad.add j) = some (str ps[j]) := hc
          have hd2 : wr.drew.cell? (bd.add j) = some (str ps[j]) := hc2
          generalize ps[j] = p at *
          go_wp2_with fail
          go_region
          all_goals go_wp2
          all_goals
            exact ⟨⟨j + 1, by omega, by go_num, HW.out.trans ((drew_below wr).mono HW.out.size)⟩, by simp [intOf]; omega⟩
    · obtain rfl : j = n := by omega
      go_wp2
      go_ret
      exact ⟨rfl, HW.out⟩

theorem ex_one : exp [47, 97, 47, 98] [36, 79, 82, 73, 71, 73, 78, 47, 46, 46, 47, 36, 76, 73, 66] = some [47, 97, 47, 98, 47, 46, 46, 47, 108, 105, 98] := by
  rw [exp_o _ _ (by decide)]
  simp only [List.drop]
  rw [exp_plain _ _ _ (by decide), exp_plain _ _ _ (by decide), exp_plain _ _ _ (by decide), exp_plain _ _ _ (by decide), exp_l _ _ (by decide) (by decide)]
  simp only [List.drop, exp_nil]
  rfl
theorem exs_one : Exps [47, 97, 47, 98] [36, 79, 82, 73, 71, 73, 78, 47, 46, 46, 47, 36, 76, 73, 66] = .returned (.tuple #[str [47, 97, 47, 98, 47, 46, 46, 47, 108, 105, 98], .int .i64 0]) := exps_ok (by decide) ex_one (by decide)
theorem exs_two : Exps [47] [36, 108, 105, 98] = .returned (.tuple #[str [], .int .i64 110]) := exps_no (by decide) (exp_no _ _ (by decide) (by decide))
theorem cuts_ex : cuts [58, 97, 58, 58, 98] = [[97], [98]] := by decide

set_option maxRecDepth 100000 in
set_option maxHeartbeats 2000000 in
theorem awake_any (w : World) (hm : Ml w) : Calls Tryd.prog 9 #[] w fun e w' => e = .returned (.bool true) ∧ Below w.heap.size w w' := by
  have H1 := Lib.hid (expand_any [36, 79, 82, 73, 71, 73, 78, 47, 46, 46, 47, 36, 76, 73, 66] [47, 97, 47, 98] w (by simp) (by simp) hm)
  rw [exs_one] at H1
  have HM := Lib.hid hm
  clear hm
  go_enter Tryd.func9, Tryd.ntmps9
  go_wp2_with fail
  refine H1.out.mono ?_
  rintro e w1 ⟨rfl, hb1⟩
  have H2 := Lib.hid (expand_any [36, 108, 105, 98] [47] w1 (by simp) (by simp) (HM.out.below hb1))
  rw [exs_two] at H2
  have HB1 := Lib.hid hb1
  clear hb1
  go_wp2_with fail
  refine H2.out.mono ?_
  rintro e w2 ⟨rfl, hb2⟩
  have H3 := Lib.hid (psplit_any [58, 97, 58, 58, 98] w2 (by simp))
  rw [cuts_ex] at H3
  have HB2 := Lib.hid (HB1.out.trans (hb2.mono HB1.out.size))
  clear hb2
  go_wp2_with fail
  refine H3.out.mono ?_
  rintro e w3 ⟨A, c, rfl, ho, hb3⟩
  have HB3 := Lib.hid (HB2.out.trans (hb3.mono HB2.out.size))
  obtain ⟨g, rfl⟩ : ∃ g, A = some ⟨g, 0, none⟩ := by
    rcases ho.2 with ⟨_, h0⟩ | ⟨g, cap, cur, hv, _⟩
    · simp at h0
    · injection hv with h1; exact ⟨g, h1⟩
  have hs := Src.of_own ho
  clear hb3 ho
  have c0 : w3.cell? ⟨g, 0, none⟩ = some (str [97]) := hs.at_ _ rfl 0 _ rfl
  have c1 : w3.cell? ⟨g, 1, none⟩ = some (str [98]) := hs.at_ _ rfl 1 _ rfl
  clear hs
  go_wp2
  go_ret
  exact ⟨rfl, HB3.out⟩
end Go.Proofs.YtbneikfonfpdgaaDoor
