/-
  Lists of numbers and graphs in memory; what only reads them.
-/
import Derived.Test.YtkaejcpnlphdpaaA
import Derived.Test.YtkaejcpnlphdpaaOp
namespace Go.Proofs.Ytkaejcpnlphdpaa
open Go.RowKit

abbrev ints (l : List Int) : List Value := l.map (Value.int .i64)
theorem ints_get (l : List Int) (k : Nat) (h : k < l.length) : (ints l)[k]? = some (.int .i64 l[k]) := by simp [h]
theorem nodes_take {n : Nat} {l : List Int} {k : Nat} (hk : k < l.length) (h : nodesB n (l.take k) = true) (hx : isNode n l[k] = true) : nodesB n (l.take (k + 1)) = true := by
  unfold nodesB at *
  rw [List.take_succ_eq_append_getElem hk, List.all_append, h]
  simp [hx]
theorem nodes_not {n : Nat} {l : List Int} {k : Nat} (hk : k < l.length) (hx : isNode n l[k] = false) : nodesB n l = false := by
  cases h : nodesB n l with
  | false => rfl
  | true => have := nodes_mem h (List.getElem_mem hk); rw [hx] at this; cases this
abbrev Big : Nat := 4611686018427387904
set_option maxRecDepth 100000 in
theorem areNodes_any (Q : Nat → Prop) (EA A : Option Addr) (n ec c : Nat) (l : List Int) (w : World) (h : Src w Q A l.length c (ints l)) (hn : l.length ≤ 4611686018427387904) :
    Calls Try.prog 23 #[.slice EA n ec, .slice A l.length c] w fun e w' => e = .returned (.bool (nodesB n l)) ∧ Below w.heap.size w w' := by
  have HS := Lib.hid h.lt
  clear h
  obtain ⟨R, hR⟩ : ∃ R, R = nodesB n l := ⟨_, rfl⟩
  rw [← hR]
  have HR := Lib.hid hR
  clear hR
  go_enter Try.func23, Try.ntmps23
  go_wp2_with fail
  go_loopw [9] (fun i wr => ∃ k : Nat, k ≤ l.length ∧ i = .int .i64 (k : Int) ∧ nodesB n (l.take k) = true ∧ Below w.heap.size w wr) (fun i _ => l.length - (intOf i).toNat)
  case atStart => exact ⟨0, Nat.zero_le _, rfl, rfl, Below.refl _ _⟩
  case round =>
    obtain ⟨k, hk, rfl, hy, hB⟩ := hrel
    have HB := Lib.hid hB
    have HY := Lib.hid hy
    clear hB hy
    by_cases hlt : k < l.length
    · cases A with
      | none => have := (HS.out.nil rfl).1; omega
      | some ad =>
        have hc := HS.out.below HB.out (fun j hj => hj) |>.at_ ad rfl k _ (ints_get l k hlt)
        have HT := Lib.hid (fun h => nodes_take (n := n) hlt HY.out h)
        have HF := Lib.hid (fun h => HR.out.trans (nodes_not (n := n) hlt h))
        generalize l[k] = x at *
        by_cases hx : isNode n x = true
        · obtain ⟨m, rfl, hm⟩ := node_nat hx
          have HT2 := Lib.hid (HT.out hx)
          have h1 : decide ((m : Int) < 0) = false := decide_eq_false (by omega)
          have h2 : decide ((n : Int) ≤ (m : Int)) = false := decide_eq_false (by omega)
          clear HT HF hx
          go_wp2_with fail
          go_roundw
          case rel => exact ⟨k + 1, by omega, by go_num, HT2.out, HB.out⟩
          case measure => simp [intOf]; omega
        · have hx0 : isNode n x = false := by simpa using hx
          obtain rfl := HF.out hx0
          have hx1 : ¬ (0 ≤ x ∧ x < (n : Int)) := of_decide_eq_false hx0
          clear HT HF hx hx0
          by_cases h0 : x < 0
          · have h1 : decide (x < 0) = true := decide_eq_true h0
            go_wp2_with fail
            go_ret
            exact ⟨rfl, HB.out⟩
          · have h1 : decide (x < 0) = false := decide_eq_false h0
            have h2 : decide ((n : Int) ≤ x) = true := decide_eq_true (by omega)
            go_wp2_with fail
            go_ret
            exact ⟨rfl, HB.out⟩
    · obtain rfl : k = l.length := by omega
      have hy := HY.out
      rw [List.take_length] at hy
      obtain rfl := HR.out.trans hy
      go_wp2_with fail
      go_ret
      exact ⟨rfl, HB.out⟩
theorem has_take {l : List Int} {k : Nat} {x : Int} (hk : k < l.length) (h : x ∉ l.take k) (hx : ¬ l[k] = x) : x ∉ l.take (k + 1) := by
  rw [List.take_succ_eq_append_getElem hk]
  simp only [List.mem_append, List.mem_singleton]
  rintro (h1 | h1)
  · exact h h1
  · exact hx h1.symm
set_option maxRecDepth 100000 in
theorem has_pure (Q : Nat → Prop) (A : Option Addr) (c : Nat) (l : List Int) (x : Int) (w : World) (h : Src w Q A l.length c (ints l)) (hn : l.length ≤ 4611686018427387904) :
    Calls Try.prog 18 #[.slice A l.length c, .int .i64 x] w fun e w' => e = .returned (.bool (decide (x ∈ l))) ∧ w = w' := by
  have HS := Lib.hid h.lt
  clear h
  obtain ⟨R, hR⟩ : ∃ R, R = decide (x ∈ l) := ⟨_, rfl⟩
  rw [← hR]
  have HR := Lib.hid hR
  clear hR
  go_enter Try.func18, Try.ntmps18
  go_wp2_with fail
  go_loopw [5] (fun i wr => ∃ k : Nat, k ≤ l.length ∧ i = .int .i64 (k : Int) ∧ x ∉ l.take k ∧ w = wr) (fun i _ => l.length - (intOf i).toNat)
  case atStart => exact ⟨0, Nat.zero_le _, rfl, by simp, rfl⟩
  case round =>
    obtain ⟨k, hk, rfl, hy, rfl⟩ := hrel
    have HY := Lib.hid hy
    clear hy
    by_cases hlt : k < l.length
    · cases A with
      | none => have := (HS.out.nil rfl).1; omega
      | some ad =>
        have hc := HS.out.at_ ad rfl k _ (ints_get l k hlt)
        have HT := Lib.hid (fun h => has_take (x := x) hlt HY.out h)
        have HM := Lib.hid (List.getElem_mem hlt)
        generalize l[k] = y at *
        by_cases hx : y = x
        · subst hx
          obtain rfl := HR.out.trans (decide_eq_true HM.out)
          go_wp2_with fail
          go_ret
          exact ⟨rfl, rfl⟩
        · have HT2 := Lib.hid (HT.out hx)
          have hd : (y == x) = false := by simpa using hx
          clear HT
          go_wp2_with fail
          go_roundw
          case rel => exact ⟨k + 1, by omega, by go_num, HT2.out, trivial⟩
          case measure => simp [intOf]; omega
    · obtain rfl : k = l.length := by omega
      have hy := HY.out
      rw [List.take_length] at hy
      obtain rfl := HR.out.trans (decide_eq_false hy)
      go_wp2_with fail
      go_ret
      exact ⟨rfl, rfl⟩
theorem has_any (Q : Nat → Prop) (A : Option Addr) (c : Nat) (l : List Int) (x : Int) (w : World) (h : Src w Q A l.length c (ints l)) (hn : l.length ≤ 4611686018427387904) :
    Calls Try.prog 18 #[.slice A l.length c, .int .i64 x] w fun e w' => e = .returned (.bool (decide (x ∈ l))) ∧ Below w.heap.size w w' :=
  (has_pure Q A c l x w h hn).mono fun _ _ hh => ⟨hh.1, hh.2 ▸ Below.refl _ _⟩
set_option maxRecDepth 100000 in
theorem rNodes_any (Q : Nat → Prop) (EA A : Option Addr) (n ec c : Nat) (l : List Int) (w : World) (h : Src w Q A l.length c (ints l)) (hn : l.length ≤ 4611686018427387904) :
    Calls Try.prog 15 #[.slice EA n ec, .slice A l.length c] w fun e w' => e = .returned (.bool (nodesB n l)) ∧ Below w.heap.size w w' := by
  have HS := Lib.hid h.lt
  clear h
  obtain ⟨R, hR⟩ : ∃ R, R = nodesB n l := ⟨_, rfl⟩
  rw [← hR]
  have HR := Lib.hid hR
  clear hR
  go_enter Try.func15, Try.ntmps15
  go_wp2_with fail
  go_loopw [5] (fun i wr => ∃ k : Nat, k ≤ l.length ∧ i = .int .i64 (k : Int) ∧ nodesB n (l.take k) = true ∧ Below w.heap.size w wr) (fun i _ => l.length - (intOf i).toNat)
  case atStart => exact ⟨0, Nat.zero_le _, rfl, rfl, Below.refl _ _⟩
  case round =>
    obtain ⟨k, hk, rfl, hy, hB⟩ := hrel
    have HB := Lib.hid hB
    have HY := Lib.hid hy
    clear hB hy
    by_cases hlt : k < l.length
    · cases A with
      | none => have := (HS.out.nil rfl).1; omega
      | some ad =>
        have hc := HS.out.below HB.out (fun j hj => hj) |>.at_ ad rfl k _ (ints_get l k hlt)
        have HT := Lib.hid (fun h => nodes_take (n := n) hlt HY.out h)
        have HF := Lib.hid (fun h => HR.out.trans (nodes_not (n := n) hlt h))
        generalize l[k] = x at *
        by_cases hx : isNode n x = true
        · obtain ⟨m, rfl, hm⟩ := node_nat hx
          have HT2 := Lib.hid (HT.out hx)
          have h1 : decide ((m : Int) < 0) = false := decide_eq_false (by omega)
          have h2 : decide ((n : Int) ≤ (m : Int)) = false := decide_eq_false (by omega)
          clear HT HF hx
          go_wp2_with fail
          go_roundw
          case rel => exact ⟨k + 1, by omega, by go_num, HT2.out, HB.out⟩
          case measure => simp [intOf]; omega
        · have hx0 : isNode n x = false := by simpa using hx
          obtain rfl := HF.out hx0
          have hx1 : ¬ (0 ≤ x ∧ x < (n : Int)) := of_decide_eq_false hx0
          clear HT HF hx hx0
          by_cases h0 : x < 0
          · have h1 : decide (x < 0) = true := decide_eq_true h0
            go_wp2_with fail
            go_ret
            exact ⟨rfl, HB.out⟩
          · have h1 : decide (x < 0) = false := decide_eq_false h0
            have h2 : decide ((n : Int) ≤ x) = true := decide_eq_true (by omega)
            go_wp2_with fail
            go_ret
            exact ⟨rfl, HB.out⟩
    · obtain rfl : k = l.length := by omega
      have hy := HY.out
      rw [List.take_length] at hy
      obtain rfl := HR.out.trans hy
      go_wp2_with fail
      go_ret
      exact ⟨rfl, HB.out⟩
set_option maxRecDepth 100000 in
theorem same_yes (P Q : Nat → Prop) (A B : Option Addr) (c d : Nat) (l : List Int) (w : World) (h : Src w P A l.length c (ints l)) (k : Src w Q B l.length d (ints l)) (hn : l.length ≤ 4611686018427387904) :
    Calls Try.prog 17 #[.slice A l.length c, .slice B l.length d] w fun e w' => e = .returned (.bool true) ∧ Below w.heap.size w w' := by
  have HS := Lib.hid h.lt
  have HK := Lib.hid k.lt
  clear h k
  go_enter Try.func17, Try.ntmps17
  go_wp2_with fail
  go_loopw [5] (fun i wr => ∃ j : Nat, j ≤ l.length ∧ i = .int .i64 (j : Int) ∧ Below w.heap.size w wr) (fun i _ => l.length - (intOf i).toNat)
  case atStart => exact ⟨0, Nat.zero_le _, rfl, Below.refl _ _⟩
  case round =>
    obtain ⟨j, hj, rfl, hB⟩ := hrel
    have HW := Lib.hid hB
    clear hB
    by_cases hjn : j < l.length
    · cases A with
      | none => have := (HS.out.nil rfl).1; omega
      | some ad =>
        cases B with
        | none => have := (HK.out.nil rfl).1; omega
        | some bd =>
          have hc := HS.out.below HW.out (fun j hj => hj) |>.at_ ad rfl j _ (ints_get l j hjn)
          have hc2 := HK.out.below HW.out (fun j hj => hj) |>.at_ bd rfl j _ (ints_get l j hjn)
          have hmix : Try.prog.follows .mixedOrders = true := by kernel_rfl
          generalize l[j] = p at *
          have hd1 : wr.drew.cell? (ad.add j) = some (.int .i64 p) := hc
          have hd2 : wr.drew.cell? (bd.add j) = some (.int .i64 p) := hc2
          go_wp2_with fail
          go_region
          all_goals go_wp2
          all_goals
            exact ⟨⟨j + 1, by omega, by go_num, HW.out.trans ((drew_below wr).mono HW.out.size)⟩, by simp [intOf]; omega⟩
    · obtain rfl : j = l.length := by omega
      go_wp2
      go_ret
      exact ⟨rfl, HW.out⟩
end Go.Proofs.Ytkaejcpnlphdpaa
