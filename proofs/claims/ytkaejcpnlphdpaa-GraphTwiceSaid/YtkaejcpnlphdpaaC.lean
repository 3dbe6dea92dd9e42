/-
  Graphs in memory: whether they are right; of a size that is looked at.
-/
import Derived.Test.YtkaejcpnlphdpaaB
namespace Go.Proofs.Ytkaejcpnlphdpaa
open Go.RowKit

abbrev lists (ws : Nat → Option Addr × Nat) (g : Gr) : List Value := (List.range g.length).map fun k => .slice (ws k).1 (g.getD k []).length (ws k).2
theorem lists_get (ws : Nat → Option Addr × Nat) (g : Gr) (k : Nat) (h : k < g.length) : (lists ws g)[k]? = some (.slice (ws k).1 g[k].length (ws k).2) := by simp [h]
/-- A graph in memory. -/
structure Ed (w : World) (Q : Nat → Prop) (A : Option Addr) (c : Nat) (ws : Nat → Option Addr × Nat) (g : Gr) : Prop where
  out : Src w Q A g.length c (lists ws g)
  inn : ∀ k (h : k < g.length), Src w Q (ws k).1 g[k].length (ws k).2 (ints g[k])
  big : g.length ≤ 4611686018427387904
  bigs : ∀ k (h : k < g.length), g[k].length ≤ 4611686018427387904
section
variable {w w' : World} {P Q : Nat → Prop} {A : Option Addr} {c : Nat} {ws : Nat → Option Addr × Nat} {g : Gr}
theorem Ed.lt (h : Ed w Q A c ws g) : Ed w (fun k => k < w.heap.size) A c ws g := ⟨h.out.lt, fun k hk => (h.inn k hk).lt, h.big, h.bigs⟩
theorem Ed.keep (h : Ed w Q A c ws g) (hk : ∀ k, Q k → k < w.heap.size → w'.heap[k]? = w.heap[k]?) : Ed w' Q A c ws g := ⟨h.out.keep hk, fun k h1 => (h.inn k h1).keep hk, h.big, h.bigs⟩
theorem Ed.below {B : Nat} (h : Ed w Q A c ws g) (hb : Below B w w') (hP : ∀ k, Q k → k < B) : Ed w' Q A c ws g := h.keep fun k hk _ => hb.block k (hP k hk)
theorem Ed.weak (h : Ed w Q A c ws g) (hk : ∀ k, Q k → P k) : Ed w P A c ws g := ⟨h.out.weak hk, fun k h1 => (h.inn k h1).weak hk, h.big, h.bigs⟩
end
theorem right_take {g : Gr} {k : Nat} (hk : k < g.length) (h : (g.take k).all (nodesB g.length) = true) (hx : nodesB g.length g[k] = true) : (g.take (k + 1)).all (nodesB g.length) = true := by
  rw [List.take_succ_eq_append_getElem hk, List.all_append, h]
  simp [hx]
theorem right_not {g : Gr} {k : Nat} (hk : k < g.length) (hx : nodesB g.length g[k] = false) : rightB g = false := by
  cases h : rightB g with
  | false => rfl
  | true =>
    unfold rightB at h
    simp only [Bool.and_eq_true] at h
    have := List.all_eq_true.1 h.2 _ (List.getElem_mem hk)
    rw [hx] at this
    cases this
theorem right_big {g : Gr} (h : ¬ g.length ≤ 256) : rightB g = false := by unfold rightB; rw [decide_eq_false h]; rfl
theorem right_all {g : Gr} (h : g.length ≤ 256) (h2 : g.all (nodesB g.length) = true) : rightB g = true := by unfold rightB; rw [decide_eq_true h, h2]; rfl
abbrev rightE (b : Bool) : Value := .int .i64 (if b then 0 else 130)
set_option maxRecDepth 100000 in
set_option maxHeartbeats 1000000 in
theorem right_any (Q : Nat → Prop) (A : Option Addr) (c : Nat) (ws : Nat → Option Addr × Nat) (g : Gr) (w : World) (h : Ed w Q A c ws g) :
    Calls Try.prog 13 #[.slice A g.length c] w fun e w' => e = .returned (rightE (rightB g)) ∧ Below w.heap.size w w' := by
  have HS := Lib.hid h.lt
  have hbig := h.big
  clear h
  obtain ⟨R, hR⟩ : ∃ R, R = rightB g := ⟨_, rfl⟩
  rw [← hR]
  have HR := Lib.hid hR
  clear hR
  by_cases h256 : g.length ≤ 256
  · have hd : decide ((256 : Int) < (g.length : Int)) = false := decide_eq_false (by omega)
    go_enter Try.func13, Try.ntmps13
    go_wp2_with fail
    go_loopw [10] (fun i wr => ∃ k : Nat, k ≤ g.length ∧ i = .int .i64 (k : Int) ∧ (g.take k).all (nodesB g.length) = true ∧ Below w.heap.size w wr) (fun i _ => g.length - (intOf i).toNat)
    case atStart => exact ⟨0, Nat.zero_le _, rfl, rfl, Below.refl _ _⟩
    case round =>
      obtain ⟨k, hk, rfl, hy, hB⟩ := hrel
      have HB := Lib.hid hB
      have HY := Lib.hid hy
      clear hB hy
      by_cases hlt : k < g.length
      · cases A with
        | none => have := (HS.out.out.nil rfl).1; omega
        | some ad =>
          have hc := HS.out.out.below HB.out (fun j hj => hj) |>.at_ ad rfl k _ (lists_get ws g k hlt)
          have HT := Lib.hid (fun h => right_take hlt HY.out h)
          have HF := Lib.hid (fun h => HR.out.trans (right_not hlt h))
          have HC := Lib.hid (areNodes_any _ (some ad) (ws k).1 g.length c (ws k).2 g[k] wr ((HS.out.below HB.out (fun j hj => hj)).inn k hlt) (HS.out.bigs k hlt))
          generalize g[k] = l at *
          generalize (ws k).1 = A2 at *
          generalize (ws k).2 = c2 at *
          cases hx : nodesB g.length l with
          | true =>
            have HT2 := Lib.hid (HT.out hx)
            rw [hx] at HC
            clear HT HF hx
            go_wp2_with (go_at_call 23; refine HC.out.mono ?_; rintro e w2 ⟨rfl, hb2⟩; have HB2 := Lib.hid (HB.out.trans (hb2.mono HB.out.size)); clear hb2)
            go_roundw
            case rel => exact ⟨k + 1, by omega, by go_num, HT2.out, HB2.out⟩
            case measure => simp [intOf]; omega
          | false =>
            obtain rfl := HF.out hx
            rw [hx] at HC
            clear HT HF hx
            go_wp2_with (go_at_call 23; refine HC.out.mono ?_; rintro e w2 ⟨rfl, hb2⟩; have HB2 := Lib.hid (HB.out.trans (hb2.mono HB.out.size)); clear hb2)
            go_ret
            exact ⟨rfl, HB2.out⟩
      · obtain rfl : k = g.length := by omega
        have hy := HY.out
        rw [List.take_length] at hy
        obtain rfl := HR.out.trans (right_all h256 hy)
        go_wp2_with fail
        go_ret
        exact ⟨rfl, HB.out⟩
  · have hd : decide ((256 : Int) < (g.length : Int)) = true := decide_eq_true (by omega)
    obtain rfl := HR.out.trans (right_big h256)
    go_enter Try.func13, Try.ntmps13
    go_wp2_with fail
    go_ret
    exact ⟨rfl, Below.refl _ _⟩
set_option maxRecDepth 100000 in
set_option maxHeartbeats 1000000 in
theorem rRight_any (Q : Nat → Prop) (A : Option Addr) (c : Nat) (ws : Nat → Option Addr × Nat) (g : Gr) (w : World) (h : Ed w Q A c ws g) :
    Calls Try.prog 14 #[.slice A g.length c] w fun e w' => e = .returned (.bool (rightB g)) ∧ Below w.heap.size w w' := by
  have HS := Lib.hid h.lt
  have hbig := h.big
  clear h
  obtain ⟨R, hR⟩ : ∃ R, R = rightB g := ⟨_, rfl⟩
  rw [← hR]
  have HR := Lib.hid hR
  clear hR
  by_cases h256 : g.length ≤ 256
  · have hd : decide ((256 : Int) < (g.length : Int)) = false := decide_eq_false (by omega)
    go_enter Try.func14, Try.ntmps14
    go_wp2_with fail
    go_loopw [3] (fun i wr => ∃ k : Nat, k ≤ g.length ∧ i = .int .i64 (k : Int) ∧ (g.take k).all (nodesB g.length) = true ∧ Below w.heap.size w wr) (fun i _ => g.length - (intOf i).toNat)
    case atStart => exact ⟨0, Nat.zero_le _, rfl, rfl, Below.refl _ _⟩
    case round =>
      obtain ⟨k, hk, rfl, hy, hB⟩ := hrel
      have HB := Lib.hid hB
      have HY := Lib.hid hy
      clear hB hy
      by_cases hlt : k < g.length
      · cases A with
        | none => have := (HS.out.out.nil rfl).1; omega
        | some ad =>
          have hc := HS.out.out.below HB.out (fun j hj => hj) |>.at_ ad rfl k _ (lists_get ws g k hlt)
          have HT := Lib.hid (fun h => right_take hlt HY.out h)
          have HF := Lib.hid (fun h => HR.out.trans (right_not hlt h))
          have HC := Lib.hid (rNodes_any _ (some ad) (ws k).1 g.length c (ws k).2 g[k] wr ((HS.out.below HB.out (fun j hj => hj)).inn k hlt) (HS.out.bigs k hlt))
          generalize g[k] = l at *
          generalize (ws k).1 = A2 at *
          generalize (ws k).2 = c2 at *
          cases hx : nodesB g.length l with
          | true =>
            have HT2 := Lib.hid (HT.out hx)
            rw [hx] at HC
            clear HT HF hx
            go_wp2_with (go_at_call 15; refine HC.out.mono ?_; rintro e w2 ⟨rfl, hb2⟩; have HB2 := Lib.hid (HB.out.trans (hb2.mono HB.out.size)); clear hb2)
            go_roundw
            case rel => exact ⟨k + 1, by omega, by go_num, HT2.out, HB2.out⟩
            case measure => simp [intOf]; omega
          | false =>
            obtain rfl := HF.out hx
            rw [hx] at HC
            clear HT HF hx
            go_wp2_with (go_at_call 15; refine HC.out.mono ?_; rintro e w2 ⟨rfl, hb2⟩; have HB2 := Lib.hid (HB.out.trans (hb2.mono HB.out.size)); clear hb2)
            go_ret
            exact ⟨rfl, HB2.out⟩
      · obtain rfl : k = g.length := by omega
        have hy := HY.out
        rw [List.take_length] at hy
        obtain rfl := HR.out.trans (right_all h256 hy)
        go_wp2_with fail
        go_ret
        exact ⟨rfl, HB.out⟩
  · have hd : decide ((256 : Int) < (g.length : Int)) = true := decide_eq_true (by omega)
    obtain rfl := HR.out.trans (right_big h256)
    go_enter Try.func14, Try.ntmps14
    go_wp2_with fail
    go_ret
    exact ⟨rfl, Below.refl _ _⟩
/-- A right graph, and nodes of it. -/
def okB (g : Gr) (l : List Int) : Bool := rightB g && nodesB g.length l
set_option maxRecDepth 100000 in
theorem check_any (Q Q2 : Nat → Prop) (A A2 : Option Addr) (c c2 : Nat) (ws : Nat → Option Addr × Nat) (g : Gr) (l : List Int) (w : World) (h : Ed w Q A c ws g) (h2 : Src w Q2 A2 l.length c2 (ints l)) (hn : l.length ≤ 4611686018427387904) :
    Calls Try.prog 21 #[.slice A g.length c, .slice A2 l.length c2] w fun e w' => e = .returned (rightE (okB g l)) ∧ Below w.heap.size w w' := by
  have HS2 := Lib.hid h2.lt
  have HC := Lib.hid (right_any Q A c ws g w h)
  unfold okB
  cases hr : rightB g with
  | true =>
    rw [hr] at HC
    have HN := Lib.hid (fun w' (hb : Below w.heap.size w w') => areNodes_any _ A A2 g.length c c2 l w' (HS2.out.below hb (fun j hj => hj)) hn)
    cases hl : nodesB g.length l with
    | true =>
      rw [hl] at HN
      clear h h2 hr hl
      go_enter Try.func21, Try.ntmps21
      go_wp2_with (go_at_call 13; refine HC.out.mono ?_; rintro e w1 ⟨rfl, hb1⟩; have HB1 := Lib.hid hb1; clear hb1)
      go_wp2_with (go_at_call 23; refine (HN.out _ HB1.out).mono ?_; rintro e w2 ⟨rfl, hb2⟩; have HB2 := Lib.hid (HB1.out.trans (hb2.mono HB1.out.size)); clear hb2)
      go_ret
      exact ⟨rfl, HB2.out⟩
    | false =>
      rw [hl] at HN
      clear h h2 hr hl
      go_enter Try.func21, Try.ntmps21
      go_wp2_with (go_at_call 13; refine HC.out.mono ?_; rintro e w1 ⟨rfl, hb1⟩; have HB1 := Lib.hid hb1; clear hb1)
      go_wp2_with (go_at_call 23; refine (HN.out _ HB1.out).mono ?_; rintro e w2 ⟨rfl, hb2⟩; have HB2 := Lib.hid (HB1.out.trans (hb2.mono HB1.out.size)); clear hb2)
      go_ret
      exact ⟨rfl, HB2.out⟩
  | false =>
    rw [hr] at HC
    clear h h2 hr
    go_enter Try.func21, Try.ntmps21
    go_wp2_with (go_at_call 13; refine HC.out.mono ?_; rintro e w1 ⟨rfl, hb1⟩; have HB1 := Lib.hid hb1; clear hb1)
    go_ret
    exact ⟨rfl, HB1.out⟩
/-- True or false. -/
def SomeB (e : Ending) : Prop := ∃ b, e = .returned (.bool b)
set_option maxRecDepth 100000 in
theorem few_any (Q : Nat → Prop) (A : Option Addr) (c : Nat) (ws : Nat → Option Addr × Nat) (g : Gr) (w : World) (h : Ed w Q A c ws g) :
    Calls Try.prog 10 #[.slice A g.length c] w fun e w' => SomeB e ∧ Below w.heap.size w w' := by
  have HS := Lib.hid h.lt
  have hbig := h.big
  clear h
  go_enter Try.func10, Try.ntmps10
  go_wp2_with fail
  go_loopw [3, 4] (fun n i wr => ∃ (k : Nat) (m : Int), k ≤ g.length ∧ n = .int .i64 m ∧ i = .int .i64 (k : Int) ∧ Below w.heap.size w wr) (fun n i _ => g.length - (intOf i).toNat)
  case atStart => exact ⟨0, 0, Nat.zero_le _, rfl, rfl, Below.refl _ _⟩
  case round =>
    obtain ⟨k, m, hk, rfl, rfl, hB⟩ := hrel
    have HB := Lib.hid hB
    clear hB
    by_cases hlt : k < g.length
    · cases A with
      | none => have := (HS.out.out.nil rfl).1; omega
      | some ad =>
        have hc := HS.out.out.below HB.out (fun j hj => hj) |>.at_ ad rfl k _ (lists_get ws g k hlt)
        generalize g[k] = l at *
        generalize (ws k).1 = A2 at *
        generalize (ws k).2 = c2 at *
        by_cases h1 : (3000 : Int) < (l.length : Int)
        · have hd1 := decide_eq_true h1
          go_wp2_with fail
          go_ret
          exact ⟨⟨_, rfl⟩, HB.out⟩
        · have hd1 := decide_eq_false h1
          by_cases h2 : (3000 : Int) < m
          · have hd2 := decide_eq_true h2
            go_wp2_with fail
            go_ret
            exact ⟨⟨_, rfl⟩, HB.out⟩
          · have hd2 := decide_eq_false h2
            go_wp2_with fail
            go_roundw
            case rel => exact ⟨k + 1, _, by omega, rfl, by go_num, HB.out⟩
            case measure => simp [intOf]; omega
    · obtain rfl : k = g.length := by omega
      go_wp2_with fail
      go_ret
      exact ⟨⟨_, rfl⟩, HB.out⟩
end Go.Proofs.Ytkaejcpnlphdpaa
