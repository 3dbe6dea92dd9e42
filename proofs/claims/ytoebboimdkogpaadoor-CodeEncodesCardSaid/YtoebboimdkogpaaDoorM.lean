/-
  The name of an instruction looked up; what a line is, as a plain function.
-/
import Derived.Test.YtoebboimdkogpaaDoorL
namespace Go.Proofs.YtoebboimdkogpaaDoor
open Go.RowKit

/-! A line's instruction. -/
def opIdx (s : Str) : Option Nat := shapes.findIdx? (fun x => decide (x.name = s))
theorem names_apart : ∀ (j : Nat) (hj : j < 23) (k : Nat) (hk : k < 23), (shapes[j]'hj).name = (shapes[k]'hk).name → j = k := by decide
theorem opIdx_at (s : Str) (k : Nat) (hk : k < 23) (h : (shapes[k]'hk).name = s) : opIdx s = some k := by
  unfold opIdx
  rw [List.findIdx?_eq_some_iff_getElem]
  refine ⟨hk, by simpa using h, fun j hj => ?_⟩
  have hj' : j < 23 := by omega
  intro e
  have e' : (shapes[j]'hj').name = s := of_decide_eq_true e
  have := names_apart j hj' k hk (e'.trans h.symm)
  omega
theorem opIdx_none (s : Str) (h : ∀ (k : Nat) (hk : k < 23), (shapes[k]'hk).name ≠ s) : opIdx s = none := by
  unfold opIdx
  rw [List.findIdx?_eq_none_iff]
  intro x hx
  obtain ⟨k, hk, rfl⟩ := List.getElem_of_mem hx
  simpa using h k hk
theorem opIdx_some {s : Str} {k : Nat} (h : opIdx s = some k) : ∃ hk : k < 23, (shapes[k]'hk).name = s := by
  unfold opIdx at h
  rw [List.findIdx?_eq_some_iff_getElem] at h
  obtain ⟨hk, h1, _⟩ := h
  exact ⟨hk, by simpa using h1⟩
/-- An instruction that has a number for a letter. -/
def withP (i : Ins) (f : UInt8) (n : Int) : Ins := if f = 97 then ⟨i.op, n, i.b, i.c, i.n⟩ else if f = 98 then ⟨i.op, i.a, n, i.c, i.n⟩ else if f = 99 then ⟨i.op, i.a, i.b, n, i.n⟩ else ⟨i.op, i.a, i.b, i.c, n⟩
/-- The number that a word is for a letter. -/
def numOf (f : UInt8) (x : Str) : Option Int := if f = 110 then decM x else match x with
  | [] => none
  | r :: d => if r = 114 then decM d else none
def argsM : Str → List Str → Ins → Option Ins
  | [], [], i => some i
  | f :: fs, x :: xs, i => match numOf f x with
    | none => none
    | some n => argsM fs xs (withP i f n)
  | [], _ :: _, _ => none
  | _ :: _, [], _ => none
def wordsM (ws : List Str) : Option Ins := match ws with
  | [] => none
  | x :: xs => match opIdx x with
    | none => none
    | some k => match shapes[k]? with
      | none => none
      | some s => match argsM (formL s) xs ⟨k, 0, 0, 0, 0⟩ with
        | none => none
        | some i => if mayB i = true then some i else none
def typedM (l : Str) : Option Ins := wordsM (cut 32 l)
theorem argsM_len (fs : Str) (xs : List Str) (i : Ins) (h : fs.length ≠ xs.length) : argsM fs xs i = none := by
  induction fs generalizing xs i with
  | nil => cases xs with
    | nil => simp at h
    | cons => rfl
  | cons f fs ih => cases xs with
    | nil => rfl
    | cons x xs =>
      rw [argsM]
      split
      · rfl
      · exact ih xs _ (by simpa using h)
theorem formL_len (s : Shp) (h : s.regs ≤ 3) : (formL s).length = s.regs + if s.num then 1 else 0 := by
  unfold formL
  rw [List.length_append, List.length_take]
  split <;> simp <;> omega

/-! The table as a value. -/
theorem try_shC : (Tryd.prog.info? 59).map (·.size) = some shC.length := by kernel_rfl
theorem index_shapes (w : World) : ∀ (k : Nat) (hk : k < 23), (Instr.index 59 (.agg shC.toArray) (.int .i64 (k : Int))).run Tryd.prog w = .ok (.agg #[str (shapes[k]'hk).name, .int .i64 (shapes[k]'hk).regs, .bool (shapes[k]'hk).num]) w
  | 0, _ => by kernel_rfl
  | 1, _ => by kernel_rfl
  | 2, _ => by kernel_rfl
  | 3, _ => by kernel_rfl
  | 4, _ => by kernel_rfl
  | 5, _ => by kernel_rfl
  | 6, _ => by kernel_rfl
  | 7, _ => by kernel_rfl
  | 8, _ => by kernel_rfl
  | 9, _ => by kernel_rfl
  | 10, _ => by kernel_rfl
  | 11, _ => by kernel_rfl
  | 12, _ => by kernel_rfl
  | 13, _ => by kernel_rfl
  | 14, _ => by kernel_rfl
  | 15, _ => by kernel_rfl
  | 16, _ => by kernel_rfl
  | 17, _ => by kernel_rfl
  | 18, _ => by kernel_rfl
  | 19, _ => by kernel_rfl
  | 20, _ => by kernel_rfl
  | 21, _ => by kernel_rfl
  | 22, _ => by kernel_rfl
  | n + 23, h => absurd h (by omega)
/-- Behind a name that was looked up. -/
def Named (w : World) (s : Str) (e : Ending) (w' : World) : Prop :=
  Below w.heap.size w w' ∧ ((∃ (k : Nat) (hk : k < 23), (shapes[k]'hk).name = s ∧ e = .returned (.tuple #[.int .i64 k, .bool true])) ∨
    ((∀ (k : Nat) (hk : k < 23), (shapes[k]'hk).name ≠ s) ∧ e = .returned (.tuple #[.int .i64 0, .bool false])))

set_option maxRecDepth 100000 in
set_option maxHeartbeats 1000000 in
theorem opNamed_any (s : Str) (w : World) (h : Shps w) : Calls Tryd.prog 50 #[str s] w (Named w s) := by
  have hr : w.rangeAt 0 0 shC := fun j v hv => by rw [Nat.zero_add]; exact h j v hv
  have HIX := Lib.hid index_shapes
  clear h
  go_enter Tryd.func50, Tryd.ntmps50
  go_wp2_with (refine wpList_load_mid rfl 59 _ rfl 0 0 rfl shC _ hr Tryd.underlying59 rfl try_shC ?_)
  generalize (Value.agg shC.toArray) = T at *
  clear hr
  go_wp2_with fail
  go_loopw [7] (fun t wr => ∃ k : Nat, k ≤ 23 ∧ t = .int .i64 k ∧ Below w.heap.size w wr ∧ ∀ (j : Nat) (hj : j < 23), j < k → (shapes[j]'hj).name ≠ s) (fun t _ => 23 - (intOf t).toNat)
  case atStart => exact ⟨0, by omega, rfl, Below.refl _ _, by intro j hj h; omega⟩
  case round =>
    obtain ⟨k, hk, rfl, hb, hall⟩ := hrel
    have HB := Lib.hid hb
    have HA := Lib.hid hall
    clear hb hall
    by_cases hk23 : k < 23
    · have hix := HIX.out
      have hix2 := fun w' => hix w' k hk23
      have hne : (shapes[k]'hk23).name = s → Named w s (.returned (.tuple #[.int .i64 k, .bool true])) (wr.alloc (.cells #[str (shapes[k]'hk23).name, .int .i64 (shapes[k]'hk23).regs, .bool (shapes[k]'hk23).num] 58)) :=
        fun h => ⟨HB.out.alloc HB.out.size _, .inl ⟨k, hk23, h, rfl⟩⟩
      have hnn : (shapes[k]'hk23).name ≠ s → ∀ (j : Nat) (hj : j < 23), j < k + 1 → (shapes[j]'hj).name ≠ s := fun h j hj hjk => by
        by_cases hjk' : j < k
        · exact HA.out j hj hjk'
        · obtain rfl : j = k := by omega
          exact h
      have HNE := Lib.hid hne
      have HNN := Lib.hid hnn
      clear hix hne hnn HIX HA
      generalize (shapes[k]'hk23).name = nm at *
      generalize ((shapes[k]'hk23).regs : Int) = rg at *
      generalize (shapes[k]'hk23).num = nu at *
      have hi : (k : Int) < 23 := by omega
      by_cases hq : nm = s
      · have HN := Lib.hid (HNE.out hq)
        subst hq
        have hbe : (nm == nm) = true := beq_self_eq_true nm
        clear HNE HNN
        go_wp2
        go_ret2
        exact HN.out
      · have HN := Lib.hid (HNN.out hq)
        have hbe : (nm == s) = false := eqb nm s hq
        clear HNE HNN hq
        go_wp2
        exact ⟨⟨k + 1, by omega, by go_num, HB.out.alloc HB.out.size _, HN.out⟩, by simp [intOf]; omega⟩
    · obtain rfl : k = 23 := by omega
      have HN := Lib.hid (show ∀ (k : Nat) (hk : k < 23), (shapes[k]'hk).name ≠ s from fun k hk => HA.out k hk hk)
      clear HA HIX
      go_wp2
      all_goals (first | (exfalso; omega) | skip)
      go_ret2
      exact ⟨HB.out, .inr ⟨HN.out, rfl⟩⟩
end Go.Proofs.YtoebboimdkogpaaDoor
