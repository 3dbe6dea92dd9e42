/-
  What the calls of a writer do, for every input: Num, Text, Block, Raw, Bytes, and a new one.
-/
import Derived.Test.YtpcgedngikpnoaaCA
import Derived.Lib.ConvBytes
namespace Go.Proofs.Ytpcgedngikpnoaa
set_option maxRecDepth 100000
set_option linter.unusedSimpArgs false
set_option linter.unusedVariables false
open Go.RowKit

def wMeas (size most : Nat) (l : List UInt8) (s : St) : St := if s.1 = 0 then (if l.length ≤ most then (0, s.2 ++ digs l.length size ++ l) else (2, s.2)) else s

theorem Src.step {w w1 : World} {g : Nat} {r r1 : Option Nat} {A : Option Addr} {n c : Nat} {xs : List Value} (h : Src w (fun k => k ≠ g ∧ r ≠ some k) A n c xs) (k : Step g w r w1 r1) : Src w1 (fun k => k ≠ g ∧ r ≠ some k) A n c xs :=
  h.keep fun i hi hl => k.block i hl hi.1 hi.2

theorem fit_text (k : Nat) (h : k ≤ 4096) : fitB (2 : Nat) k = true := by simp [fitB]; omega
theorem fit_block (k : Nat) (h : k ≤ 1048576) : fitB (4 : Nat) k = true := by simp [fitB]; omega

def ints (ns : List Int) : List Value := ns.map (Value.int .i64)
def wNums (size : Nat) (ns : List Int) (s : St) : St := ns.foldl (fun s n => wNum1 size n s) s
theorem wNums_snoc (size : Nat) (ns : List Int) (k : Nat) (h : k < ns.length) (s : St) : wNums size (ns.take (k + 1)) s = wNum1 size ns[k] (wNums size (ns.take k) s) := by
  unfold wNums
  rw [List.take_succ_eq_append_getElem h, List.foldl_append]
  rfl
theorem wNum1_len (size : Nat) (n : Int) (s : St) (h : size ≤ 8) : (wNum1 size n s).2.length ≤ s.2.length + 8 := by
  unfold wNum1
  split
  · split
    · simp [digs_len]; omega
    · simp
  · omega
theorem wNums_len (size : Nat) (ns : List Int) (h : size ≤ 8) : ∀ s : St, (wNums size ns s).2.length ≤ s.2.length + 8 * ns.length := by
  induction ns with
  | nil => intro s; simp [wNums]
  | cons n ns ih =>
    intro s
    have h1 := ih (wNum1 size n s)
    have h2 := wNum1_len size n s h
    have : wNums size (n :: ns) s = wNums size ns (wNum1 size n s) := rfl
    rw [this, List.length_cons]
    omega

/-- A number of numbers, whatever their size. -/
def wNumsA (size : Int) (ns : List Int) (s : St) : St := if sized size = true then wNums size.toNat ns s else if s.1 = 0 then (1, s.2) else s

/-- Strings, as the model has them. -/
def strs (ss : List (List UInt8)) : List Value := ss.map fun l => .string ⟨l.toArray⟩
def wTexts (ss : List (List UInt8)) (s : St) : St := ss.foldl (fun s l => wMeas 2 4096 l s) s
theorem wTexts_snoc (ss : List (List UInt8)) (k : Nat) (h : k < ss.length) (s : St) : wTexts (ss.take (k + 1)) s = wMeas 2 4096 ss[k] (wTexts (ss.take k) s) := by
  unfold wTexts
  rw [List.take_succ_eq_append_getElem h, List.foldl_append]
  rfl
/-- How many bytes a text list may take. -/
def room (ss : List (List UInt8)) : Nat := (ss.map fun l => l.length + 8).sum
theorem wMeas_len (size most : Nat) (l : List UInt8) (s : St) (h : size ≤ 8) : (wMeas size most l s).2.length ≤ s.2.length + (l.length + 8) := by
  unfold wMeas
  split
  · split
    · simp [digs_len]; omega
    · simp
  · omega
theorem wTexts_len (ss : List (List UInt8)) : ∀ s : St, (wTexts ss s).2.length ≤ s.2.length + room ss := by
  induction ss with
  | nil => intro s; simp [wTexts]
  | cons l ss ih =>
    intro s
    have h1 := ih (wMeas 2 4096 l s)
    have h2 := wMeas_len 2 4096 l s (by omega)
    have : wTexts (l :: ss) s = wTexts ss (wMeas 2 4096 l s) := rfl
    have hr : room (l :: ss) = (l.length + 8) + room ss := by simp [room]
    rw [this, hr]
    omega
theorem room_take (ss : List (List UInt8)) (k : Nat) (h : k < ss.length) : room (ss.take k) + (ss[k].length + 8) ≤ room ss := by
  have e : ss = ss.take k ++ ss[k] :: ss.drop (k + 1) := by simp
  have : room ss = room (ss.take k) + ((ss[k].length + 8) + room (ss.drop (k + 1))) := by
    conv => lhs; rw [e]
    simp only [room, List.map_append, List.map_cons, List.sum_append, List.sum_cons]
  omega

theorem room_ge (ss : List (List UInt8)) : 8 * ss.length ≤ room ss := by
  induction ss with
  | nil => simp
  | cons l ss ih =>
    have : room (l :: ss) = (l.length + 8) + room ss := by simp [room]
    rw [this, List.length_cons]
    omega

/-- '[]byte(s)'. -/
theorem conv_bytes (w : World) (l : List UInt8) : ∃ cap wb, (convert 9 60 (.string ⟨l.toArray⟩)).run Try.prog w = .ok (.slice (some ⟨w.heap.size, 0, none⟩) l.length cap) wb ∧ Below w.heap.size w wb ∧
    Src wb (fun k => k = w.heap.size) (some ⟨w.heap.size, 0, none⟩) l.length cap (cells l) := by
  have h := Lib.run_convert_string_bytes (P := Try.prog) w 9 60 5 ⟨l.toArray⟩ (u := .string) Try.underlying9 Try.underlying60 Try.underlying5
  refine ⟨_, _, h, ⟨rfl, rfl, rfl, by rw [Lib.bytesWorld_size]; omega, fun k hk => Lib.bytesWorld_at_old _ _ _ _ hk⟩, by simp [cells], (by intro h; cases h), grownCap_ge w l.length 0 5, (by intro ad h _; cases h; rfl), ?_⟩
  intro ad ha j u hu
  cases ha
  have hj : j < l.length := by have := (List.getElem?_eq_some_iff.1 hu).1; simpa [cells] using this
  have ea : (⟨w.heap.size, 0, none⟩ : Addr).add j = ⟨w.heap.size, j, none⟩ := by unfold Addr.add; split <;> simp_all
  rw [ea, Lib.bytesWorld_cell w 5 ⟨l.toArray⟩ j hj, ← hu]
  simp [cells, u8, List.getD, List.getElem?_eq_getElem hj]

/-- What Bytes hands back: a new row with the bytes, and no error. -/
def Gave (w : World) (l : List UInt8) (e : Ending) (w' : World) : Prop :=
  ∃ A' c', e = .returned (.tuple #[.slice A' l.length c', .int .i64 0]) ∧ w'.ownsRow w.heap.size 5 1 (.slice A' l.length c') l.length (cells l) ∧ Below w.heap.size w w'

end Go.Proofs.Ytpcgedngikpnoaa
