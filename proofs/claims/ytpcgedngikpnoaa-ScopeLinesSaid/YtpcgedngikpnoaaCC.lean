/-
  What the leaf functions of a reader do, for every input: the number of some bytes, taking bytes, a piece behind its length.
-/
import Derived.Test.YtpcgedngikpnoaaCB
import Derived.IntWalk
import Derived.Laws.BytesArg
import Derived.Laws.IdiomStrings
namespace Go.Proofs.Ytpcgedngikpnoaa
set_option maxRecDepth 100000
set_option linter.unusedSimpArgs false
set_option linter.unusedVariables false
open Go.RowKit

/-- The number of some bytes, the lowest first. -/
def valN : List UInt8 → Nat
  | [] => 0
  | b :: l => b.toNat + 256 * valN l
def val (l : List UInt8) : Int := wrap64 (valN l)

theorem valN_lt (l : List UInt8) : valN l < 256 ^ l.length := by
  induction l with
  | nil => simp [valN]
  | cons b l ih =>
    have := b.toNat_lt
    simp only [valN, List.length_cons, Nat.pow_succ]
    omega
theorem valN_snoc (l : List UInt8) (b : UInt8) : valN (l ++ [b]) = valN l + b.toNat * 256 ^ l.length := by
  induction l with
  | nil => simp [valN]
  | cons a l ih =>
    simp only [List.cons_append, valN, ih, List.length_cons, Nat.pow_succ]
    rw [Nat.mul_add, Nat.add_assoc]
    congr 1
    congr 1
    rw [Nat.mul_comm (256 ^ l.length) 256, ← Nat.mul_assoc, ← Nat.mul_assoc, Nat.mul_comm b.toNat 256]
theorem wrap_i64 (n : Int) : IntKind.i64.wrap n = wrap64 n := by
  unfold wrap64
  simp [IntKind.wrap, IntKind.bits, IntKind.signed]
  by_cases h : 9223372036854775808 ≤ n % 18446744073709551616
  · rw [if_pos h]; omega
  · rw [if_neg h]; omega
theorem ofInt_wrap (x : Int) : BitVec.ofInt 64 (wrap64 x) = BitVec.ofInt 64 x := by
  apply BitVec.eq_of_toInt_eq
  rw [BitVec.toInt_ofInt, BitVec.toInt_ofInt]
  unfold wrap64 Int.bmod
  simp
theorem or_byte (a c k : Nat) (hk : k ≤ 7) (ha : a < 256 ^ k) (hc : c < 256) : bits .or .i64 (wrap64 a) (wrap64 (wrap64 (c : Int) * 2 ^ (8 * k))) = wrap64 ((a + c * 256 ^ k : Nat) : Int) := by
  have hcw : wrap64 (c : Int) = c := by unfold wrap64; omega
  have hp : (2 : Nat) ^ (8 * k) = 256 ^ k := by rw [Nat.pow_mul]
  have h7 : 256 ^ k ≤ 256 ^ 7 := Nat.pow_le_pow_right (by omega) hk
  have e7 : (256 : Nat) ^ 7 = 72057594037927936 := by decide
  have hb : c * 256 ^ k < 18446744073709551616 := by
    have : c * 256 ^ k ≤ 255 * 256 ^ 7 := Nat.mul_le_mul (by omega) h7
    omega
  have hcast : ((c : Int) * 2 ^ (8 * k)) = ((c * 256 ^ k : Nat) : Int) := by
    rw [← hp]; simp
  rw [hcw, hcast]
  have key : ∀ x y : Int, bits .or .i64 x y = IntKind.i64.wrap (((BitVec.ofInt 64 x) ||| (BitVec.ofInt 64 y)).toNat : Int) := fun _ _ => rfl
  rw [key, ofInt_wrap, ofInt_wrap, wrap_i64, BitVec.ofInt_natCast, BitVec.ofInt_natCast, BitVec.toNat_or, BitVec.toNat_ofNat, BitVec.toNat_ofNat, Nat.mod_eq_of_lt (by omega), Nat.mod_eq_of_lt (by omega)]
  have hor : a ||| c * 256 ^ k = a + c * 256 ^ k := by
    rw [← hp, Nat.mul_comm c, Nat.or_comm, ← Nat.two_pow_add_eq_or_of_lt (by rw [hp]; exact ha), Nat.add_comm]
  rw [hor]

theorem src_nil (w : World) (P : Nat → Prop) : Src w P none 0 0 (cells []) := ⟨rfl, fun _ => ⟨rfl, rfl⟩, Nat.le_refl _, (by intro ad h; cases h), (by intro ad h; cases h)⟩
theorem grown_set (w : World) (g i : Nat) (u : Value) : w.grownBy (w.setCell ⟨g, i, none⟩ u) (some g) :=
  ⟨rfl, rfl, rfl, by simp [World.setCell], fun k _ hne => heap_setCell_other _ _ _ _ (fun e => hne (by rw [show k = g from e]))⟩

theorem Src.front {w : World} {P : Nat → Prop} {A : Option Addr} {n c : Nat} {l : List UInt8} (h : Src w P A n c (cells l)) (k : Nat) (hk : k ≤ n) : Src w P A (l.take k).length c (cells (l.take k)) := by
  have hl : l.length = n := by have := h.len; simpa [cells_len] using this
  have hk' : (l.take k).length = k := by rw [List.length_take]; omega
  rw [hk']
  have hc := h.cap
  refine ⟨by rw [cells_len]; exact hk', fun hA => ?_, by omega, fun ad hA h0 => h.blk ad hA (by omega), fun ad hA j u hu => h.at_ ad hA j u ?_⟩
  · have := h.nil hA; omega
  · rw [← hu]
    have hj : j < k := by have := (List.getElem?_eq_some_iff.1 hu).1; rw [cells_len, hk'] at this; exact this
    simp [cells, hj]
theorem Src.rest {w : World} {P : Nat → Prop} {A : Option Addr} {n c : Nat} {l : List UInt8} (h : Src w P A n c (cells l)) (k : Nat) (hk : k ≤ n) : Src w P (A.map (·.add k)) (l.drop k).length (c - k) (cells (l.drop k)) := by
  have hl : l.length = n := by have := h.len; simpa [cells_len] using this
  have hk' : (l.drop k).length = n - k := by rw [List.length_drop]; omega
  rw [hk']
  have hc := h.cap
  refine ⟨by rw [cells_len]; exact hk', fun hA => ?_, by omega, fun ad hA h0 => ?_, fun ad hA j u hu => ?_⟩
  · have := h.nil (by cases A with | none => rfl | some a => cases hA); omega
  · cases A with
    | none => cases hA
    | some a => cases hA; rw [addBlock]; exact h.blk a rfl (by omega)
  · cases A with
    | none => cases hA
    | some a =>
      cases hA
      rw [addAdd]
      refine h.at_ a rfl _ u ?_
      rw [← hu]
      simp [cells, List.getElem?_drop]
theorem Src.last {w : World} {P : Nat → Prop} {A : Option Addr} {n : Nat} {l : List UInt8} (h : Src w P A l.length n (cells l)) : Src w P A (l.drop n).length 0 (cells (l.drop n)) := by
  have he : l.drop n = [] := List.drop_eq_nil_of_le (by have := h.cap; omega)
  rw [he]
  exact ⟨rfl, fun _ => ⟨rfl, rfl⟩, Nat.le_refl _, (by intro ad _ h0; exact absurd h0 (by simp)), (by intro ad _ j u hu; simp [cells] at hu)⟩

def rTake (n : Nat) (s : St) : List UInt8 × St := if s.1 = 0 then (if n ≤ s.2.length then (s.2.take n, (0, s.2.drop n)) else ([], (11, s.2))) else ([], s)

/-- A reader's Num. -/
def rNum (size : Int) (s : St) : Int × St := if sized size = true then (let t := rTake size.toNat s; (val t.1, t.2)) else (0, if s.1 = 0 then (1, s.2) else s)
theorem rTake_len (n : Nat) (s : St) : (rTake n s).1.length ≤ n := by
  unfold rTake
  split
  · split
    · simp; omega
    · simp
  · simp

/-- A piece behind its length. -/
def rMeas (size most : Nat) (s : St) : List UInt8 × St :=
  if s.1 = 0 then
    (if s.2.length < size then ([], (11, s.2)) else
      if most < valN (s.2.take size) then ([], (2, s.2)) else
        if s.2.length - size < valN (s.2.take size) then ([], (11, s.2)) else
          ((s.2.drop size).take (valN (s.2.take size)), (0, (s.2.drop size).drop (valN (s.2.take size)))))
  else ([], s)
theorem val_small (l : List UInt8) (h : l.length ≤ 4) : val l = (valN l : Int) := by
  have h1 := valN_lt l
  have h2 : 256 ^ l.length ≤ 256 ^ 4 := Nat.pow_le_pow_right (by omega) h
  have h3 : (256 : Nat) ^ 4 = 4294967296 := by decide
  unfold val
  exact IntWalk.wrap64_in _ (by omega)


theorem src_grown {w w' : World} {P : Nat → Prop} {g : Nat} {A : Option Addr} {n c : Nat} {xs : List Value} (h : Src w P A n c xs) (hg : ¬ P g) (hb : w.grownBy w' (some g)) : Src w' P A n c xs :=
  h.keep fun k hk hl => hb.block k hl (fun e => hg (by injection e with e; rw [← e]; exact hk))

theorem conv_string {w : World} {P : Nat → Prop} {A : Option Addr} {n c : Nat} {l : List UInt8} (h : Src w P A n c (cells l)) : (convert 60 9 (.slice A n c)).run Try.prog w = .ok (.string ⟨l.toArray⟩) w := by
  have hl : l.length = n := by have := h.len; simpa [cells_len] using this
  subst hl
  cases A with
  | none =>
    have h0 := (h.nil rfl).1
    have : l = [] := List.eq_nil_of_length_eq_zero h0
    subst this
    exact run_convert_bytes_nil w 60 5 Try.underlying60 Try.underlying5 _ _ 9 Try.underlying9
  | some a =>
    refine run_convert_bytes_back w 60 9 5 a c l Try.underlying60 Try.underlying5 Try.underlying9 fun j hj => ?_
    exact h.at_ a rfl j _ (by simp [cells, u8, List.getElem?_eq_getElem hj])

theorem rMeas_len (size most : Nat) (s : St) : (rMeas size most s).1.length ≤ s.2.length := by
  unfold rMeas
  split
  · split
    · simp
    · split
      · simp
      · split
        · simp
        · simp; omega
  · simp
theorem rTake_len2 (n : Nat) (s : St) : (rTake n s).1.length ≤ s.2.length := by
  unfold rTake
  split
  · split
    · simp; omega
    · simp
  · simp

/-- A reader's Raw. -/
def rRaw (n : Int) (s : St) : List UInt8 × St := if n < 0 then ([], if s.1 = 0 then (1, s.2) else s) else rTake n.toNat s

def rEnd (s : St) : Int := if s.1 = 0 ∧ s.2 ≠ [] then 12 else s.1
end Go.Proofs.Ytpcgedngikpnoaa
