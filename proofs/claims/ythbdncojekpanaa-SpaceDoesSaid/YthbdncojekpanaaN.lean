/-
  Words: eight bytes, the lowest first.
-/
import Derived.Test.YthbdncojekpanaaK
namespace Go.Proofs.Ythbdncojekpanaa
open Go.RowKit

def valN : List UInt8 → Nat
  | [] => 0
  | b :: l => b.toNat + 256 * valN l
def val (l : List UInt8) : Int := wrap64 (valN l)

theorem valN_lt (l : List UInt8) : valN l < 256 ^ l.length := by
  induction l with
  | nil => simp [valN]
  | cons b l ih =>
    have := b.toNat_lt
    simp only [valN, List.length_cons, Nat.pow_succ]
    omega
theorem valN_snoc (l : List UInt8) (b : UInt8) : valN (l ++ [b]) = valN l + b.toNat * 256 ^ l.length := by
  induction l with
  | nil => simp [valN]
  | cons a l ih =>
    simp only [List.cons_append, valN, ih, List.length_cons, Nat.pow_succ]
    rw [Nat.mul_add, Nat.add_assoc]
    congr 1
    congr 1
    rw [Nat.mul_comm (256 ^ l.length) 256, ← Nat.mul_assoc, ← Nat.mul_assoc, Nat.mul_comm b.toNat 256]
theorem wrap_i64 (n : Int) : IntKind.i64.wrap n = wrap64 n := by
  unfold wrap64
  simp [IntKind.wrap, IntKind.bits, IntKind.signed]
  by_cases h : 9223372036854775808 ≤ n % 18446744073709551616
  · rw [if_pos h]; omega
  · rw [if_neg h]; omega
theorem ofInt_wrap (x : Int) : BitVec.ofInt 64 (wrap64 x) = BitVec.ofInt 64 x := by
  apply BitVec.eq_of_toInt_eq
  rw [BitVec.toInt_ofInt, BitVec.toInt_ofInt]
  unfold wrap64 Int.bmod
  simp
theorem or_byte (a c k : Nat) (hk : k ≤ 7) (ha : a < 256 ^ k) (hc : c < 256) : bits .or .i64 (wrap64 a) (wrap64 (wrap64 (c : Int) * 2 ^ (8 * k))) = wrap64 ((a + c * 256 ^ k : Nat) : Int) := by
  have hcw : wrap64 (c : Int) = c := by unfold wrap64; omega
  have hp : (2 : Nat) ^ (8 * k) = 256 ^ k := by rw [Nat.pow_mul]
  have h7 : 256 ^ k ≤ 256 ^ 7 := Nat.pow_le_pow_right (by omega) hk
  have e7 : (256 : Nat) ^ 7 = 72057594037927936 := by decide
  have hb : c * 256 ^ k < 18446744073709551616 := by
    have : c * 256 ^ k ≤ 255 * 256 ^ 7 := Nat.mul_le_mul (by omega) h7
    omega
  have hcast : ((c : Int) * 2 ^ (8 * k)) = ((c * 256 ^ k : Nat) : Int) := by
    rw [← hp]; simp
  rw [hcw, hcast]
  have key : ∀ x y : Int, bits .or .i64 x y = IntKind.i64.wrap (((BitVec.ofInt 64 x) ||| (BitVec.ofInt 64 y)).toNat : Int) := fun _ _ => rfl
  rw [key, ofInt_wrap, ofInt_wrap, wrap_i64, BitVec.ofInt_natCast, BitVec.ofInt_natCast, BitVec.toNat_or, BitVec.toNat_ofNat, BitVec.toNat_ofNat, Nat.mod_eq_of_lt (by omega), Nat.mod_eq_of_lt (by omega)]
  have hor : a ||| c * 256 ^ k = a + c * 256 ^ k := by
    rw [← hp, Nat.mul_comm c, Nat.or_comm, ← Nat.two_pow_add_eq_or_of_lt (by rw [hp]; exact ha), Nat.add_comm]
  rw [hor]

/-- What is there of bytes, behind a take. -/
theorem Taken.lies {w w1 : World} {bs : List Blk} {a need : Int} {e : Ending} (h : Taken w bs a 8 need e w1) : ∃ (l : Str) (A : Option Addr) (n c : Nat), e = .returned (.tuple #[.slice A n c, .int .i64 (goes bs a 8 need)]) ∧ Src w1 (fun k => k < w1.heap.size) A n c (cells l) ∧ n ≤ 8 ∧ l = (if goes bs a 8 need = 0 then got bs a 8 else []) := by
  obtain ⟨hb, ⟨h1, rfl⟩ | ⟨h1, gn, rfl, ho⟩⟩ := h
  · refine ⟨[], none, 0, 0, rfl, ⟨rfl, fun _ => ⟨rfl, rfl⟩, Nat.le_refl _, (by intro ad hA; cases hA), (by intro ad hA; cases hA)⟩, by omega, by rw [if_neg h1]⟩
  · refine ⟨got bs a 8, some ⟨gn, 0, none⟩, 8, 8, by rw [h1]; rfl, (Src.of_own ho).weak fun k hk => hk.2.2, by omega, by rw [if_pos h1]⟩
def wordAt (bs : List Blk) (a need : Int) : Int := val (if goes bs a 8 need = 0 then got bs a 8 else [])
set_option maxRecDepth 100000 in
set_option maxHeartbeats 2000000 in
theorem takeWord_any (B g : Nat) (A : Option Addr) (c : Nat) (rs : List Raw) (a need : Int) (ha : I64 a) (w : World) (h : Sp w B g A c rs) :
    Calls Try.prog 59 #[.pointer (some ⟨g, 0, none⟩), .int .i64 a, .int .i64 need] w fun e w' => Below w.heap.size w w' ∧ e = .returned (.tuple #[.int .i64 (wordAt (blks rs) a need), .int .i64 (goes (blks rs) a 8 need)]) := by
  have HT := Lib.hid (take_any B g A c rs a 8 need ha w h)
  clear h
  generalize hV : wordAt (blks rs) a need = V
  generalize hE : goes (blks rs) a 8 need = E
  have HV := Lib.hid hV
  have HE := Lib.hid hE
  clear hV hE
  go_enter Try.func59, Try.ntmps59
  go_wp2_with fail
  refine HT.out.mono ?_
  intro e w1 ht
  have HB := Lib.hid ht.1
  obtain ⟨l, A1, n, c1, rfl, hs, hn, hl⟩ := ht.lies
  have HW := Lib.hid (show V = val l by rw [← HV.out]; unfold wordAt; rw [hl])
  have HL := Lib.hid (show l.length = n by have := hs.len; rwa [cells_len] at this)
  have HX := Lib.hid hs
  rw [HE.out]
  clear hs hl ht HT HV HE
  go_wp2_with fail
  go_loop [10, 11, 12, 22] (fun m _ _ i => ∃ k : Nat, k ≤ n ∧ i = .int .i64 k ∧ m = .int .i64 (val (l.take k))) (fun _ _ _ i => n - (intOf i).toNat)
  case atStart => exact ⟨0, Nat.zero_le _, rfl, by simp [val, valN, wrap64]⟩
  case round =>
    obtain ⟨k, hk, rfl, rfl⟩ := hrel
    by_cases hlt : k < n
    · have hkl : k < l.length := by rw [HL.out]; exact hlt
      obtain ⟨ad, rfl⟩ : ∃ ad, A1 = some ad := by
        cases A1 with
        | none => have := (HX.out.nil rfl).1; omega
        | some ad => exact ⟨ad, rfl⟩
      have hcell : w1.cell? (ad.add k) = some (.int .u8 (l[k].toNat : Int)) := HX.out.at_ ad rfl k _ (by simp [cells, List.getElem?_eq_getElem hkl])
      have hcap := HX.out.cap
      have hs : bits .or .i64 (val (l.take k)) (wrap64 (wrap64 (l[k].toNat : Int) * 2 ^ (8 * k))) = val (l.take (k + 1)) := by
        have e : l.take (k + 1) = l.take k ++ [l[k]] := List.take_succ_eq_append_getElem hkl
        have hlen : (l.take k).length = k := by rw [List.length_take]; omega
        have hlt' := valN_lt (l.take k)
        rw [hlen] at hlt'
        unfold val
        rw [or_byte _ _ k (by omega) hlt' l[k].toNat_lt, e, valN_snoc, hlen]
      have HS := Lib.hid hs
      clear hs
      go_wp2
      go_round
      case rel => exact ⟨k + 1, by omega, by go_num, by rw [HS.out]⟩
      case measure => simp [intOf]; omega
    · obtain rfl : k = n := by omega
      go_wp2
      first | go_ret2 | skip
      have : l.take k = l := List.take_of_length_le (by rw [HL.out]; exact Nat.le_refl _)
      rw [this, HW.out]
      exact ⟨HB.out, rfl⟩
end Go.Proofs.Ythbdncojekpanaa
