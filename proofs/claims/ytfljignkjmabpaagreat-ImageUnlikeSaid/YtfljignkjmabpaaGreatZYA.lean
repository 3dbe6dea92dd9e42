/-
  What the leaf functions of a reader do, for every input: the number of some bytes, taking bytes, a piece behind its length.
  A new reader, and the laws' common head: the document's examples.
  Several writers at once, and how long what is written may be.
  The document's own reader: what its functions answer, for every input.
  The document's own reader, on: a piece behind its length; texts and blocks.
  Symbols and their texts as plain functions; which bytes and texts are names, by the program and by the document.
-/
import Derived.Test.YtfljignkjmabpaaGreatZCB
import Derived.IntWalk
import Derived.Laws.BytesArg
import Derived.Laws.IdiomStrings
import Derived.Test.YtfljignkjmabpaaGreatZCA
import Derived.Laws.Strings3
namespace Go.Proofs.YtfljignkjmabpaaGreat
set_option maxRecDepth 100000
set_option linter.unusedSimpArgs false
set_option linter.unusedVariables false
open Go.RowKit

/-- The number of some bytes, the lowest first. -/
def valN : List UInt8 → Nat
  | [] => 0
  | b :: l => b.toNat + 256 * valN l
def val (l : List UInt8) : Int := wrap64 (valN l)

theorem valN_lt (l : List UInt8) : valN l < 256 ^ l.length := by
  induction l with
  | nil => simp [valN]
  | cons b l ih =>
    have := b.toNat_lt
    simp only [valN, List.length_cons, Nat.pow_succ]
    omega
theorem valN_snoc (l : List UInt8) (b : UInt8) : valN (l ++ [b]) = valN l + b.toNat * 256 ^ l.length := by
  induction l with
  | nil => simp [valN]
  | cons a l ih =>
    simp only [List.cons_append, valN, ih, List.length_cons, Nat.pow_succ]
    rw [Nat.mul_add, Nat.add_assoc]
    congr 1
    congr 1
    rw [Nat.mul_comm (256 ^ l.length) 256, ← Nat.mul_assoc, ← Nat.mul_assoc, Nat.mul_comm b.toNat 256]
theorem wrap_i64 (n : Int) : IntKind.i64.wrap n = wrap64 n := by
  unfold wrap64
  simp [IntKind.wrap, IntKind.bits, IntKind.signed]
  by_cases h : 9223372036854775808 ≤ n % 18446744073709551616
  · rw [if_pos h]; omega
  · rw [if_neg h]; omega
theorem ofInt_wrap (x : Int) : BitVec.ofInt 64 (wrap64 x) = BitVec.ofInt 64 x := by
  apply BitVec.eq_of_toInt_eq
  rw [BitVec.toInt_ofInt, BitVec.toInt_ofInt]
  unfold wrap64 Int.bmod
  simp
theorem or_byte (a c k : Nat) (hk : k ≤ 7) (ha : a < 256 ^ k) (hc : c < 256) : bits .or .i64 (wrap64 a) (wrap64 (wrap64 (c : Int) * 2 ^ (8 * k))) = wrap64 ((a + c * 256 ^ k : Nat) : Int) := by
  have hcw : wrap64 (c : Int) = c := by unfold wrap64; omega
  have hp : (2 : Nat) ^ (8 * k) = 256 ^ k := by rw [Nat.pow_mul]
  have h7 : 256 ^ k ≤ 256 ^ 7 := Nat.pow_le_pow_right (by omega) hk
  have e7 : (256 : Nat) ^ 7 = 72057594037927936 := by decide
  have hb : c * 256 ^ k < 18446744073709551616 := by
    have : c * 256 ^ k ≤ 255 * 256 ^ 7 := Nat.mul_le_mul (by omega) h7
    omega
  have hcast : ((c : Int) * 2 ^ (8 * k)) = ((c * 256 ^ k : Nat) : Int) := by
    rw [← hp]; simp
  rw [hcw, hcast]
  have key : ∀ x y : Int, bits .or .i64 x y = IntKind.i64.wrap (((BitVec.ofInt 64 x) ||| (BitVec.ofInt 64 y)).toNat : Int) := fun _ _ => rfl
  rw [key, ofInt_wrap, ofInt_wrap, wrap_i64, BitVec.ofInt_natCast, BitVec.ofInt_natCast, BitVec.toNat_or, BitVec.toNat_ofNat, BitVec.toNat_ofNat, Nat.mod_eq_of_lt (by omega), Nat.mod_eq_of_lt (by omega)]
  have hor : a ||| c * 256 ^ k = a + c * 256 ^ k := by
    rw [← hp, Nat.mul_comm c, Nat.or_comm, ← Nat.two_pow_add_eq_or_of_lt (by rw [hp]; exact ha), Nat.add_comm]
  rw [hor]

set_option maxHeartbeats 400000 in
theorem number_val (P : Nat → Prop) (A : Option Addr) (n c : Nat) (l : List UInt8) (w : World) (h : Src w P A n c (cells l)) (hn : n ≤ 8) :
    Calls Tryz.prog 128 #[.slice A n c] w fun e w' => e = .returned (.int .i64 (val l)) ∧ w = w' := by
  have hl : l.length = n := by have := h.len; simpa [cells_len] using this
  have HL := Lib.hid hl
  have HX := Lib.hid h
  clear h hl
  go_enter Tryz.func128, Tryz.ntmps128
  go_wp2_with fail
  go_loop [3, 4, 5, 8] (fun m _ _ i => ∃ k : Nat, k ≤ n ∧ i = .int .i64 k ∧ m = .int .i64 (val (l.take k))) (fun _ _ _ i => n - (intOf i).toNat)
  case atStart => exact ⟨0, Nat.zero_le _, rfl, by simp [val, valN, wrap64]⟩
  case round =>
    obtain ⟨k, hk, rfl, rfl⟩ := hrel
    by_cases hlt : k < n
    · have hkl : k < l.length := by rw [HL.out]; exact hlt
      obtain ⟨ad, rfl⟩ : ∃ ad, A = some ad := by
        cases A with
        | none => have := (HX.out.nil rfl).1; omega
        | some ad => exact ⟨ad, rfl⟩
      have hcell : w.cell? (ad.add k) = some (.int .u8 (l[k].toNat : Int)) := HX.out.at_ ad rfl k _ (by simp [cells, u8, List.getElem?_eq_getElem hkl])
      have hcap := HX.out.cap
      have hs : bits .or .i64 (val (l.take k)) (wrap64 (wrap64 (l[k].toNat : Int) * 2 ^ (8 * k))) = val (l.take (k + 1)) := by
        have e : l.take (k + 1) = l.take k ++ [l[k]] := List.take_succ_eq_append_getElem hkl
        have hlen : (l.take k).length = k := by rw [List.length_take]; omega
        have hlt' := valN_lt (l.take k)
        rw [hlen] at hlt'
        unfold val
        rw [or_byte _ _ k (by omega) hlt' l[k].toNat_lt, e, valN_snoc, hlen]
      have HS := Lib.hid hs
      clear hs
      go_wp2
      go_round
      case rel => exact ⟨k + 1, by omega, by go_num, by rw [HS.out]⟩
      case measure => simp [intOf]; omega
    · obtain rfl : k = n := by omega
      go_wp2
      go_ret
      have : l.take k = l := List.take_of_length_le (by rw [HL.out]; exact Nat.le_refl _)
      rw [this]
      exact ⟨rfl, rfl⟩

/-- What a reader has in memory: its first error, and what is left. -/
structure Rd (w : World) (P : Nat → Prop) (g : Nat) (e : Int) (A : Option Addr) (c : Nat) (rest : List UInt8) : Prop where
  blk : w.heap[g]? = some (.cells #[.int .i64 e, .slice A rest.length c] 91 (0, 0))
  src : Src w P A rest.length c (cells rest)
  ne : ¬ P g
  lim : c ≤ 9223372036854775807
  small : rest.length ≤ 140737488355328
theorem Rd.lt {w : World} {P : Nat → Prop} {g : Nat} {e : Int} {A : Option Addr} {c : Nat} {rest : List UInt8} (h : Rd w P g e A c rest) : g < w.heap.size := by
  rcases Nat.lt_or_ge g w.heap.size with hlt | hge
  · exact hlt
  · have := h.blk; rw [Array.getElem?_eq_none hge] at this; cases this
theorem Rd.below {w w' : World} {P : Nat → Prop} {g : Nat} {e : Int} {A : Option Addr} {c : Nat} {rest : List UInt8} (h : Rd w P g e A c rest) (hb : Below w.heap.size w w') : Rd w' P g e A c rest :=
  ⟨(hb.block g h.lt).trans h.blk, h.src.keep fun k _ hk => hb.block k hk, h.ne, h.lim, h.small⟩

/-- The reader at g has that error, and that is left; nothing else has turned but its struct. -/
def Is (w : World) (P : Nat → Prop) (g : Nat) (e : Int) (rest : List UInt8) (w' : World) : Prop := ∃ A c, Rd w' P g e A c rest ∧ w.grownBy w' (some g)
/-- Behind a call that takes bytes. -/
def Took (w : World) (P : Nat → Prop) (g : Nat) (out : List UInt8) (e : Int) (rest : List UInt8) (en : Ending) (w' : World) : Prop :=
  ∃ A c, en = .returned (.slice A out.length c) ∧ Src w' P A out.length c (cells out) ∧ Is w P g e rest w'
theorem src_nil (w : World) (P : Nat → Prop) : Src w P none 0 0 (cells []) := ⟨rfl, fun _ => ⟨rfl, rfl⟩, Nat.le_refl _, (by intro ad h; cases h), (by intro ad h; cases h)⟩
theorem Rd.set {w : World} {P : Nat → Prop} {g : Nat} {e : Int} {A : Option Addr} {c : Nat} {rest : List UInt8} (h : Rd w P g e A c rest) {A' : Option Addr} {c' : Nat} {rest' : List UInt8} (hs : Src w P A' rest'.length c' (cells rest')) (hl : c' ≤ 9223372036854775807) (hm : rest'.length ≤ 140737488355328) :
    Rd (w.setCell ⟨g, 1, none⟩ (.slice A' rest'.length c')) P g e A' c' rest' := by
  refine ⟨?_, hs.keep fun k hk _ => heap_setCell_other _ _ _ _ (fun e => h.ne (by rw [← show k = g from e]; exact hk)), h.ne, hl, hm⟩
  rw [heap_setCell_same w g 1 _ _ _ h.blk]
  rfl
theorem Rd.fail {w : World} {P : Nat → Prop} {g : Nat} {e : Int} {A : Option Addr} {c : Nat} {rest : List UInt8} (h : Rd w P g e A c rest) (k : Int) : Rd (w.setCell ⟨g, 0, none⟩ (.int .i64 k)) P g k A c rest := by
  refine ⟨?_, h.src.keep fun k hk _ => heap_setCell_other _ _ _ _ (fun e => h.ne (by rw [← show k = g from e]; exact hk)), h.ne, h.lim, h.small⟩
  rw [heap_setCell_same w g 0 _ _ _ h.blk]
  rfl
theorem grown_set (w : World) (g i : Nat) (u : Value) : w.grownBy (w.setCell ⟨g, i, none⟩ u) (some g) :=
  ⟨rfl, rfl, rfl, by simp [World.setCell], fun k _ hne => heap_setCell_other _ _ _ _ (fun e => hne (by rw [show k = g from e]))⟩

theorem Src.front {w : World} {P : Nat → Prop} {A : Option Addr} {n c : Nat} {l : List UInt8} (h : Src w P A n c (cells l)) (k : Nat) (hk : k ≤ n) : Src w P A (l.take k).length c (cells (l.take k)) := by
  have hl : l.length = n := by have := h.len; simpa [cells_len] using this
  have hk' : (l.take k).length = k := by rw [List.length_take]; omega
  rw [hk']
  have hc := h.cap
  refine ⟨by rw [cells_len]; exact hk', fun hA => ?_, by omega, fun ad hA h0 => h.blk ad hA (by omega), fun ad hA j u hu => h.at_ ad hA j u ?_⟩
  · have := h.nil hA; omega
  · rw [← hu]
    have hj : j < k := by have := (List.getElem?_eq_some_iff.1 hu).1; rw [cells_len, hk'] at this; exact this
    simp [cells, hj]
theorem Src.rest {w : World} {P : Nat → Prop} {A : Option Addr} {n c : Nat} {l : List UInt8} (h : Src w P A n c (cells l)) (k : Nat) (hk : k ≤ n) : Src w P (A.map (·.add k)) (l.drop k).length (c - k) (cells (l.drop k)) := by
  have hl : l.length = n := by have := h.len; simpa [cells_len] using this
  have hk' : (l.drop k).length = n - k := by rw [List.length_drop]; omega
  rw [hk']
  have hc := h.cap
  refine ⟨by rw [cells_len]; exact hk', fun hA => ?_, by omega, fun ad hA h0 => ?_, fun ad hA j u hu => ?_⟩
  · have := h.nil (by cases A with | none => rfl | some a => cases hA); omega
  · cases A with
    | none => cases hA
    | some a => cases hA; rw [addBlock]; exact h.blk a rfl (by omega)
  · cases A with
    | none => cases hA
    | some a =>
      cases hA
      rw [addAdd]
      refine h.at_ a rfl _ u ?_
      rw [← hu]
      simp [cells, List.getElem?_drop]
theorem Src.last {w : World} {P : Nat → Prop} {A : Option Addr} {n : Nat} {l : List UInt8} (h : Src w P A l.length n (cells l)) : Src w P A (l.drop n).length 0 (cells (l.drop n)) := by
  have he : l.drop n = [] := List.drop_eq_nil_of_le (by have := h.cap; omega)
  rw [he]
  exact ⟨rfl, fun _ => ⟨rfl, rfl⟩, Nat.le_refl _, (by intro ad _ h0; exact absurd h0 (by simp)), (by intro ad _ j u hu; simp [cells] at hu)⟩

def rTake (n : Nat) (s : St) : List UInt8 × St := if s.1 = 0 then (if n ≤ s.2.length then (s.2.take n, (0, s.2.drop n)) else ([], (11, s.2))) else ([], s)

set_option maxHeartbeats 400000 in
theorem take_err (P : Nat → Prop) (g : Nat) (e : Int) (A : Option Addr) (c : Nat) (rest : List UInt8) (n : Nat) (w : World) (h : Rd w P g e A c rest) (he : e ≠ 0) :
    Calls Tryz.prog 129 #[.pointer (some ⟨g, 0, none⟩), .int .i64 n] w (Took w P g [] e rest) := by
  have hc1 : w.cell? ⟨g, 1, none⟩ = some (.slice A rest.length c) := cell_of_row w g 1 _ _ _ h.blk
  have he' : (e != 0) = true := by simpa using he
  have H := Lib.hid h
  have HE := Lib.hid he
  clear h he
  by_cases hlt : rest.length < n
  · go_enter Tryz.func129, Tryz.ntmps129
    go_wp2_with (first
      | (go_at_call 127; refine (fail_again g _ _ e 11 _ H.out.blk rfl HE.out).mono ?_; rintro e w' ⟨rfl, rfl⟩)
      | (go_at_call 54; refine (failed_any g _ _ e _ H.out.blk rfl).mono ?_; rw [he']; rintro e w' ⟨rfl, rfl⟩))
    go_ret
    exact ⟨none, 0, rfl, src_nil _ _, A, c, H.out, World.grownBy.refl _ _⟩
  · go_enter Tryz.func129, Tryz.ntmps129
    go_wp2_with (first
      | (go_at_call 54; refine (failed_any g _ _ e _ H.out.blk rfl).mono ?_; rw [he']; rintro e w' ⟨rfl, rfl⟩))
    go_ret
    exact ⟨none, 0, rfl, src_nil _ _, A, c, H.out, World.grownBy.refl _ _⟩

set_option maxHeartbeats 400000 in
theorem take_short (P : Nat → Prop) (g : Nat) (A : Option Addr) (c : Nat) (rest : List UInt8) (n : Nat) (w : World) (h : Rd w P g 0 A c rest) (hlt : rest.length < n) :
    Calls Tryz.prog 129 #[.pointer (some ⟨g, 0, none⟩), .int .i64 n] w (Took w P g [] 11 rest) := by
  have hc1 : w.cell? ⟨g, 1, none⟩ = some (.slice A rest.length c) := cell_of_row w g 1 _ _ _ h.blk
  have H := Lib.hid h
  clear h
  go_enter Tryz.func129, Tryz.ntmps129
  go_wp2_with (first
    | (go_at_call 127; refine (fail_first g _ _ 11 _ H.out.blk rfl).mono ?_; rintro e w' ⟨rfl, rfl⟩)
    | (go_at_call 54; refine (failed_any g _ _ 11 _ (H.out.fail 11).blk rfl).mono ?_; rintro e w' ⟨rfl, rfl⟩))
  go_ret
  exact ⟨none, 0, rfl, src_nil _ _, A, c, H.out.fail 11, grown_set _ _ _ _⟩

set_option maxHeartbeats 400000 in
theorem take_ok (P : Nat → Prop) (g : Nat) (A : Option Addr) (c : Nat) (rest : List UInt8) (n : Nat) (w : World) (h : Rd w P g 0 A c rest) (hle : n ≤ rest.length) :
    Calls Tryz.prog 129 #[.pointer (some ⟨g, 0, none⟩), .int .i64 n] w (Took w P g (rest.take n) 0 (rest.drop n)) := by
  have hc1 : w.cell? ⟨g, 1, none⟩ = some (.slice A rest.length c) := cell_of_row w g 1 _ _ _ h.blk
  have hf1 : w.frozen? ⟨g, 1, none⟩ = false := frozen_of_row w g 1 _ _ h.blk
  have hcap := h.src.cap
  have hlim := h.lim
  have H := Lib.hid h
  clear h
  go_enter Tryz.func129, Tryz.ntmps129
  go_wp2_with (first
    | (go_at_call 54; refine (failed_any g _ _ 0 _ H.out.blk rfl).mono ?_; rintro e w' ⟨rfl, rfl⟩))
  all_goals
    have h := H.out
    have hd : (rest.drop n).length = rest.length - n := List.length_drop
    have ht : (rest.take n).length = n := by rw [List.length_take]; omega
  · rename_i hcn
    subst hcn
    go_ret
    have hs := h.src.last
    have hr := h.set hs (Nat.zero_le _) (by rw [hd]; have := h.small; omega)
    rw [hd] at hr
    exact ⟨A, c, by rw [ht]; rfl, h.src.front c hle |>.keep fun k hk _ => heap_setCell_other _ _ _ _ (fun e => h.ne (by rw [← show k = g from e]; exact hk)), A, 0, hr, grown_set _ _ _ _⟩
  · go_ret
    have hs := h.src.rest n hle
    have hr := h.set hs (by omega) (by rw [hd]; have := h.small; omega)
    rw [hd] at hr
    exact ⟨A, c, by rw [ht]; rfl, h.src.front n hle |>.keep fun k hk _ => heap_setCell_other _ _ _ _ (fun e => h.ne (by rw [← show k = g from e]; exact hk)), _, c - n, hr, grown_set _ _ _ _⟩

theorem take_any (P : Nat → Prop) (g : Nat) (s : St) (A : Option Addr) (c : Nat) (n : Nat) (w : World) (h : Rd w P g s.1 A c s.2) :
    Calls Tryz.prog 129 #[.pointer (some ⟨g, 0, none⟩), .int .i64 n] w (Took w P g (rTake n s).1 (rTake n s).2.1 (rTake n s).2.2) := by
  obtain ⟨e, rest⟩ := s
  by_cases he : e = 0
  · subst he
    by_cases hle : n ≤ rest.length
    · have : rTake n ((0, rest) : St) = (rest.take n, (0, rest.drop n)) := by simp [rTake, hle]
      rw [this]
      exact take_ok P g A c rest n w h hle
    · have : rTake n ((0, rest) : St) = ([], (11, rest)) := by simp [rTake, hle]
      rw [this]
      exact take_short P g A c rest n w h (by omega)
  · have : rTake n ((e, rest) : St) = ([], (e, rest)) := by simp [rTake, he]
    rw [this]
    exact take_err P g e A c rest n w h he

theorem Is.grown {w w1 w2 : World} {P : Nat → Prop} {g : Nat} {e : Int} {rest : List UInt8} (h : w.grownBy w1 (some g)) (k : Is w1 P g e rest w2) : Is w P g e rest w2 := by
  obtain ⟨A, c, h1, h2⟩ := k
  exact ⟨A, c, h1, h.trans h2⟩

/-- A reader's Num. -/
def rNum (size : Int) (s : St) : Int × St := if sized size = true then (let t := rTake size.toNat s; (val t.1, t.2)) else (0, if s.1 = 0 then (1, s.2) else s)
def Read (w : World) (P : Nat → Prop) (g : Nat) (v : Value) (e : Int) (rest : List UInt8) (en : Ending) (w' : World) : Prop := en = .returned v ∧ Is w P g e rest w'

theorem rTake_len (n : Nat) (s : St) : (rTake n s).1.length ≤ n := by
  unfold rTake
  split
  · split
    · simp; omega
    · simp
  · simp

set_option maxHeartbeats 400000 in
theorem rnum_ok (P : Nat → Prop) (g : Nat) (s : St) (A : Option Addr) (c : Nat) (size : Nat) (w : World) (h : Rd w P g s.1 A c s.2) (hs : sized size = true) :
    Calls Tryz.prog 39 #[.pointer (some ⟨g, 0, none⟩), .int .i64 size] w (Read w P g (.int .i64 (val (rTake size s).1)) (rTake size s).2.1 (rTake size s).2.2) := by
  have h8 : size ≤ 8 := by simp only [sized, decide_eq_true_eq] at hs; omega
  have hl := rTake_len size s
  have C := Lib.hid (take_any P g s A c size w h)
  have HS := Lib.hid hs
  clear h hs
  go_enter Tryz.func39, Tryz.ntmps39
  go_wp2_with (first
    | (go_at_call 126; refine (isSize_any size _).mono ?_; rw [HS.out]; rintro e w' ⟨rfl, rfl⟩)
    | (go_at_call 129; refine C.out.mono ?_; rintro e w1 ⟨A1, c1, rfl, hsrc, his⟩; have HQ := Lib.hid hsrc; have HI := Lib.hid his; clear hsrc his)
    | (go_at_call 128; refine (number_val _ A1 _ c1 _ _ HQ.out (by omega)).mono ?_; rintro e w' ⟨rfl, rfl⟩))
  go_ret
  exact ⟨rfl, HI.out⟩

set_option maxHeartbeats 400000 in
theorem rnum_bad (P : Nat → Prop) (g : Nat) (s : St) (A : Option Addr) (c : Nat) (size : Int) (w : World) (h : Rd w P g s.1 A c s.2) (hs : sized size = false) :
    Calls Tryz.prog 39 #[.pointer (some ⟨g, 0, none⟩), .int .i64 size] w (Read w P g (.int .i64 0) (if s.1 = 0 then ((1, s.2) : St) else s).1 (if s.1 = 0 then ((1, s.2) : St) else s).2) := by
  obtain ⟨e, bs⟩ := s
  by_cases he : e = 0
  · subst he
    show Calls _ _ _ w (Read w P g _ (1 : Int) bs)
    have H := Lib.hid h
    have HS := Lib.hid hs
    clear h hs
    go_enter Tryz.func39, Tryz.ntmps39
    go_wp2_with (first
      | (go_at_call 126; refine (isSize_any size _).mono ?_; rw [HS.out]; rintro e w' ⟨rfl, rfl⟩)
      | (go_at_call 127; refine (fail_first g _ _ 1 _ H.out.blk rfl).mono ?_; rintro e w' ⟨rfl, rfl⟩))
    go_ret
    exact ⟨rfl, A, c, H.out.fail 1, grown_set _ _ _ _⟩
  · have hfin : (if ((e, bs) : St).1 = 0 then ((1, bs) : St) else (e, bs)) = (e, bs) := if_neg he
    rw [hfin]
    have H := Lib.hid h
    have HS := Lib.hid hs
    have HE := Lib.hid he
    clear h hs hfin he
    go_enter Tryz.func39, Tryz.ntmps39
    go_wp2_with (first
      | (go_at_call 126; refine (isSize_any size _).mono ?_; rw [HS.out]; rintro e w' ⟨rfl, rfl⟩)
      | (go_at_call 127; refine (fail_again g _ _ e 1 _ H.out.blk rfl HE.out).mono ?_; rintro e w' ⟨rfl, rfl⟩))
    go_ret
    exact ⟨rfl, A, c, H.out, World.grownBy.refl _ _⟩

theorem rnum_any (P : Nat → Prop) (g : Nat) (s : St) (A : Option Addr) (c : Nat) (size : Int) (w : World) (h : Rd w P g s.1 A c s.2) :
    Calls Tryz.prog 39 #[.pointer (some ⟨g, 0, none⟩), .int .i64 size] w (Read w P g (.int .i64 (rNum size s).1) (rNum size s).2.1 (rNum size s).2.2) := by
  by_cases hs : sized size = true
  · obtain ⟨k, rfl⟩ : ∃ k : Nat, size = k := ⟨size.toNat, by simp only [sized, decide_eq_true_eq] at hs; omega⟩
    have := rnum_ok P g s A c k w h hs
    simpa only [rNum, hs, if_true, Int.toNat_natCast] using this
  · have := rnum_bad P g s A c size w h (by simpa using hs)
    simpa only [rNum, if_neg hs] using this

/-- A piece behind its length. -/
def rMeas (size most : Nat) (s : St) : List UInt8 × St :=
  if s.1 = 0 then
    (if s.2.length < size then ([], (11, s.2)) else
      if most < valN (s.2.take size) then ([], (2, s.2)) else
        if s.2.length - size < valN (s.2.take size) then ([], (11, s.2)) else
          ((s.2.drop size).take (valN (s.2.take size)), (0, (s.2.drop size).drop (valN (s.2.take size)))))
  else ([], s)
theorem val_small (l : List UInt8) (h : l.length ≤ 4) : val l = (valN l : Int) := by
  have h1 := valN_lt l
  have h2 : 256 ^ l.length ≤ 256 ^ 4 := Nat.pow_le_pow_right (by omega) h
  have h3 : (256 : Nat) ^ 4 = 4294967296 := by decide
  unfold val
  exact IntWalk.wrap64_in _ (by omega)


/-- Behind its length a piece is taken whole, or nothing is. -/
def Piece (w : World) (P : Nat → Prop) (g : Nat) (t : List UInt8 × St) (en : Ending) (w' : World) : Prop := Took w P g t.1 t.2.1 t.2.2 en w'

set_option maxHeartbeats 400000 in
/-- The length is there, and as many as may be. -/
theorem rmeas_in (P : Nat → Prop) (g : Nat) (A : Option Addr) (c : Nat) (rest l rest1 : List UInt8) (size most N : Nat) (t : List UInt8 × St) (w : World) (h : Rd w P g 0 A c rest)
    (hN : val l = (N : Int)) (hl : l.length ≤ 8) (hle : N ≤ most)
    (C : Calls Tryz.prog 129 #[.pointer (some ⟨g, 0, none⟩), .int .i64 size] w (Took w P g l 0 rest1)) (hN1 : N ≤ rest1.length) (ht : t = (rest1.take N, (0, rest1.drop N))) :
    Calls Tryz.prog 125 #[.pointer (some ⟨g, 0, none⟩), .int .i64 size, .int .i64 most] w (Piece w P g t) := by
  have hc1 : w.cell? ⟨g, 1, none⟩ = some (.slice A rest.length c) := cell_of_row w g 1 _ _ _ h.blk
  have HN := Lib.hid hN
  have HT := Lib.hid ht
  have CC := Lib.hid C
  clear h hN ht C
  go_enter Tryz.func125, Tryz.ntmps125
  go_wp2_with fail
  refine CC.out.mono ?_
  rintro e w1 ⟨A1, c1, rfl, hsrc, A2, c2, hrd, hgr⟩
  have HQ := Lib.hid hsrc
  have HG := Lib.hid hgr
  have C2 := Lib.hid (take_ok P g A2 c2 rest1 N w1 hrd hN1)
  clear hsrc hrd hgr
  go_wp2_with fail
  refine (number_val _ A1 _ c1 _ _ HQ.out hl).mono ?_
  rw [HN.out]
  rintro e w' ⟨rfl, rfl⟩
  go_wp2_with fail
  refine C2.out.mono ?_
  rintro e w2 ⟨A3, c3, rfl, hsrc, A4, c4, hrd, hgr⟩
  have HQ2 := Lib.hid hsrc
  have HR2 := Lib.hid hrd
  have HG2 := Lib.hid hgr
  clear hsrc hrd hgr
  go_wp2_with (go_at_call 54; refine (failed_any g _ _ 0 _ HR2.out.blk rfl).mono ?_; rintro e w' ⟨rfl, rfl⟩)
  go_ret
  rw [HT.out]
  exact ⟨A3, c3, by simp; omega, HQ2.out, A4, c4, HR2.out, HG.out.trans HG2.out⟩

theorem src_grown {w w' : World} {P : Nat → Prop} {g : Nat} {A : Option Addr} {n c : Nat} {xs : List Value} (h : Src w P A n c xs) (hg : ¬ P g) (hb : w.grownBy w' (some g)) : Src w' P A n c xs :=
  h.keep fun k hk hl => hb.block k hl (fun e => hg (by injection e with e; rw [← e]; exact hk))

set_option maxHeartbeats 400000 in
/-- Something is wrong already, or the length is not there. -/
theorem rmeas_out (P : Nat → Prop) (g : Nat) (e0 e : Int) (A : Option Addr) (c : Nat) (rest rest1 : List UInt8) (size most : Nat) (w : World) (h : Rd w P g e0 A c rest)
    (C : Calls Tryz.prog 129 #[.pointer (some ⟨g, 0, none⟩), .int .i64 size] w (Took w P g [] e rest1)) (he : e ≠ 0) :
    Calls Tryz.prog 125 #[.pointer (some ⟨g, 0, none⟩), .int .i64 size, .int .i64 most] w (Piece w P g ([], (e, rest))) := by
  have hc1 : w.cell? ⟨g, 1, none⟩ = some (.slice A rest.length c) := cell_of_row w g 1 _ _ _ h.blk
  have he' : (e != 0) = true := by simpa using he
  have hv0 : val [] = 0 := by simp [val, valN, wrap64]
  have HV := Lib.hid hv0
  have HE := Lib.hid he
  have HH := Lib.hid h
  have CC := Lib.hid C
  clear h C he hv0
  go_enter Tryz.func125, Tryz.ntmps125
  go_wp2_with fail
  refine CC.out.mono ?_
  rintro en w1 ⟨A1, c1, rfl, hsrc, A2, c2, hrd, hgr⟩
  have HQ := Lib.hid hsrc
  have HG := Lib.hid hgr
  have C2 := Lib.hid (take_err P g e A2 c2 rest1 0 w1 hrd HE.out)
  clear hsrc hrd hgr
  go_wp2_with fail
  refine (number_val _ A1 _ c1 [] _ HQ.out (Nat.zero_le _)).mono ?_
  rw [HV.out]
  rintro en w' ⟨rfl, rfl⟩
  go_wp2_with fail
  refine C2.out.mono ?_
  rintro en w2 ⟨A3, c3, rfl, hsrc, A4, c4, hrd, hgr⟩
  have HR2 := Lib.hid hrd
  have HG2 := Lib.hid hgr
  have HQ2 := Lib.hid hsrc
  have hf1 : w2.frozen? ⟨g, 1, none⟩ = false := frozen_of_row w2 g 1 _ _ hrd.blk
  have hc2 : w2.cell? ⟨g, 1, none⟩ = some (.slice A4 rest1.length c4) := cell_of_row w2 g 1 _ _ _ hrd.blk
  clear hsrc hrd hgr
  go_wp2_with (go_at_call 54; refine (failed_any g _ _ e _ HR2.out.blk rfl).mono ?_; rw [he']; rintro en w' ⟨rfl, rfl⟩)
  go_ret
  have hG := HG.out.trans HG2.out
  have hs := src_grown HH.out.src HH.out.ne hG
  refine ⟨A3, c3, rfl, HQ2.out.keep fun k hk _ => heap_setCell_other _ _ _ _ (fun e => HH.out.ne (by rw [← show k = g from e]; exact hk)), A, c, HR2.out.set hs HH.out.lim HH.out.small, hG.trans (grown_set _ _ _ _)⟩

set_option maxHeartbeats 400000 in
/-- The length is greater than may be. -/
theorem rmeas_long (P : Nat → Prop) (g : Nat) (A : Option Addr) (c : Nat) (rest l rest1 : List UInt8) (size most N : Nat) (w : World) (h : Rd w P g 0 A c rest)
    (hN : val l = (N : Int)) (hl : l.length ≤ 8) (hle : most < N)
    (C : Calls Tryz.prog 129 #[.pointer (some ⟨g, 0, none⟩), .int .i64 size] w (Took w P g l 0 rest1)) :
    Calls Tryz.prog 125 #[.pointer (some ⟨g, 0, none⟩), .int .i64 size, .int .i64 most] w (Piece w P g ([], (2, rest))) := by
  have hc1 : w.cell? ⟨g, 1, none⟩ = some (.slice A rest.length c) := cell_of_row w g 1 _ _ _ h.blk
  have HN := Lib.hid hN
  have HH := Lib.hid h
  have CC := Lib.hid C
  clear h hN C
  go_enter Tryz.func125, Tryz.ntmps125
  go_wp2_with fail
  refine CC.out.mono ?_
  rintro en w1 ⟨A1, c1, rfl, hsrc, A2, c2, hrd, hgr⟩
  have HQ := Lib.hid hsrc
  have HG := Lib.hid hgr
  have HR := Lib.hid hrd
  have C2 := Lib.hid (take_err P g 2 A2 c2 rest1 N _ (hrd.fail 2) (by decide))
  clear hsrc hrd hgr
  go_wp2_with fail
  refine (number_val _ A1 _ c1 _ _ HQ.out hl).mono ?_
  rw [HN.out]
  rintro en w' ⟨rfl, rfl⟩
  go_wp2_with fail
  refine (fail_first g _ _ 2 _ HR.out.blk rfl).mono ?_
  rintro en w' ⟨rfl, rfl⟩
  go_wp2_with fail
  refine C2.out.mono ?_
  rintro en w2 ⟨A3, c3, rfl, hsrc, A4, c4, hrd, hgr⟩
  have HR2 := Lib.hid hrd
  have HG2 := Lib.hid hgr
  have HQ2 := Lib.hid hsrc
  have hf1 : w2.frozen? ⟨g, 1, none⟩ = false := frozen_of_row w2 g 1 _ _ hrd.blk
  have hc2 : w2.cell? ⟨g, 1, none⟩ = some (.slice A4 rest1.length c4) := cell_of_row w2 g 1 _ _ _ hrd.blk
  clear hsrc hrd hgr
  go_wp2_with (go_at_call 54; refine (failed_any g _ _ 2 _ HR2.out.blk rfl).mono ?_; rintro en w' ⟨rfl, rfl⟩)
  go_ret
  have hG := (HG.out.trans (grown_set _ _ _ _)).trans HG2.out
  have hs := src_grown HH.out.src HH.out.ne hG
  refine ⟨A3, c3, rfl, HQ2.out.keep fun k hk _ => heap_setCell_other _ _ _ _ (fun e => HH.out.ne (by rw [← show k = g from e]; exact hk)), A, c, HR2.out.set hs HH.out.lim HH.out.small, hG.trans (grown_set _ _ _ _)⟩

set_option maxHeartbeats 400000 in
/-- The length may be, but fewer bytes are there. -/
theorem rmeas_short (P : Nat → Prop) (g : Nat) (A : Option Addr) (c : Nat) (rest l rest1 : List UInt8) (size most N : Nat) (w : World) (h : Rd w P g 0 A c rest)
    (hN : val l = (N : Int)) (hl : l.length ≤ 8) (hle : N ≤ most)
    (C : Calls Tryz.prog 129 #[.pointer (some ⟨g, 0, none⟩), .int .i64 size] w (Took w P g l 0 rest1)) (hN1 : rest1.length < N) :
    Calls Tryz.prog 125 #[.pointer (some ⟨g, 0, none⟩), .int .i64 size, .int .i64 most] w (Piece w P g ([], (11, rest))) := by
  have hc1 : w.cell? ⟨g, 1, none⟩ = some (.slice A rest.length c) := cell_of_row w g 1 _ _ _ h.blk
  have HN := Lib.hid hN
  have HH := Lib.hid h
  have CC := Lib.hid C
  clear h hN C
  go_enter Tryz.func125, Tryz.ntmps125
  go_wp2_with fail
  refine CC.out.mono ?_
  rintro en w1 ⟨A1, c1, rfl, hsrc, A2, c2, hrd, hgr⟩
  have HQ := Lib.hid hsrc
  have HG := Lib.hid hgr
  have C2 := Lib.hid (take_short P g A2 c2 rest1 N _ hrd hN1)
  clear hsrc hrd hgr
  go_wp2_with fail
  refine (number_val _ A1 _ c1 _ _ HQ.out hl).mono ?_
  rw [HN.out]
  rintro en w' ⟨rfl, rfl⟩
  go_wp2_with fail
  refine C2.out.mono ?_
  rintro en w2 ⟨A3, c3, rfl, hsrc, A4, c4, hrd, hgr⟩
  have HR2 := Lib.hid hrd
  have HG2 := Lib.hid hgr
  have HQ2 := Lib.hid hsrc
  have hf1 : w2.frozen? ⟨g, 1, none⟩ = false := frozen_of_row w2 g 1 _ _ hrd.blk
  have hc2 : w2.cell? ⟨g, 1, none⟩ = some (.slice A4 rest1.length c4) := cell_of_row w2 g 1 _ _ _ hrd.blk
  clear hsrc hrd hgr
  go_wp2_with (go_at_call 54; refine (failed_any g _ _ 11 _ HR2.out.blk rfl).mono ?_; rintro en w' ⟨rfl, rfl⟩)
  go_ret
  have hG := HG.out.trans HG2.out
  have hs := src_grown HH.out.src HH.out.ne hG
  refine ⟨A3, c3, rfl, HQ2.out.keep fun k hk _ => heap_setCell_other _ _ _ _ (fun e => HH.out.ne (by rw [← show k = g from e]; exact hk)), A, c, HR2.out.set hs HH.out.lim HH.out.small, hG.trans (grown_set _ _ _ _)⟩

theorem rmeas_any (P : Nat → Prop) (g : Nat) (s : St) (A : Option Addr) (c : Nat) (size most : Nat) (w : World) (h : Rd w P g s.1 A c s.2) (h4 : size ≤ 4) :
    Calls Tryz.prog 125 #[.pointer (some ⟨g, 0, none⟩), .int .i64 size, .int .i64 most] w (Piece w P g (rMeas size most s)) := by
  obtain ⟨e, rest⟩ := s
  by_cases he : e = 0
  · subst he
    by_cases h1 : rest.length < size
    · have : rMeas size most ((0, rest) : St) = ([], (11, rest)) := by simp [rMeas, h1]
      rw [this]
      exact rmeas_out P g 0 11 A c rest rest size most w h (take_short P g A c rest size w h h1) (by decide)
    · have hl : (rest.take size).length ≤ 4 := by rw [List.length_take]; omega
      have hv := val_small _ hl
      have C := take_ok P g A c rest size w h (by omega)
      have hd : (rest.drop size).length = rest.length - size := List.length_drop
      by_cases hgt : most < valN (rest.take size)
      · have : rMeas size most ((0, rest) : St) = ([], (2, rest)) := by simp [rMeas, h1, hgt]
        rw [this]
        exact rmeas_long P g A c rest _ _ size most _ w h hv (by omega) hgt C
      · by_cases hsh : rest.length - size < valN (rest.take size)
        · have : rMeas size most ((0, rest) : St) = ([], (11, rest)) := by simp [rMeas, h1, hgt, hsh]
          rw [this]
          exact rmeas_short P g A c rest _ _ size most _ w h hv (by omega) (by omega) C (by omega)
        · exact rmeas_in P g A c rest _ _ size most _ _ w h hv (by omega) (by omega) C (by omega) (by simp [rMeas, h1, hgt, hsh])
  · have : rMeas size most ((e, rest) : St) = ([], (e, rest)) := by simp [rMeas, he]
    rw [this]
    exact rmeas_out P g e e A c rest rest size most w h (take_err P g e A c rest size w h he) he

/-- A reader's Text. -/
def Said (w : World) (P : Nat → Prop) (g : Nat) (t : List UInt8 × St) (en : Ending) (w' : World) : Prop := en = .returned (.string ⟨t.1.toArray⟩) ∧ Is w P g t.2.1 t.2.2 w'
theorem conv_string {w : World} {P : Nat → Prop} {A : Option Addr} {n c : Nat} {l : List UInt8} (h : Src w P A n c (cells l)) : (convert 22 9 (.slice A n c)).run Tryz.prog w = .ok (.string ⟨l.toArray⟩) w := by
  have hl : l.length = n := by have := h.len; simpa [cells_len] using this
  subst hl
  cases A with
  | none =>
    have h0 := (h.nil rfl).1
    have : l = [] := List.eq_nil_of_length_eq_zero h0
    subst this
    exact run_convert_bytes_nil w 22 5 Tryz.underlying22 Tryz.underlying5 _ _ 9 Tryz.underlying9
  | some a =>
    refine run_convert_bytes_back w 22 9 5 a c l Tryz.underlying22 Tryz.underlying5 Tryz.underlying9 fun j hj => ?_
    exact h.at_ a rfl j _ (by simp [cells, u8, List.getElem?_eq_getElem hj])

set_option maxHeartbeats 400000 in
theorem rtext_any (P : Nat → Prop) (g : Nat) (s : St) (A : Option Addr) (c : Nat) (w : World) (h : Rd w P g s.1 A c s.2) :
    Calls Tryz.prog 38 #[.pointer (some ⟨g, 0, none⟩)] w (Said w P g (rMeas 2 4096 s)) := by
  have C := Lib.hid (rmeas_any P g s A c 2 4096 w h (by omega))
  clear h
  generalize rMeas 2 4096 s = t at *
  go_enter Tryz.func38, Tryz.ntmps38
  go_wp2_with (go_at_call 125; refine C.out.mono ?_; rintro en w1 ⟨A1, c1, rfl, hsrc, his⟩; have hcv := conv_string hsrc; have HI := Lib.hid his; clear hsrc his)
  go_ret
  exact ⟨rfl, HI.out⟩

/-- A reader's Block, and Raw: a row of the caller's own. -/
def Got (w : World) (P : Nat → Prop) (g : Nat) (t : List UInt8 × St) (en : Ending) (w' : World) : Prop :=
  ∃ A c, en = .returned (.slice A t.1.length c) ∧ w'.ownsRow w.heap.size 5 1 (.slice A t.1.length c) t.1.length (cells t.1) ∧ Is w P g t.2.1 t.2.2 w'
theorem Is.below {w w1 w2 : World} {P : Nat → Prop} {g : Nat} {e : Int} {rest : List UInt8} (h : Is w P g e rest w1) (hb : Below w1.heap.size w1 w2) : Is w P g e rest w2 := by
  obtain ⟨A, c, h1, h2⟩ := h
  exact ⟨A, c, h1.below hb, h2.trans ⟨hb.os, hb.tape, hb.output, hb.size, fun k hk _ => hb.block k hk⟩⟩
theorem rMeas_len (size most : Nat) (s : St) : (rMeas size most s).1.length ≤ s.2.length := by
  unfold rMeas
  split
  · split
    · simp
    · split
      · simp
      · split
        · simp
        · simp; omega
  · simp
set_option maxHeartbeats 400000 in
theorem rblock_any (P : Nat → Prop) (g : Nat) (s : St) (A : Option Addr) (c : Nat) (w : World) (h : Rd w P g s.1 A c s.2) :
    Calls Tryz.prog 53 #[.pointer (some ⟨g, 0, none⟩)] w (Got w P g (rMeas 4 1048576 s)) := by
  have hl : (rMeas 4 1048576 s).1.length ≤ 140737488355328 := Nat.le_trans (rMeas_len _ _ _) h.small
  have C := Lib.hid (rmeas_any P g s A c 4 1048576 w h (by omega))
  clear h
  generalize rMeas 4 1048576 s = t at *
  go_enter Tryz.func53, Tryz.ntmps53
  go_wp2_with (first
    | (go_at_call 125; refine C.out.mono ?_; rintro en w1 ⟨A1, c1, rfl, hsrc, his⟩; have HQ := Lib.hid hsrc; have HI := Lib.hid his; clear hsrc his)
    | (go_at_call 36; refine (clone_any _ A1 _ c1 _ _ HQ.out hl).mono ?_; rintro en w2 ⟨A2, c2, rfl, hown, hb⟩; have HO := Lib.hid hown; have HB := Lib.hid hb; clear hown hb))
  go_ret
  refine ⟨A2, c2, rfl, own_more HO.out ?_, HI.out.below HB.out⟩
  obtain ⟨_, _, _, h2⟩ := HI.out
  exact h2.size

/-- A reader's Raw. -/
def rRaw (n : Int) (s : St) : List UInt8 × St := if n < 0 then ([], if s.1 = 0 then (1, s.2) else s) else rTake n.toNat s

theorem rfault_any (P : Nat → Prop) (g : Nat) (e : Int) (A : Option Addr) (c : Nat) (rest : List UInt8) (w : World) (h : Rd w P g e A c rest) :
    Calls Tryz.prog 130 #[.pointer (some ⟨g, 0, none⟩)] w fun en w' => en = .returned (.int .i64 e) ∧ w = w' := by
  have hc0 : w.cell? ⟨g, 0, none⟩ = some (.int .i64 e) := cell_of_row w g 0 _ _ _ h.blk
  clear h
  go_enter Tryz.func130, Tryz.ntmps130
  go_wp2
  go_ret
  exact ⟨rfl, rfl⟩

def rEnd (s : St) : Int := if s.1 = 0 ∧ s.2 ≠ [] then 12 else s.1
theorem rend_any (P : Nat → Prop) (g : Nat) (s : St) (A : Option Addr) (c : Nat) (w : World) (h : Rd w P g s.1 A c s.2) :
    Calls Tryz.prog 18 #[.pointer (some ⟨g, 0, none⟩)] w fun en w' => en = .returned (.int .i64 (rEnd s)) ∧ w = w' := by
  obtain ⟨e, rest⟩ := s
  have hc0 : w.cell? ⟨g, 0, none⟩ = some (.int .i64 e) := cell_of_row w g 0 _ _ _ h.blk
  have hc1 : w.cell? ⟨g, 1, none⟩ = some (.slice A rest.length c) := cell_of_row w g 1 _ _ _ h.blk
  by_cases he : e = 0
  · subst he
    have H := Lib.hid h
    clear h
    cases rest with
    | nil =>
      go_enter Tryz.func18, Tryz.ntmps18
      go_wp2_with (go_at_call 54; refine (failed_any g _ _ 0 _ H.out.blk rfl).mono ?_; rintro e w' ⟨rfl, rfl⟩)
      go_ret
      exact ⟨rfl, rfl⟩
    | cons b r =>
      go_enter Tryz.func18, Tryz.ntmps18
      go_wp2_with (go_at_call 54; refine (failed_any g _ _ 0 _ H.out.blk rfl).mono ?_; rintro e w' ⟨rfl, rfl⟩)
      go_ret
      exact ⟨rfl, rfl⟩
  · have he' : (e != 0) = true := by simpa using he
    have hr : rEnd (e, rest) = e := by simp [rEnd, he]
    rw [hr]
    have H := Lib.hid h
    clear h hr he
    go_enter Tryz.func18, Tryz.ntmps18
    go_wp2_with (go_at_call 54; refine (failed_any g _ _ e _ H.out.blk rfl).mono ?_; rw [he']; rintro e w' ⟨rfl, rfl⟩)
    go_ret
    exact ⟨rfl, rfl⟩
end Go.Proofs.YtfljignkjmabpaaGreat

namespace Go.Proofs.YtfljignkjmabpaaGreat
set_option maxRecDepth 100000
set_option linter.unusedSimpArgs false
set_option linter.unusedVariables false
open Go.RowKit

/-- A new reader at the beginning of these bytes, of which it has a copy. -/
def Opened (w : World) (l : List UInt8) (en : Ending) (w' : World) : Prop :=
  ∃ g A c, en = .returned (.pointer (some ⟨g, 0, none⟩)) ∧ Rd w' (fun k => w.heap.size ≤ k ∧ k < g) g 0 A c l ∧ Below w.heap.size w w' ∧ w.heap.size ≤ g

theorem own_cap {w : World} {B : Nat} {e : TypeId} {n c : Nat} {A : Option Addr} {xs : List Value} (h : w.ownsRow B e 1 (.slice A n c) n xs) : c ≤ 9223372036854775807 := by
  rcases h.2 with ⟨h1, _⟩ | ⟨g', cap, cur, hv, _, _, _, hm, _⟩
  · injection h1 with _ _ h1; omega
  · injection hv with _ _ h1; subst h1; simpa [maxLen] using hm

set_option maxHeartbeats 400000 in
theorem rnew_any (P : Nat → Prop) (A : Option Addr) (n c : Nat) (l : List UInt8) (w : World) (h : Src w P A n c (cells l)) (hn : n ≤ 140737488355328) :
    Calls Tryz.prog 16 #[.slice A n c] w (Opened w l) := by
  have hl : l.length = n := by have := h.len; simpa [cells_len] using this
  subst hl
  have C := Lib.hid (clone_any P A l.length c l w h hn)
  clear h
  go_enter Tryz.func16, Tryz.ntmps16
  go_wp2_with (go_at_call 36; refine C.out.mono ?_; rintro en w1 ⟨A1, c1, rfl, hown, hb⟩; have HO := Lib.hid hown; have HB := Lib.hid hb; clear hown hb)
  go_ret
  have hs := HB.out.size
  refine ⟨w1.heap.size, A1, c1, rfl, ⟨heap_alloc_new _ _, ?_, (by intro h; omega), own_cap HO.out, hn⟩, HB.out.alloc hs _, hs⟩
  have hsrc := Src.of_own HO.out
  exact (hsrc.weak fun k hk => ⟨hk.2.1, hk.2.2⟩).keep fun k _ hkl => Below.heap_alloc _ _ _ hkl

theorem Step.to_below {g B : Nat} {w w' : World} {r r' : Option Nat} (h : Step g w r w' r') (hg : B ≤ g) (hr : ∀ k, r = some k → B ≤ k) (hB : B ≤ w.heap.size) : Below B w w' :=
  ⟨h.os, h.tape, h.output, h.size, fun k hk => h.block k (by omega) (by omega) (fun e => by have := hr k e; omega)⟩
theorem Is.to_below {w w' : World} {P : Nat → Prop} {g B : Nat} {e : Int} {rest : List UInt8} (h : Is w P g e rest w') (hg : B ≤ g) (hB : B ≤ w.heap.size) : Below B w w' := by
  obtain ⟨A, c, _, h⟩ := h
  exact ⟨h.os, h.tape, h.output, h.size, fun k hk => h.block k (by omega) (fun e => by injection e with e; omega)⟩

end Go.Proofs.YtfljignkjmabpaaGreat

namespace Go.Proofs.YtfljignkjmabpaaGreat
set_option maxRecDepth 100000
set_option linter.unusedSimpArgs false
set_option linter.unusedVariables false
open Go.RowKit

theorem Wr.other {w w' : World} {B g g' : Nat} {e : Int} {A : Option Addr} {c : Nat} {bs : List UInt8} {r r' : Option Nat} (h : Wr w B g e A c bs) (hs : Step g' w r w' r') (h1 : g ≠ g') (h2 : r ≠ some g) (h3 : row A ≠ some g')
    (h4 : ∀ k, row A = some k → r ≠ some k) : Wr w' B g e A c bs :=
  h.keep hs.size (hs.block g h.lt h1 h2) fun k hk => hs.block k (h.rowLt k hk).2 (fun e => h3 (by rw [hk, e])) (h4 k hk)
theorem wNumsA_len (size : Int) (ns : List Int) (s : St) : (wNumsA size ns s).2.length ≤ s.2.length + 8 * ns.length := by
  unfold wNumsA
  split
  · rename_i h
    exact wNums_len _ _ (by simp only [sized, decide_eq_true_eq] at h; omega) s
  · split <;> simp
theorem room_one (l : List UInt8) : room [l] = l.length + 8 := by simp [room]
theorem At.len {w w' : World} {B g : Nat} {A : Option Addr} {e : Int} {bs : List UInt8} (h : At w B g A e bs w') : w.heap.size ≤ w'.heap.size := by
  obtain ⟨_, _, _, h⟩ := h
  exact h.size

end Go.Proofs.YtfljignkjmabpaaGreat

namespace Go.Proofs.YtfljignkjmabpaaGreat
set_option maxRecDepth 100000
set_option linter.unusedSimpArgs false
set_option linter.unusedVariables false
open Go.RowKit

theorem greatest_any (size : Int) (w : World) : Calls Tryz.prog 190 #[.int .i64 size] w fun e w' => e = .returned (.int .i64 (if size = 1 then 255 else if size = 2 then 65535 else if size = 4 then 4294967295 else 0)) ∧ w = w' := by
  by_cases h1 : size = 1
  · subst h1
    go_enter Tryz.func190, Tryz.ntmps190
    go_wp2
    go_ret
    exact ⟨rfl, rfl⟩
  by_cases h2 : size = 2
  · subst h2
    go_enter Tryz.func190, Tryz.ntmps190
    go_wp2
    go_ret
    exact ⟨rfl, rfl⟩
  by_cases h4 : size = 4
  · subst h4
    go_enter Tryz.func190, Tryz.ntmps190
    go_wp2
    go_ret
    exact ⟨rfl, rfl⟩
  have b1 : (size == 1) = false := by simpa using h1
  have b2 : (size == 2) = false := by simpa using h2
  have b4 : (size == 4) = false := by simpa using h4
  rw [if_neg h1, if_neg h2, if_neg h4]
  clear h1 h2 h4
  go_enter Tryz.func190, Tryz.ntmps190
  go_wp2
  go_ret
  exact ⟨rfl, rfl⟩

theorem sizedR_any (size : Int) (w : World) : Calls Tryz.prog 139 #[.int .i64 size] w fun e w' => e = .returned (.bool (sized size)) ∧ w = w' := by
  have C := greatest_any size w
  by_cases h8 : size = 8
  · subst h8
    go_enter Tryz.func139, Tryz.ntmps139
    go_wp2_with fail
    go_ret
    exact ⟨rfl, rfl⟩
  have b8 : (size == 8) = false := by simpa using h8
  have hs : sized size = decide (0 < (if size = 1 then (255 : Int) else if size = 2 then 65535 else if size = 4 then 4294967295 else 0)) := by
    rw [Bool.eq_iff_iff]
    simp only [sized, decide_eq_true_eq]
    split
    · omega
    · split
      · omega
      · split <;> omega
  rw [hs]
  have HC := Lib.hid C
  clear C h8 hs
  generalize (if size = 1 then (255 : Int) else if size = 2 then 65535 else if size = 4 then 4294967295 else 0) = m at *
  go_enter Tryz.func139, Tryz.ntmps139
  go_wp2_with (go_at_call 190; refine HC.out.mono ?_; rintro en w' ⟨rfl, rfl⟩)
  go_ret
  exact ⟨rfl, rfl⟩

/-- The document's reader in memory. -/
structure Rr (w : World) (P : Nat → Prop) (g : Nat) (e : Int) (A : Option Addr) (c : Nat) (rest : List UInt8) : Prop where
  blk : w.heap[g]? = some (.cells #[.slice A rest.length c, .int .i64 e] 118 (0, 0))
  src : Src w P A rest.length c (cells rest)
  ne : ¬ P g
  lim : c ≤ 9223372036854775807
  small : rest.length ≤ 140737488355328
theorem Rr.lt {w : World} {P : Nat → Prop} {g : Nat} {e : Int} {A : Option Addr} {c : Nat} {rest : List UInt8} (h : Rr w P g e A c rest) : g < w.heap.size := by
  rcases Nat.lt_or_ge g w.heap.size with hlt | hge
  · exact hlt
  · have := h.blk; rw [Array.getElem?_eq_none hge] at this; cases this
def IsR (w : World) (P : Nat → Prop) (g : Nat) (e : Int) (rest : List UInt8) (w' : World) : Prop := ∃ A c, Rr w' P g e A c rest ∧ w.grownBy w' (some g)
def ReadR (w : World) (P : Nat → Prop) (g : Nat) (v : Value) (e : Int) (rest : List UInt8) (en : Ending) (w' : World) : Prop := en = .returned v ∧ IsR w P g e rest w'
def TookR (w : World) (P : Nat → Prop) (g : Nat) (t : List UInt8 × St) (en : Ending) (w' : World) : Prop :=
  ∃ A c, en = .returned (.slice A t.1.length c) ∧ Src w' P A t.1.length c (cells t.1) ∧ IsR w P g t.2.1 t.2.2 w'
theorem Rr.set {w : World} {P : Nat → Prop} {g : Nat} {e : Int} {A : Option Addr} {c : Nat} {rest : List UInt8} (h : Rr w P g e A c rest) {A' : Option Addr} {c' : Nat} {rest' : List UInt8} (hs : Src w P A' rest'.length c' (cells rest')) (hl : c' ≤ 9223372036854775807) (hm : rest'.length ≤ 140737488355328) :
    Rr (w.setCell ⟨g, 0, none⟩ (.slice A' rest'.length c')) P g e A' c' rest' := by
  refine ⟨?_, hs.keep fun k hk _ => heap_setCell_other _ _ _ _ (fun e => h.ne (by rw [← show k = g from e]; exact hk)), h.ne, hl, hm⟩
  rw [heap_setCell_same w g 0 _ _ _ h.blk]
  rfl
theorem Rr.fail {w : World} {P : Nat → Prop} {g : Nat} {e : Int} {A : Option Addr} {c : Nat} {rest : List UInt8} (h : Rr w P g e A c rest) (k : Int) : Rr (w.setCell ⟨g, 1, none⟩ (.int .i64 k)) P g k A c rest := by
  refine ⟨?_, h.src.keep fun k hk _ => heap_setCell_other _ _ _ _ (fun e => h.ne (by rw [← show k = g from e]; exact hk)), h.ne, h.lim, h.small⟩
  rw [heap_setCell_same w g 1 _ _ _ h.blk]
  rfl

/-! Num. -/
/-! Raw. -/
end Go.Proofs.YtfljignkjmabpaaGreat

namespace Go.Proofs.YtfljignkjmabpaaGreat
set_option maxRecDepth 100000
set_option linter.unusedSimpArgs false
set_option linter.unusedVariables false
open Go.RowKit

def SaidR (w : World) (P : Nat → Prop) (g : Nat) (t : List UInt8 × St) (en : Ending) (w' : World) : Prop := en = .returned (.string ⟨t.1.toArray⟩) ∧ IsR w P g t.2.1 t.2.2 w'
end Go.Proofs.YtfljignkjmabpaaGreat

namespace Go.Proofs.YtfljignkjmabpaaGreat
set_option maxRecDepth 100000
set_option linter.unusedSimpArgs false
set_option linter.unusedVariables false
open Go.RowKit

abbrev Str := List UInt8
/-- A text. -/
abbrev str (l : Str) : Value := .string ⟨l.toArray⟩
theorem str_of (s : ByteArray) : Value.string s = str s.data.toList := by rw [str]

/-- A byte of a name. -/
def nameC (b : UInt8) : Bool := (decide (97 ≤ b.toNat) && decide (b.toNat ≤ 122)) || (decide (65 ≤ b.toNat) && decide (b.toNat ≤ 90)) || (decide (48 ≤ b.toNat) && decide (b.toNat ≤ 57)) || b.toNat == 95 || b.toNat == 46
def nameB (l : Str) : Bool := !l.isEmpty && decide (l.length ≤ 64) && l.all nameC

theorem ret_bool {x y : Bool} (h : (x = true) ↔ (y = true)) : Ending.returned (Value.bool x) = Ending.returned (Value.bool y) := by
  rw [Bool.eq_iff_iff.2 h]
theorem isNameByte_any (b : UInt8) (w : World) : Calls Tryz.prog 162 #[.int .u8 b.toNat] w fun e w' => e = .returned (.bool (nameC b)) ∧ w = w' := by
  have hb := b.toNat_lt
  go_enter Tryz.func162, Tryz.ntmps162
  go_wp2
  all_goals
    go_ret
    refine ⟨ret_bool ?_, rfl⟩
    simp only [nameC, Bool.or_eq_true, Bool.and_eq_true, decide_eq_true_eq, beq_iff_eq, true_iff]
    omega

/-- The characters ahead of a place. -/
theorem all_take {l : Str} {k : Nat} (hk : k < l.length) (h : (l.take k).all nameC = true) : (l.take (k + 1)).all nameC = nameC l[k] := by
  rw [List.take_succ_eq_append_getElem hk, List.all_append, h]
  simp
theorem all_no {l : Str} {k : Nat} (hk : k < l.length) (h : nameC l[k] = false) : l.all nameC = false := by
  rw [List.all_eq_false]
  exact ⟨l[k], List.getElem_mem hk, by simp [h]⟩
theorem nameB_no {l : Str} (h : l.all nameC = false) : nameB l = false := by simp [nameB, h]
theorem nameB_yes {l : Str} (h0 : l ≠ []) (h1 : l.length ≤ 64) (h : l.all nameC = true) : nameB l = true := by simp [nameB, h, h0, h1]

set_option maxHeartbeats 1000000 in
theorem name_any (l : Str) (w : World) :
    Calls Tryz.prog 99 #[str l] w fun e w' => e = .returned (.bool (nameB l)) ∧ w = w' := by
  by_cases h0 : l = []
  · subst h0
    go_enter Tryz.func99, Tryz.ntmps99
    go_wp2_with fail
    go_ret
    exact ⟨rfl, rfl⟩
  have he : l.isEmpty = false := by simpa using h0
  by_cases h1 : l.length ≤ 64
  · have H0 := Lib.hid h0
    have h2 : (l.length : Int) ≤ 64 := by omega
    go_enter Tryz.func99, Tryz.ntmps99
    go_wp2_with fail
    go_loop [13] (fun i => ∃ k : Nat, k ≤ l.length ∧ i = .int .i64 k ∧ (l.take k).all nameC = true) (fun i => l.length - (intOf i).toNat)
    case atStart => exact ⟨0, Nat.zero_le _, rfl, rfl⟩
    case round =>
      obtain ⟨k, hk, rfl, hal⟩ := hrel
      have HAL := Lib.hid hal
      clear hal
      by_cases hkl : k < l.length
      · have HT := Lib.hid (all_take hkl HAL.out)
        have HC := Lib.hid (fun v => isNameByte_any l[k] v)
        have HN := Lib.hid (fun h => nameB_no (all_no hkl h))
        cases hv : nameC l[k]
        · have HF := Lib.hid (HN.out hv)
          rw [hv] at HC
          clear hv
          go_wp2_with fail
          refine (HC.out _).mono ?_
          rintro e w' ⟨rfl, rfl⟩
          go_wp2_with fail
          go_ret
          exact ⟨ret_bool (by rw [HF.out]), rfl⟩
        · rw [hv] at HT HC
          clear hv
          go_wp2_with fail
          refine (HC.out _).mono ?_
          rintro e w' ⟨rfl, rfl⟩
          go_wp2_with fail
          go_round
          case rel => exact ⟨k + 1, by omega, by go_num, HT.out⟩
          case measure => simp [intOf]; omega
      · have hk' : k = l.length := by omega
        subst hk'
        have HB := Lib.hid (nameB_yes H0.out h1 (by have h := HAL.out; rwa [List.take_length] at h))
        go_wp2_with fail
        go_ret
        exact ⟨ret_bool (by rw [HB.out]), rfl⟩
  · have h2 : 64 < (l.length : Int) := by omega
    have H1 := Lib.hid h1
    clear h1 h0
    go_enter Tryz.func99, Tryz.ntmps99
    go_wp2_with fail
    go_ret
    exact ⟨ret_bool (by simp [nameB, H1.out]), rfl⟩

end Go.Proofs.YtfljignkjmabpaaGreat
