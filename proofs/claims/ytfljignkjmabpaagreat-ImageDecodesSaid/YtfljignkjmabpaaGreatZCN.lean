/- A part of the proof. -/
import Derived.Test.YtfljignkjmabpaaGreatZFF
import Derived.Laws.BytesArg
import Derived.Laws.IdiomStrings
import Derived.Test.YtfljignkjmabpaaGreatZYA
import Derived.Deep.RegionHeld3
import Derived.ArgAppend
set_option linter.unusedSimpArgs false
set_option linter.unusedVariables false
namespace Go.Proofs.YtfljignkjmabpaaGreat
set_option maxRecDepth 100000
open Go.RowKit
def valN : List UInt8 → Nat
 | [] => 0
 | b :: l => b.toNat + 256 * valN l
def val (l : List UInt8) : Int := wrap64 (valN l)
theorem valN_lt (l : List UInt8) : valN l < 256 ^ l.length := by
 induction l with
 | nil => simp [valN]
 | cons b l ih =>
  have := b.toNat_lt
  simp only [valN, List.length_cons, Nat.pow_succ]
  omega
theorem valN_snoc (l : List UInt8) (b : UInt8) : valN (l ++ [b]) = valN l + b.toNat * 256 ^ l.length := by
 induction l with
 | nil => simp [valN]
 | cons a l ih =>
  simp only [List.cons_append, valN, ih, List.length_cons, Nat.pow_succ]
  rw [Nat.mul_add, Nat.add_assoc]
  congr 1
  congr 1
  rw [Nat.mul_comm (256 ^ l.length) 256, ← Nat.mul_assoc, ← Nat.mul_assoc, Nat.mul_comm b.toNat 256]
theorem wrap_i64 (n : Int) : IntKind.i64.wrap n = wrap64 n := by
 unfold wrap64
 simp [IntKind.wrap, IntKind.bits, IntKind.signed]
 by_cases h : 9223372036854775808 ≤ n % 18446744073709551616
 ·
  rw [if_pos h]; omega
 ·
  rw [if_neg h]; omega
theorem ofInt_wrap (x : Int) : BitVec.ofInt 64 (wrap64 x) = BitVec.ofInt 64 x := by
 apply BitVec.eq_of_toInt_eq
 rw [BitVec.toInt_ofInt, BitVec.toInt_ofInt]
 unfold wrap64 Int.bmod
 simp
theorem or_byte (a c k : Nat) (hk : k ≤ 7) (ha : a < 256 ^ k) (hc : c < 256) : bits .or .i64 (wrap64 a) (wrap64 (wrap64 (c : Int) * 2 ^ (8 * k))) = wrap64 ((a + c * 256 ^ k : Nat) : Int) := by
 have hcw : wrap64 (c : Int) = c := by unfold wrap64; omega
 have hp : (2 : Nat) ^ (8 * k) = 256 ^ k := by rw [Nat.pow_mul]
 have h7 : 256 ^ k ≤ 256 ^ 7 := Nat.pow_le_pow_right (by omega) hk
 have e7 : (256 : Nat) ^ 7 = 72057594037927936 := by decide
 have hb : c * 256 ^ k < 18446744073709551616 := by
  have : c * 256 ^ k ≤ 255 * 256 ^ 7 := Nat.mul_le_mul (by omega) h7
  omega
 have hcast : ((c : Int) * 2 ^ (8 * k)) = ((c * 256 ^ k : Nat) : Int) := by
  rw [← hp]; simp
 rw [hcw, hcast]
 have key : ∀ x y : Int, bits .or .i64 x y = IntKind.i64.wrap (((BitVec.ofInt 64 x) ||| (BitVec.ofInt 64 y)).toNat : Int) := fun _ _ => rfl
 rw [key, ofInt_wrap, ofInt_wrap, wrap_i64, BitVec.ofInt_natCast, BitVec.ofInt_natCast, BitVec.toNat_or, BitVec.toNat_ofNat, BitVec.toNat_ofNat, Nat.mod_eq_of_lt (by omega), Nat.mod_eq_of_lt (by omega)]
 have hor : a ||| c * 256 ^ k = a + c * 256 ^ k := by
  rw [← hp, Nat.mul_comm c, Nat.or_comm, ← Nat.two_pow_add_eq_or_of_lt (by rw [hp]; exact ha), Nat.add_comm]
 rw [hor]
set_option maxHeartbeats 400000 in
theorem number_val (P : Nat → Prop) (A : Option Addr) (n c : Nat) (l : List UInt8) (w : World) (h : Src w P A n c (cells l)) (hn : n ≤ 8) :
  Calls Tryz.prog 128 #[.slice A n c] w fun e w' => e = .returned (.int .i64 (val l)) ∧ w = w' := by
 have hl : l.length = n := by have := h.len; simpa [cells_len] using this
 have HL := hD hl
 have HX := hD h
 clear h hl
 go_enter Tryz.func128, Tryz.ntmps128
 go_wp2_with fail
 go_loop [3, 4, 5, 8] (fun m _ _ i => ∃ k : Nat, k ≤ n ∧ i = .int .i64 k ∧ m = .int .i64 (val (l.take k))) (fun _ _ _ i => n - (intOf i).toNat)
 case atStart => exact ⟨0, Nat.zero_le _, rfl, by simp [val, valN, wrap64]⟩
 case round =>
  obtain ⟨k, hk, rfl, rfl⟩ := hrel
  by_cases hlt : k < n
  ·
   have hkl : k < l.length := by rw [HL.out]; exact hlt
   obtain ⟨ad, rfl⟩ : ∃ ad, A = some ad := by
    cases A with
    | none => have := (HX.out.nil rfl).1; omega
    | some ad => exact ⟨ad, rfl⟩
   have hcell : w.cell? (ad.add k) = some (.int .u8 (l[k].toNat : Int)) := HX.out.at_ ad rfl k _ (by simp [cells, u8, List.getElem?_eq_getElem hkl])
   have hcap := HX.out.cap
   have hs : bits .or .i64 (val (l.take k)) (wrap64 (wrap64 (l[k].toNat : Int) * 2 ^ (8 * k))) = val (l.take (k + 1)) := by
    have e : l.take (k + 1) = l.take k ++ [l[k]] := List.take_succ_eq_append_getElem hkl
    have hlen : (l.take k).length = k := by rw [List.length_take]; omega
    have hlt' := valN_lt (l.take k)
    rw [hlen] at hlt'
    unfold val
    rw [or_byte _ _ k (by omega) hlt' l[k].toNat_lt, e, valN_snoc, hlen]
   have HS := hD hs
   clear hs
   go_wp2
   go_round
   case rel => exact ⟨k + 1, by omega, by go_num, by rw [HS.out]⟩
   case measure => simp [intOf]; omega
  ·
   obtain rfl : k = n := by omega
   go_wp2
   go_ret
   have : l.take k = l := List.take_of_length_le (by rw [HL.out]; exact Nat.le_refl _)
   rw [this]
   exact ⟨rfl, rfl⟩
structure Rd (w : World) (P : Nat → Prop) (g : Nat) (e : Int) (A : Option Addr) (c : Nat) (rest : List UInt8) : Prop where
 blk : w.heap[g]? = some (.cells #[.int .i64 e, .slice A rest.length c] 91 (0, 0))
 src : Src w P A rest.length c (cells rest)
 ne : ¬ P g
 lim : c ≤ 9223372036854775807
 small : rest.length ≤ 140737488355328
theorem Rd.lt {w : World} {P : Nat → Prop} {g : Nat} {e : Int} {A : Option Addr} {c : Nat} {rest : List UInt8} (h : Rd w P g e A c rest) : g < w.heap.size := by
 rcases Nat.lt_or_ge g w.heap.size with hlt | hge
 ·
  exact hlt
 ·
  have := h.blk; rw [Array.getElem?_eq_none hge] at this; cases this
theorem Rd.below {w w' : World} {P : Nat → Prop} {g : Nat} {e : Int} {A : Option Addr} {c : Nat} {rest : List UInt8} (h : Rd w P g e A c rest) (hb : Below w.heap.size w w') : Rd w' P g e A c rest :=
 ⟨(hb.block g h.lt).trans h.blk, h.src.keep fun k _ hk => hb.block k hk, h.ne, h.lim, h.small⟩
def Is (w : World) (P : Nat → Prop) (g : Nat) (e : Int) (rest : List UInt8) (w' : World) : Prop := ∃ A c, Rd w' P g e A c rest ∧ w.grownBy w' (some g)
def Took (w : World) (P : Nat → Prop) (g : Nat) (out : List UInt8) (e : Int) (rest : List UInt8) (en : Ending) (w' : World) : Prop :=
 ∃ A c, en = .returned (.slice A out.length c) ∧ Src w' P A out.length c (cells out) ∧ Is w P g e rest w'
theorem src_nil (w : World) (P : Nat → Prop) : Src w P none 0 0 (cells []) := ⟨rfl, fun _ => ⟨rfl, rfl⟩, Nat.le_refl _, (by intro ad h; cases h), (by intro ad h; cases h)⟩
theorem Rd.set {w : World} {P : Nat → Prop} {g : Nat} {e : Int} {A : Option Addr} {c : Nat} {rest : List UInt8} (h : Rd w P g e A c rest) {A' : Option Addr} {c' : Nat} {rest' : List UInt8} (hs : Src w P A' rest'.length c' (cells rest')) (hl : c' ≤ 9223372036854775807) (hm : rest'.length ≤ 140737488355328) :
  Rd (w.setCell ⟨g, 1, none⟩ (.slice A' rest'.length c')) P g e A' c' rest' := by
 refine ⟨?_, hs.keep fun k hk _ => heap_setCell_other _ _ _ _ (fun e => h.ne (by rw [← show k = g from e]; exact hk)), h.ne, hl, hm⟩
 rw [heap_setCell_same w g 1 _ _ _ h.blk]
 rfl
theorem Rd.fail {w : World} {P : Nat → Prop} {g : Nat} {e : Int} {A : Option Addr} {c : Nat} {rest : List UInt8} (h : Rd w P g e A c rest) (k : Int) : Rd (w.setCell ⟨g, 0, none⟩ (.int .i64 k)) P g k A c rest := by
 refine ⟨?_, h.src.keep fun k hk _ => heap_setCell_other _ _ _ _ (fun e => h.ne (by rw [← show k = g from e]; exact hk)), h.ne, h.lim, h.small⟩
 rw [heap_setCell_same w g 0 _ _ _ h.blk]
 rfl
theorem grown_set (w : World) (g i : Nat) (u : Value) : w.grownBy (w.setCell ⟨g, i, none⟩ u) (some g) :=
 ⟨rfl, rfl, rfl, by simp [World.setCell], fun k _ hne => heap_setCell_other _ _ _ _ (fun e => hne (by rw [show k = g from e]))⟩
theorem Src.front {w : World} {P : Nat → Prop} {A : Option Addr} {n c : Nat} {l : List UInt8} (h : Src w P A n c (cells l)) (k : Nat) (hk : k ≤ n) : Src w P A (l.take k).length c (cells (l.take k)) := by
 have hl : l.length = n := by have := h.len; simpa [cells_len] using this
 have hk' : (l.take k).length = k := by rw [List.length_take]; omega
 rw [hk']
 have hc := h.cap
 refine ⟨by rw [cells_len]; exact hk', fun hA => ?_, by omega, fun ad hA h0 => h.blk ad hA (by omega), fun ad hA j u hu => h.at_ ad hA j u ?_⟩
 ·
  have := h.nil hA; omega
 ·
  rw [← hu]
  have hj : j < k := by have := (List.getElem?_eq_some_iff.1 hu).1; rw [cells_len, hk'] at this; exact this
  simp [cells, hj]
theorem Src.rest {w : World} {P : Nat → Prop} {A : Option Addr} {n c : Nat} {l : List UInt8} (h : Src w P A n c (cells l)) (k : Nat) (hk : k ≤ n) : Src w P (A.map (·.add k)) (l.drop k).length (c - k) (cells (l.drop k)) := by
 have hl : l.length = n := by have := h.len; simpa [cells_len] using this
 have hk' : (l.drop k).length = n - k := by rw [List.length_drop]; omega
 rw [hk']
 have hc := h.cap
 refine ⟨by rw [cells_len]; exact hk', fun hA => ?_, by omega, fun ad hA h0 => ?_, fun ad hA j u hu => ?_⟩
 ·
  have := h.nil (by cases A with | none => rfl | some a => cases hA); omega
 ·
  cases A with
  | none => cases hA
  | some a => cases hA; rw [addBlock]; exact h.blk a rfl (by omega)
 ·
  cases A with
  | none => cases hA
  | some a =>
   cases hA
   rw [addAdd]
   refine h.at_ a rfl _ u ?_
   rw [← hu]
   simp [cells, List.getElem?_drop]
theorem Src.last {w : World} {P : Nat → Prop} {A : Option Addr} {n : Nat} {l : List UInt8} (h : Src w P A l.length n (cells l)) : Src w P A (l.drop n).length 0 (cells (l.drop n)) := by
 have he : l.drop n = [] := List.drop_eq_nil_of_le (by have := h.cap; omega)
 rw [he]
 exact ⟨rfl, fun _ => ⟨rfl, rfl⟩, Nat.le_refl _, (by intro ad _ h0; exact absurd h0 (by simp)), (by intro ad _ j u hu; simp [cells] at hu)⟩
def rTake (n : Nat) (s : St) : List UInt8 × St := if s.1 = 0 then (if n ≤ s.2.length then (s.2.take n, (0, s.2.drop n)) else ([], (11, s.2))) else ([], s)
set_option maxHeartbeats 400000 in
theorem take_err (P : Nat → Prop) (g : Nat) (e : Int) (A : Option Addr) (c : Nat) (rest : List UInt8) (n : Nat) (w : World) (h : Rd w P g e A c rest) (he : e ≠ 0) :
  Calls Tryz.prog 129 #[.pointer (some ⟨g, 0, none⟩), .int .i64 n] w (Took w P g [] e rest) := by
 have hc1 : w.cell? ⟨g, 1, none⟩ = some (.slice A rest.length c) := cell_of_row w g 1 _ _ _ h.blk
 have he' : (e != 0) = true := by simpa using he
 have H := hD h
 have HE := hD he
 clear h he
 by_cases hlt : rest.length < n
 ·
  go_enter Tryz.func129, Tryz.ntmps129
  go_wp2_with (first
   | (go_at_call 127; refine (fail_again g _ _ e 11 _ H.out.blk rfl HE.out).mono ?_; rintro e w' ⟨rfl, rfl⟩)
   | (go_at_call 54; refine (failed_any g _ _ e _ H.out.blk rfl).mono ?_; rw [he']; rintro e w' ⟨rfl, rfl⟩))
  go_ret
  exact ⟨none, 0, rfl, src_nil _ _, A, c, H.out, World.grownBy.refl _ _⟩
 ·
  go_enter Tryz.func129, Tryz.ntmps129
  go_wp2_with (first
   | (go_at_call 54; refine (failed_any g _ _ e _ H.out.blk rfl).mono ?_; rw [he']; rintro e w' ⟨rfl, rfl⟩))
  go_ret
  exact ⟨none, 0, rfl, src_nil _ _, A, c, H.out, World.grownBy.refl _ _⟩
set_option maxHeartbeats 400000 in
theorem take_short (P : Nat → Prop) (g : Nat) (A : Option Addr) (c : Nat) (rest : List UInt8) (n : Nat) (w : World) (h : Rd w P g 0 A c rest) (hlt : rest.length < n) :
  Calls Tryz.prog 129 #[.pointer (some ⟨g, 0, none⟩), .int .i64 n] w (Took w P g [] 11 rest) := by
 have hc1 : w.cell? ⟨g, 1, none⟩ = some (.slice A rest.length c) := cell_of_row w g 1 _ _ _ h.blk
 have H := hD h
 clear h
 go_enter Tryz.func129, Tryz.ntmps129
 go_wp2_with (first
  | (go_at_call 127; refine (fail_first g _ _ 11 _ H.out.blk rfl).mono ?_; rintro e w' ⟨rfl, rfl⟩)
  | (go_at_call 54; refine (failed_any g _ _ 11 _ (H.out.fail 11).blk rfl).mono ?_; rintro e w' ⟨rfl, rfl⟩))
 go_ret
 exact ⟨none, 0, rfl, src_nil _ _, A, c, H.out.fail 11, grown_set _ _ _ _⟩
set_option maxHeartbeats 400000 in
theorem take_ok (P : Nat → Prop) (g : Nat) (A : Option Addr) (c : Nat) (rest : List UInt8) (n : Nat) (w : World) (h : Rd w P g 0 A c rest) (hle : n ≤ rest.length) :
  Calls Tryz.prog 129 #[.pointer (some ⟨g, 0, none⟩), .int .i64 n] w (Took w P g (rest.take n) 0 (rest.drop n)) := by
 have hc1 : w.cell? ⟨g, 1, none⟩ = some (.slice A rest.length c) := cell_of_row w g 1 _ _ _ h.blk
 have hf1 : w.frozen? ⟨g, 1, none⟩ = false := frozen_of_row w g 1 _ _ h.blk
 have hcap := h.src.cap
 have hlim := h.lim
 have H := hD h
 clear h
 go_enter Tryz.func129, Tryz.ntmps129
 go_wp2_with (first
  | (go_at_call 54; refine (failed_any g _ _ 0 _ H.out.blk rfl).mono ?_; rintro e w' ⟨rfl, rfl⟩))
 all_goals
  have h := H.out
  have hd : (rest.drop n).length = rest.length - n := List.length_drop
  have ht : (rest.take n).length = n := by rw [List.length_take]; omega
 ·
  rename_i hcn
  subst hcn
  go_ret
  have hs := h.src.last
  have hr := h.set hs (Nat.zero_le _) (by rw [hd]; have := h.small; omega)
  rw [hd] at hr
  exact ⟨A, c, by rw [ht]; rfl, h.src.front c hle |>.keep fun k hk _ => heap_setCell_other _ _ _ _ (fun e => h.ne (by rw [← show k = g from e]; exact hk)), A, 0, hr, grown_set _ _ _ _⟩
 ·
  go_ret
  have hs := h.src.rest n hle
  have hr := h.set hs (by omega) (by rw [hd]; have := h.small; omega)
  rw [hd] at hr
  exact ⟨A, c, by rw [ht]; rfl, h.src.front n hle |>.keep fun k hk _ => heap_setCell_other _ _ _ _ (fun e => h.ne (by rw [← show k = g from e]; exact hk)), _, c - n, hr, grown_set _ _ _ _⟩
theorem take_any (P : Nat → Prop) (g : Nat) (s : St) (A : Option Addr) (c : Nat) (n : Nat) (w : World) (h : Rd w P g s.1 A c s.2) :
  Calls Tryz.prog 129 #[.pointer (some ⟨g, 0, none⟩), .int .i64 n] w (Took w P g (rTake n s).1 (rTake n s).2.1 (rTake n s).2.2) := by
 obtain ⟨e, rest⟩ := s
 by_cases he : e = 0
 ·
  subst he
  by_cases hle : n ≤ rest.length
  ·
   have : rTake n ((0, rest) : St) = (rest.take n, (0, rest.drop n)) := by simp [rTake, hle]
   rw [this]
   exact take_ok P g A c rest n w h hle
  ·
   have : rTake n ((0, rest) : St) = ([], (11, rest)) := by simp [rTake, hle]
   rw [this]
   exact take_short P g A c rest n w h (by omega)
 ·
  have : rTake n ((e, rest) : St) = ([], (e, rest)) := by simp [rTake, he]
  rw [this]
  exact take_err P g e A c rest n w h he
def rNum (size : Int) (s : St) : Int × St := if sized size = true then (let t := rTake size.toNat s; (val t.1, t.2)) else (0, if s.1 = 0 then (1, s.2) else s)
def Read (w : World) (P : Nat → Prop) (g : Nat) (v : Value) (e : Int) (rest : List UInt8) (en : Ending) (w' : World) : Prop := en = .returned v ∧ Is w P g e rest w'
theorem rTake_len (n : Nat) (s : St) : (rTake n s).1.length ≤ n := by
 unfold rTake
 split
 ·
  split
  ·
   simp; omega
  ·
   simp
 ·
  simp
set_option maxHeartbeats 400000 in
theorem rnum_ok (P : Nat → Prop) (g : Nat) (s : St) (A : Option Addr) (c : Nat) (size : Nat) (w : World) (h : Rd w P g s.1 A c s.2) (hs : sized size = true) :
  Calls Tryz.prog 39 #[.pointer (some ⟨g, 0, none⟩), .int .i64 size] w (Read w P g (.int .i64 (val (rTake size s).1)) (rTake size s).2.1 (rTake size s).2.2) := by
 have h8 : size ≤ 8 := by simp only [sized, decide_eq_true_eq] at hs; omega
 have hl := rTake_len size s
 have C := hD (take_any P g s A c size w h)
 have HS := hD hs
 clear h hs
 go_enter Tryz.func39, Tryz.ntmps39
 go_wp2_with (first
  | (go_at_call 126; refine (isSize_any size _).mono ?_; rw [HS.out]; rintro e w' ⟨rfl, rfl⟩)
  | (go_at_call 129; refine C.out.mono ?_; rintro e w1 ⟨A1, c1, rfl, hsrc, his⟩; have HQ := hD hsrc; have HI := hD his; clear hsrc his)
  | (go_at_call 128; refine (number_val _ A1 _ c1 _ _ HQ.out (by omega)).mono ?_; rintro e w' ⟨rfl, rfl⟩))
 go_ret
 exact ⟨rfl, HI.out⟩
set_option maxHeartbeats 400000 in
theorem rnum_bad (P : Nat → Prop) (g : Nat) (s : St) (A : Option Addr) (c : Nat) (size : Int) (w : World) (h : Rd w P g s.1 A c s.2) (hs : sized size = false) :
  Calls Tryz.prog 39 #[.pointer (some ⟨g, 0, none⟩), .int .i64 size] w (Read w P g (.int .i64 0) (if s.1 = 0 then ((1, s.2) : St) else s).1 (if s.1 = 0 then ((1, s.2) : St) else s).2) := by
 obtain ⟨e, bs⟩ := s
 by_cases he : e = 0
 ·
  subst he
  show Calls _ _ _ w (Read w P g _ (1 : Int) bs)
  have H := hD h
  have HS := hD hs
  clear h hs
  go_enter Tryz.func39, Tryz.ntmps39
  go_wp2_with (first
   | (go_at_call 126; refine (isSize_any size _).mono ?_; rw [HS.out]; rintro e w' ⟨rfl, rfl⟩)
   | (go_at_call 127; refine (fail_first g _ _ 1 _ H.out.blk rfl).mono ?_; rintro e w' ⟨rfl, rfl⟩))
  go_ret
  exact ⟨rfl, A, c, H.out.fail 1, grown_set _ _ _ _⟩
 ·
  have hfin : (if ((e, bs) : St).1 = 0 then ((1, bs) : St) else (e, bs)) = (e, bs) := if_neg he
  rw [hfin]
  have H := hD h
  have HS := hD hs
  have HE := hD he
  clear h hs hfin he
  go_enter Tryz.func39, Tryz.ntmps39
  go_wp2_with (first
   | (go_at_call 126; refine (isSize_any size _).mono ?_; rw [HS.out]; rintro e w' ⟨rfl, rfl⟩)
   | (go_at_call 127; refine (fail_again g _ _ e 1 _ H.out.blk rfl HE.out).mono ?_; rintro e w' ⟨rfl, rfl⟩))
  go_ret
  exact ⟨rfl, A, c, H.out, World.grownBy.refl _ _⟩
theorem rnum_any (P : Nat → Prop) (g : Nat) (s : St) (A : Option Addr) (c : Nat) (size : Int) (w : World) (h : Rd w P g s.1 A c s.2) :
  Calls Tryz.prog 39 #[.pointer (some ⟨g, 0, none⟩), .int .i64 size] w (Read w P g (.int .i64 (rNum size s).1) (rNum size s).2.1 (rNum size s).2.2) := by
 by_cases hs : sized size = true
 ·
  obtain ⟨k, rfl⟩ : ∃ k : Nat, size = k := ⟨size.toNat, by simp only [sized, decide_eq_true_eq] at hs; omega⟩
  have := rnum_ok P g s A c k w h hs
  simpa only [rNum, hs, if_true, Int.toNat_natCast] using this
 ·
  have := rnum_bad P g s A c size w h (by simpa using hs)
  simpa only [rNum, if_neg hs] using this
def rMeas (size most : Nat) (s : St) : List UInt8 × St :=
 if s.1 = 0 then
  (if s.2.length < size then ([], (11, s.2)) else
   if most < valN (s.2.take size) then ([], (2, s.2)) else
    if s.2.length - size < valN (s.2.take size) then ([], (11, s.2)) else
     ((s.2.drop size).take (valN (s.2.take size)), (0, (s.2.drop size).drop (valN (s.2.take size)))))
 else ([], s)
theorem val_small (l : List UInt8) (h : l.length ≤ 4) : val l = (valN l : Int) := by
 have h1 := valN_lt l
 have h2 : 256 ^ l.length ≤ 256 ^ 4 := Nat.pow_le_pow_right (by omega) h
 have h3 : (256 : Nat) ^ 4 = 4294967296 := by decide
 unfold val
 exact IntWalk.wrap64_in _ (by omega)
def Piece (w : World) (P : Nat → Prop) (g : Nat) (t : List UInt8 × St) (en : Ending) (w' : World) : Prop := Took w P g t.1 t.2.1 t.2.2 en w'
set_option maxHeartbeats 400000 in
theorem rmeas_in (P : Nat → Prop) (g : Nat) (A : Option Addr) (c : Nat) (rest l rest1 : List UInt8) (size most N : Nat) (t : List UInt8 × St) (w : World) (h : Rd w P g 0 A c rest)
  (hN : val l = (N : Int)) (hl : l.length ≤ 8) (hle : N ≤ most)
  (C : Calls Tryz.prog 129 #[.pointer (some ⟨g, 0, none⟩), .int .i64 size] w (Took w P g l 0 rest1)) (hN1 : N ≤ rest1.length) (ht : t = (rest1.take N, (0, rest1.drop N))) :
  Calls Tryz.prog 125 #[.pointer (some ⟨g, 0, none⟩), .int .i64 size, .int .i64 most] w (Piece w P g t) := by
 have hc1 : w.cell? ⟨g, 1, none⟩ = some (.slice A rest.length c) := cell_of_row w g 1 _ _ _ h.blk
 have HN := hD hN
 have HT := hD ht
 have CC := hD C
 clear h hN ht C
 go_enter Tryz.func125, Tryz.ntmps125
 go_wp2_with fail
 refine CC.out.mono ?_
 rintro e w1 ⟨A1, c1, rfl, hsrc, A2, c2, hrd, hgr⟩
 have HQ := hD hsrc
 have HG := hD hgr
 have C2 := hD (take_ok P g A2 c2 rest1 N w1 hrd hN1)
 clear hsrc hrd hgr
 go_wp2_with fail
 refine (number_val _ A1 _ c1 _ _ HQ.out hl).mono ?_
 rw [HN.out]
 rintro e w' ⟨rfl, rfl⟩
 go_wp2_with fail
 refine C2.out.mono ?_
 rintro e w2 ⟨A3, c3, rfl, hsrc, A4, c4, hrd, hgr⟩
 have HQ2 := hD hsrc
 have HR2 := hD hrd
 have HG2 := hD hgr
 clear hsrc hrd hgr
 go_wp2_with (go_at_call 54; refine (failed_any g _ _ 0 _ HR2.out.blk rfl).mono ?_; rintro e w' ⟨rfl, rfl⟩)
 go_ret
 rw [HT.out]
 exact ⟨A3, c3, by simp; omega, HQ2.out, A4, c4, HR2.out, HG.out.trans HG2.out⟩
theorem src_grown {w w' : World} {P : Nat → Prop} {g : Nat} {A : Option Addr} {n c : Nat} {xs : List Value} (h : Src w P A n c xs) (hg : ¬ P g) (hb : w.grownBy w' (some g)) : Src w' P A n c xs :=
 h.keep fun k hk hl => hb.block k hl (fun e => hg (by injection e with e; rw [← e]; exact hk))
set_option maxHeartbeats 400000 in
theorem rmeas_out (P : Nat → Prop) (g : Nat) (e0 e : Int) (A : Option Addr) (c : Nat) (rest rest1 : List UInt8) (size most : Nat) (w : World) (h : Rd w P g e0 A c rest)
  (C : Calls Tryz.prog 129 #[.pointer (some ⟨g, 0, none⟩), .int .i64 size] w (Took w P g [] e rest1)) (he : e ≠ 0) :
  Calls Tryz.prog 125 #[.pointer (some ⟨g, 0, none⟩), .int .i64 size, .int .i64 most] w (Piece w P g ([], (e, rest))) := by
 have hc1 : w.cell? ⟨g, 1, none⟩ = some (.slice A rest.length c) := cell_of_row w g 1 _ _ _ h.blk
 have he' : (e != 0) = true := by simpa using he
 have hv0 : val [] = 0 := by simp [val, valN, wrap64]
 have HV := hD hv0
 have HE := hD he
 have HH := hD h
 have CC := hD C
 clear h C he hv0
 go_enter Tryz.func125, Tryz.ntmps125
 go_wp2_with fail
 refine CC.out.mono ?_
 rintro en w1 ⟨A1, c1, rfl, hsrc, A2, c2, hrd, hgr⟩
 have HQ := hD hsrc
 have HG := hD hgr
 have C2 := hD (take_err P g e A2 c2 rest1 0 w1 hrd HE.out)
 clear hsrc hrd hgr
 go_wp2_with fail
 refine (number_val _ A1 _ c1 [] _ HQ.out (Nat.zero_le _)).mono ?_
 rw [HV.out]
 rintro en w' ⟨rfl, rfl⟩
 go_wp2_with fail
 refine C2.out.mono ?_
 rintro en w2 ⟨A3, c3, rfl, hsrc, A4, c4, hrd, hgr⟩
 have HR2 := hD hrd
 have HG2 := hD hgr
 have HQ2 := hD hsrc
 have hf1 : w2.frozen? ⟨g, 1, none⟩ = false := frozen_of_row w2 g 1 _ _ hrd.blk
 have hc2 : w2.cell? ⟨g, 1, none⟩ = some (.slice A4 rest1.length c4) := cell_of_row w2 g 1 _ _ _ hrd.blk
 clear hsrc hrd hgr
 go_wp2_with (go_at_call 54; refine (failed_any g _ _ e _ HR2.out.blk rfl).mono ?_; rw [he']; rintro en w' ⟨rfl, rfl⟩)
 go_ret
 have hG := HG.out.trans HG2.out
 have hs := src_grown HH.out.src HH.out.ne hG
 refine ⟨A3, c3, rfl, HQ2.out.keep fun k hk _ => heap_setCell_other _ _ _ _ (fun e => HH.out.ne (by rw [← show k = g from e]; exact hk)), A, c, HR2.out.set hs HH.out.lim HH.out.small, hG.trans (grown_set _ _ _ _)⟩
set_option maxHeartbeats 400000 in
theorem rmeas_long (P : Nat → Prop) (g : Nat) (A : Option Addr) (c : Nat) (rest l rest1 : List UInt8) (size most N : Nat) (w : World) (h : Rd w P g 0 A c rest)
  (hN : val l = (N : Int)) (hl : l.length ≤ 8) (hle : most < N)
  (C : Calls Tryz.prog 129 #[.pointer (some ⟨g, 0, none⟩), .int .i64 size] w (Took w P g l 0 rest1)) :
  Calls Tryz.prog 125 #[.pointer (some ⟨g, 0, none⟩), .int .i64 size, .int .i64 most] w (Piece w P g ([], (2, rest))) := by
 have hc1 : w.cell? ⟨g, 1, none⟩ = some (.slice A rest.length c) := cell_of_row w g 1 _ _ _ h.blk
 have HN := hD hN
 have HH := hD h
 have CC := hD C
 clear h hN C
 go_enter Tryz.func125, Tryz.ntmps125
 go_wp2_with fail
 refine CC.out.mono ?_
 rintro en w1 ⟨A1, c1, rfl, hsrc, A2, c2, hrd, hgr⟩
 have HQ := hD hsrc
 have HG := hD hgr
 have HR := hD hrd
 have C2 := hD (take_err P g 2 A2 c2 rest1 N _ (hrd.fail 2) (by decide))
 clear hsrc hrd hgr
 go_wp2_with fail
 refine (number_val _ A1 _ c1 _ _ HQ.out hl).mono ?_
 rw [HN.out]
 rintro en w' ⟨rfl, rfl⟩
 go_wp2_with fail
 refine (fail_first g _ _ 2 _ HR.out.blk rfl).mono ?_
 rintro en w' ⟨rfl, rfl⟩
 go_wp2_with fail
 refine C2.out.mono ?_
 rintro en w2 ⟨A3, c3, rfl, hsrc, A4, c4, hrd, hgr⟩
 have HR2 := hD hrd
 have HG2 := hD hgr
 have HQ2 := hD hsrc
 have hf1 : w2.frozen? ⟨g, 1, none⟩ = false := frozen_of_row w2 g 1 _ _ hrd.blk
 have hc2 : w2.cell? ⟨g, 1, none⟩ = some (.slice A4 rest1.length c4) := cell_of_row w2 g 1 _ _ _ hrd.blk
 clear hsrc hrd hgr
 go_wp2_with (go_at_call 54; refine (failed_any g _ _ 2 _ HR2.out.blk rfl).mono ?_; rintro en w' ⟨rfl, rfl⟩)
 go_ret
 have hG := (HG.out.trans (grown_set _ _ _ _)).trans HG2.out
 have hs := src_grown HH.out.src HH.out.ne hG
 refine ⟨A3, c3, rfl, HQ2.out.keep fun k hk _ => heap_setCell_other _ _ _ _ (fun e => HH.out.ne (by rw [← show k = g from e]; exact hk)), A, c, HR2.out.set hs HH.out.lim HH.out.small, hG.trans (grown_set _ _ _ _)⟩
set_option maxHeartbeats 400000 in
theorem rmeas_short (P : Nat → Prop) (g : Nat) (A : Option Addr) (c : Nat) (rest l rest1 : List UInt8) (size most N : Nat) (w : World) (h : Rd w P g 0 A c rest)
  (hN : val l = (N : Int)) (hl : l.length ≤ 8) (hle : N ≤ most)
  (C : Calls Tryz.prog 129 #[.pointer (some ⟨g, 0, none⟩), .int .i64 size] w (Took w P g l 0 rest1)) (hN1 : rest1.length < N) :
  Calls Tryz.prog 125 #[.pointer (some ⟨g, 0, none⟩), .int .i64 size, .int .i64 most] w (Piece w P g ([], (11, rest))) := by
 have hc1 : w.cell? ⟨g, 1, none⟩ = some (.slice A rest.length c) := cell_of_row w g 1 _ _ _ h.blk
 have HN := hD hN
 have HH := hD h
 have CC := hD C
 clear h hN C
 go_enter Tryz.func125, Tryz.ntmps125
 go_wp2_with fail
 refine CC.out.mono ?_
 rintro en w1 ⟨A1, c1, rfl, hsrc, A2, c2, hrd, hgr⟩
 have HQ := hD hsrc
 have HG := hD hgr
 have C2 := hD (take_short P g A2 c2 rest1 N _ hrd hN1)
 clear hsrc hrd hgr
 go_wp2_with fail
 refine (number_val _ A1 _ c1 _ _ HQ.out hl).mono ?_
 rw [HN.out]
 rintro en w' ⟨rfl, rfl⟩
 go_wp2_with fail
 refine C2.out.mono ?_
 rintro en w2 ⟨A3, c3, rfl, hsrc, A4, c4, hrd, hgr⟩
 have HR2 := hD hrd
 have HG2 := hD hgr
 have HQ2 := hD hsrc
 have hf1 : w2.frozen? ⟨g, 1, none⟩ = false := frozen_of_row w2 g 1 _ _ hrd.blk
 have hc2 : w2.cell? ⟨g, 1, none⟩ = some (.slice A4 rest1.length c4) := cell_of_row w2 g 1 _ _ _ hrd.blk
 clear hsrc hrd hgr
 go_wp2_with (go_at_call 54; refine (failed_any g _ _ 11 _ HR2.out.blk rfl).mono ?_; rintro en w' ⟨rfl, rfl⟩)
 go_ret
 have hG := HG.out.trans HG2.out
 have hs := src_grown HH.out.src HH.out.ne hG
 refine ⟨A3, c3, rfl, HQ2.out.keep fun k hk _ => heap_setCell_other _ _ _ _ (fun e => HH.out.ne (by rw [← show k = g from e]; exact hk)), A, c, HR2.out.set hs HH.out.lim HH.out.small, hG.trans (grown_set _ _ _ _)⟩
theorem rmeas_any (P : Nat → Prop) (g : Nat) (s : St) (A : Option Addr) (c : Nat) (size most : Nat) (w : World) (h : Rd w P g s.1 A c s.2) (h4 : size ≤ 4) :
  Calls Tryz.prog 125 #[.pointer (some ⟨g, 0, none⟩), .int .i64 size, .int .i64 most] w (Piece w P g (rMeas size most s)) := by
 obtain ⟨e, rest⟩ := s
 by_cases he : e = 0
 ·
  subst he
  by_cases h1 : rest.length < size
  ·
   have : rMeas size most ((0, rest) : St) = ([], (11, rest)) := by simp [rMeas, h1]
   rw [this]
   exact rmeas_out P g 0 11 A c rest rest size most w h (take_short P g A c rest size w h h1) (by decide)
  ·
   have hl : (rest.take size).length ≤ 4 := by rw [List.length_take]; omega
   have hv := val_small _ hl
   have C := take_ok P g A c rest size w h (by omega)
   have hd : (rest.drop size).length = rest.length - size := List.length_drop
   by_cases hgt : most < valN (rest.take size)
   ·
    have : rMeas size most ((0, rest) : St) = ([], (2, rest)) := by simp [rMeas, h1, hgt]
    rw [this]
    exact rmeas_long P g A c rest _ _ size most _ w h hv (by omega) hgt C
   ·
    by_cases hsh : rest.length - size < valN (rest.take size)
    ·
     have : rMeas size most ((0, rest) : St) = ([], (11, rest)) := by simp [rMeas, h1, hgt, hsh]
     rw [this]
     exact rmeas_short P g A c rest _ _ size most _ w h hv (by omega) (by omega) C (by omega)
    ·
     exact rmeas_in P g A c rest _ _ size most _ _ w h hv (by omega) (by omega) C (by omega) (by simp [rMeas, h1, hgt, hsh])
 ·
  have : rMeas size most ((e, rest) : St) = ([], (e, rest)) := by simp [rMeas, he]
  rw [this]
  exact rmeas_out P g e e A c rest rest size most w h (take_err P g e A c rest size w h he) he
def Said (w : World) (P : Nat → Prop) (g : Nat) (t : List UInt8 × St) (en : Ending) (w' : World) : Prop := en = .returned (.string ⟨t.1.toArray⟩) ∧ Is w P g t.2.1 t.2.2 w'
theorem conv_string {w : World} {P : Nat → Prop} {A : Option Addr} {n c : Nat} {l : List UInt8} (h : Src w P A n c (cells l)) : (convert 22 9 (.slice A n c)).run Tryz.prog w = .ok (.string ⟨l.toArray⟩) w := by
 have hl : l.length = n := by have := h.len; simpa [cells_len] using this
 subst hl
 cases A with
 | none =>
  have h0 := (h.nil rfl).1
  have : l = [] := List.eq_nil_of_length_eq_zero h0
  subst this
  exact run_convert_bytes_nil w 22 5 Tryz.underlying22 Tryz.underlying5 _ _ 9 Tryz.underlying9
 | some a =>
  refine run_convert_bytes_back w 22 9 5 a c l Tryz.underlying22 Tryz.underlying5 Tryz.underlying9 fun j hj => ?_
  exact h.at_ a rfl j _ (by simp [cells, u8, List.getElem?_eq_getElem hj])
set_option maxHeartbeats 400000 in
theorem rtext_any (P : Nat → Prop) (g : Nat) (s : St) (A : Option Addr) (c : Nat) (w : World) (h : Rd w P g s.1 A c s.2) :
  Calls Tryz.prog 38 #[.pointer (some ⟨g, 0, none⟩)] w (Said w P g (rMeas 2 4096 s)) := by
 have C := hD (rmeas_any P g s A c 2 4096 w h (by omega))
 clear h
 generalize rMeas 2 4096 s = t at *
 go_enter Tryz.func38, Tryz.ntmps38
 go_wp2_with (go_at_call 125; refine C.out.mono ?_; rintro en w1 ⟨A1, c1, rfl, hsrc, his⟩; have hcv := conv_string hsrc; have HI := hD his; clear hsrc his)
 go_ret
 exact ⟨rfl, HI.out⟩
def Got (w : World) (P : Nat → Prop) (g : Nat) (t : List UInt8 × St) (en : Ending) (w' : World) : Prop :=
 ∃ A c, en = .returned (.slice A t.1.length c) ∧ w'.ownsRow w.heap.size 5 1 (.slice A t.1.length c) t.1.length (cells t.1) ∧ Is w P g t.2.1 t.2.2 w'
theorem Is.below {w w1 w2 : World} {P : Nat → Prop} {g : Nat} {e : Int} {rest : List UInt8} (h : Is w P g e rest w1) (hb : Below w1.heap.size w1 w2) : Is w P g e rest w2 := by
 obtain ⟨A, c, h1, h2⟩ := h
 exact ⟨A, c, h1.below hb, h2.trans ⟨hb.os, hb.tape, hb.output, hb.size, fun k hk _ => hb.block k hk⟩⟩
theorem rMeas_len (size most : Nat) (s : St) : (rMeas size most s).1.length ≤ s.2.length := by
 unfold rMeas
 split
 ·
  split
  ·
   simp
  ·
   split
   ·
    simp
   ·
    split
    ·
     simp
    ·
     simp; omega
 ·
  simp
set_option maxHeartbeats 400000 in
theorem rblock_any (P : Nat → Prop) (g : Nat) (s : St) (A : Option Addr) (c : Nat) (w : World) (h : Rd w P g s.1 A c s.2) :
  Calls Tryz.prog 53 #[.pointer (some ⟨g, 0, none⟩)] w (Got w P g (rMeas 4 1048576 s)) := by
 have hl : (rMeas 4 1048576 s).1.length ≤ 140737488355328 := Nat.le_trans (rMeas_len _ _ _) h.small
 have C := hD (rmeas_any P g s A c 4 1048576 w h (by omega))
 clear h
 generalize rMeas 4 1048576 s = t at *
 go_enter Tryz.func53, Tryz.ntmps53
 go_wp2_with (first
  | (go_at_call 125; refine C.out.mono ?_; rintro en w1 ⟨A1, c1, rfl, hsrc, his⟩; have HQ := hD hsrc; have HI := hD his; clear hsrc his)
  | (go_at_call 36; refine (clone_any _ A1 _ c1 _ _ HQ.out hl).mono ?_; rintro en w2 ⟨A2, c2, rfl, hown, hb⟩; have HO := hD hown; have HB := hD hb; clear hown hb))
 go_ret
 refine ⟨A2, c2, rfl, own_more HO.out ?_, HI.out.below HB.out⟩
 obtain ⟨_, _, _, h2⟩ := HI.out
 exact h2.size
def rRaw (n : Int) (s : St) : List UInt8 × St := if n < 0 then ([], if s.1 = 0 then (1, s.2) else s) else rTake n.toNat s
theorem rfault_any (P : Nat → Prop) (g : Nat) (e : Int) (A : Option Addr) (c : Nat) (rest : List UInt8) (w : World) (h : Rd w P g e A c rest) :
  Calls Tryz.prog 130 #[.pointer (some ⟨g, 0, none⟩)] w fun en w' => en = .returned (.int .i64 e) ∧ w = w' := by
 have hc0 : w.cell? ⟨g, 0, none⟩ = some (.int .i64 e) := cell_of_row w g 0 _ _ _ h.blk
 clear h
 go_enter Tryz.func130, Tryz.ntmps130
 go_wp2
 go_ret
 exact ⟨rfl, rfl⟩
def rEnd (s : St) : Int := if s.1 = 0 ∧ s.2 ≠ [] then 12 else s.1
theorem rend_any (P : Nat → Prop) (g : Nat) (s : St) (A : Option Addr) (c : Nat) (w : World) (h : Rd w P g s.1 A c s.2) :
  Calls Tryz.prog 18 #[.pointer (some ⟨g, 0, none⟩)] w fun en w' => en = .returned (.int .i64 (rEnd s)) ∧ w = w' := by
 obtain ⟨e, rest⟩ := s
 have hc0 : w.cell? ⟨g, 0, none⟩ = some (.int .i64 e) := cell_of_row w g 0 _ _ _ h.blk
 have hc1 : w.cell? ⟨g, 1, none⟩ = some (.slice A rest.length c) := cell_of_row w g 1 _ _ _ h.blk
 by_cases he : e = 0
 ·
  subst he
  have H := hD h
  clear h
  cases rest with
  | nil =>
   go_enter Tryz.func18, Tryz.ntmps18
   go_wp2_with (go_at_call 54; refine (failed_any g _ _ 0 _ H.out.blk rfl).mono ?_; rintro e w' ⟨rfl, rfl⟩)
   go_ret
   exact ⟨rfl, rfl⟩
  | cons b r =>
   go_enter Tryz.func18, Tryz.ntmps18
   go_wp2_with (go_at_call 54; refine (failed_any g _ _ 0 _ H.out.blk rfl).mono ?_; rintro e w' ⟨rfl, rfl⟩)
   go_ret
   exact ⟨rfl, rfl⟩
 ·
  have he' : (e != 0) = true := by simpa using he
  have hr : rEnd (e, rest) = e := by simp [rEnd, he]
  rw [hr]
  have H := hD h
  clear h hr he
  go_enter Tryz.func18, Tryz.ntmps18
  go_wp2_with (go_at_call 54; refine (failed_any g _ _ e _ H.out.blk rfl).mono ?_; rw [he']; rintro e w' ⟨rfl, rfl⟩)
  go_ret
  exact ⟨rfl, rfl⟩
end Go.Proofs.YtfljignkjmabpaaGreat
namespace Go.Proofs.YtfljignkjmabpaaGreat
set_option maxRecDepth 100000
open Go.RowKit
structure Sym where
 name : Str
 ver : Str
 old : Bool
 kind : Int
 weak : Bool
 vis : Int
 dfd : Bool
 val : Int
 size : Int
abbrev symA (s : Sym) : Array Value := #[str s.name, str s.ver, .bool s.old, .int .i64 s.kind, .bool s.weak, .int .i64 s.vis, .bool s.dfd, .int .i64 s.val, .int .i64 s.size]
abbrev symV (s : Sym) : Value := .agg (symA s)
theorem cell_below {w w' : World} (hb : Below w.heap.size w w') {a : Addr} {u : Value} (h : w.cell? a = some u) : w'.cell? a = some u := (hb.cell (World.block_lt_of_cell? w _ h)).trans h
def Bx (w : World) (g : Nat) (cs : Array Value) (t : TypeId) : Prop := w.heap[g]? = some (.cells cs t (0, 0))
section
variable {w w' : World} {g : Nat} {cs : Array Value} {t : TypeId}
theorem Bx.new (w : World) (cs : Array Value) (t : TypeId) : Bx (w.alloc (.cells cs t)) w.heap.size cs t := heap_alloc_new _ _
theorem Bx.c (h : Bx w g cs t) (j : Nat) : w.cell? ⟨g, j, none⟩ = cs[j]? := cell_of_row w g j _ _ _ h
theorem Bx.f (h : Bx w g cs t) (j : Nat) : w.frozen? ⟨g, j, none⟩ = false := frozen_of_row w g j _ _ h
theorem Bx.lt (h : Bx w g cs t) : g < w.heap.size := by
 rcases Nat.lt_or_ge g w.heap.size with hlt | hge
 ·
  exact hlt
 ·
  have h' : w.heap[g]? = _ := h
  rw [Array.getElem?_eq_none hge] at h'; cases h'
theorem Bx.below (h : Bx w g cs t) (hb : Below w.heap.size w w') : Bx w' g cs t := (hb.block g h.lt).trans h
theorem Bx.below' {B : Nat} (h : Bx w g cs t) (hb : Below B w w') (hg : g < B) : Bx w' g cs t := (hb.block g hg).trans h
theorem Bx.alloc (h : Bx w g cs t) (o : Obj) : Bx (w.alloc o) g cs t := (Below.heap_alloc w o g h.lt).trans h
end
structure Sx (w : World) (g : Nat) (s : Sym) : Prop where
 bx : Bx w g (symA s) 105
theorem Sx.new (w : World) (s : Sym) : Sx (w.alloc (.cells (symA s) 105)) w.heap.size s := ⟨Bx.new _ _ _⟩
theorem Sx.below {w w' : World} {g : Nat} {s : Sym} (h : Sx w g s) (hb : Below w.heap.size w w') : Sx w' g s := ⟨h.bx.below hb⟩
theorem Sx.cells {w : World} {g : Nat} {s : Sym} (h : Sx w g s) :
  w.cell? ⟨g, 0, none⟩ = some (str s.name) ∧ w.cell? ⟨g, 1, none⟩ = some (str s.ver) ∧ w.cell? ⟨g, 2, none⟩ = some (.bool s.old) ∧ w.cell? ⟨g, 3, none⟩ = some (.int .i64 s.kind) ∧
  w.cell? ⟨g, 4, none⟩ = some (.bool s.weak) ∧ w.cell? ⟨g, 5, none⟩ = some (.int .i64 s.vis) ∧ w.cell? ⟨g, 6, none⟩ = some (.bool s.dfd) ∧ w.cell? ⟨g, 7, none⟩ = some (.int .i64 s.val) ∧ w.cell? ⟨g, 8, none⟩ = some (.int .i64 s.size) :=
 ⟨h.bx.c 0, h.bx.c 1, h.bx.c 2, h.bx.c 3, h.bx.c 4, h.bx.c 5, h.bx.c 6, h.bx.c 7, h.bx.c 8⟩
theorem box_below (w : World) (s : Sym) : Below w.heap.size w (w.alloc (.cells (symA s) 105)) := (Below.refl _ _).alloc (Nat.le_refl _) _
def seenB (s : Sym) : Bool := s.dfd && s.vis != 2
def hasB (s : Sym) : Bool := !s.ver.isEmpty
def defB (s : Sym) : Bool := s.old || s.vis != 0 || s.val != 0 || s.size != 0
def fieldsB (s : Sym) : Bool := decide (1 ≤ s.kind) && decide (s.kind ≤ 3) && (decide (0 ≤ s.vis) && decide (s.vis ≤ 2)) && decide (0 ≤ s.val) && decide (0 ≤ s.size)
def textB (s : Sym) : Bool := if s.ver.isEmpty then nameB s.name && !s.old else nameB s.name && nameB s.ver
def rightB (s : Sym) : Bool := textB s && fieldsB s && (s.dfd || !defB s)
theorem seen_any (s : Sym) (w : World) : Calls Tryz.prog 177 #[symV s] w fun e w' => e = .returned (.bool (seenB s)) ∧ Below w.heap.size w w' := by
 have HB := hD (box_below w s)
 obtain ⟨c0, c1, c2, c3, c4, c5, c6, c7, c8⟩ := (Sx.new w s).cells
 go_enter Tryz.func177, Tryz.ntmps177
 go_wp2_with fail
 all_goals
  go_ret
  refine ⟨ret_bool ?_, HB.out⟩
  simp [seenB, *]
theorem rseen_any (s : Sym) (w : World) : Calls Tryz.prog 160 #[symV s] w fun e w' => e = .returned (.bool (seenB s)) ∧ Below w.heap.size w w' := by
 have HB := hD (box_below w s)
 obtain ⟨c0, c1, c2, c3, c4, c5, c6, c7, c8⟩ := (Sx.new w s).cells
 go_enter Tryz.func160, Tryz.ntmps160
 go_wp2_with fail
 all_goals
  go_ret
  refine ⟨ret_bool ?_, HB.out⟩
  simp [seenB, *]
theorem has_any (s : Sym) (w : World) : Calls Tryz.prog 214 #[symV s] w fun e w' => e = .returned (.bool (hasB s)) ∧ Below w.heap.size w w' := by
 have HB := hD (box_below w s)
 obtain ⟨c0, c1, c2, c3, c4, c5, c6, c7, c8⟩ := (Sx.new w s).cells
 go_enter Tryz.func214, Tryz.ntmps214
 go_wp2_with fail
 all_goals
  go_ret
  refine ⟨ret_bool ?_, HB.out⟩
  simp [hasB, *]
theorem hasdef_any (s : Sym) (w : World) : Calls Tryz.prog 200 #[symV s] w fun e w' => e = .returned (.bool (defB s)) ∧ Below w.heap.size w w' := by
 have HB := hD (box_below w s)
 obtain ⟨c0, c1, c2, c3, c4, c5, c6, c7, c8⟩ := (Sx.new w s).cells
 go_enter Tryz.func200, Tryz.ntmps200
 go_wp2_with fail
 all_goals
  go_ret
  refine ⟨ret_bool ?_, HB.out⟩
  simp [defB, *]
theorem fields_any (s : Sym) (w : World) : Calls Tryz.prog 199 #[symV s] w fun e w' => e = .returned (.bool (fieldsB s)) ∧ Below w.heap.size w w' := by
 have HB := hD (box_below w s)
 obtain ⟨c0, c1, c2, c3, c4, c5, c6, c7, c8⟩ := (Sx.new w s).cells
 go_enter Tryz.func199, Tryz.ntmps199
 go_wp2_with fail
 all_goals
  go_ret
  refine ⟨ret_bool ?_, HB.out⟩
  simp [fieldsB, *] <;> omega
def printS (s : Sym) : Str := if s.ver.isEmpty then s.name else if s.dfd && !s.old then s.name ++ ([64, 64] ++ s.ver) else s.name ++ ([64] ++ s.ver)
end Go.Proofs.YtfljignkjmabpaaGreat
namespace Go.Proofs.YtfljignkjmabpaaGreat
set_option maxRecDepth 100000
open Go.RowKit
def Opened (w : World) (l : List UInt8) (en : Ending) (w' : World) : Prop :=
 ∃ g A c, en = .returned (.pointer (some ⟨g, 0, none⟩)) ∧ Rd w' (fun k => w.heap.size ≤ k ∧ k < g) g 0 A c l ∧ Below w.heap.size w w' ∧ w.heap.size ≤ g
theorem own_cap {w : World} {B : Nat} {e : TypeId} {n c : Nat} {A : Option Addr} {xs : List Value} (h : w.ownsRow B e 1 (.slice A n c) n xs) : c ≤ 9223372036854775807 := by
 rcases h.2 with ⟨h1, _⟩ | ⟨g', cap, cur, hv, _, _, _, hm, _⟩
 ·
  injection h1 with _ _ h1; omega
 ·
  injection hv with _ _ h1; subst h1; simpa [maxLen] using hm
set_option maxHeartbeats 400000 in
theorem rnew_any (P : Nat → Prop) (A : Option Addr) (n c : Nat) (l : List UInt8) (w : World) (h : Src w P A n c (cells l)) (hn : n ≤ 140737488355328) :
  Calls Tryz.prog 16 #[.slice A n c] w (Opened w l) := by
 have hl : l.length = n := by have := h.len; simpa [cells_len] using this
 subst hl
 have C := hD (clone_any P A l.length c l w h hn)
 clear h
 go_enter Tryz.func16, Tryz.ntmps16
 go_wp2_with (go_at_call 36; refine C.out.mono ?_; rintro en w1 ⟨A1, c1, rfl, hown, hb⟩; have HO := hD hown; have HB := hD hb; clear hown hb)
 go_ret
 have hs := HB.out.size
 refine ⟨w1.heap.size, A1, c1, rfl, ⟨heap_alloc_new _ _, ?_, (by intro h; omega), own_cap HO.out, hn⟩, HB.out.alloc hs _, hs⟩
 have hsrc := Src.of_own HO.out
 exact (hsrc.weak fun k hk => ⟨hk.2.1, hk.2.2⟩).keep fun k _ hkl => Below.heap_alloc _ _ _ hkl
theorem Step.to_below {g B : Nat} {w w' : World} {r r' : Option Nat} (h : Step g w r w' r') (hg : B ≤ g) (hr : ∀ k, r = some k → B ≤ k) (hB : B ≤ w.heap.size) : Below B w w' :=
 ⟨h.os, h.tape, h.output, h.size, fun k hk => h.block k (by omega) (by omega) (fun e => by have := hr k e; omega)⟩
theorem Is.to_below {w w' : World} {P : Nat → Prop} {g B : Nat} {e : Int} {rest : List UInt8} (h : Is w P g e rest w') (hg : B ≤ g) (hB : B ≤ w.heap.size) : Below B w w' := by
 obtain ⟨A, c, _, h⟩ := h
 exact ⟨h.os, h.tape, h.output, h.size, fun k hk => h.block k (by omega) (fun e => by injection e with e; omega)⟩
end Go.Proofs.YtfljignkjmabpaaGreat
namespace Go.Proofs.YtfljignkjmabpaaGreat
set_option maxRecDepth 100000
open Go.RowKit
theorem greatest_any (size : Int) (w : World) : Calls Tryz.prog 190 #[.int .i64 size] w fun e w' => e = .returned (.int .i64 (if size = 1 then 255 else if size = 2 then 65535 else if size = 4 then 4294967295 else 0)) ∧ w = w' := by
 by_cases h1 : size = 1
 ·
  subst h1
  go_enter Tryz.func190, Tryz.ntmps190
  go_wp2
  go_ret
  exact ⟨rfl, rfl⟩
 by_cases h2 : size = 2
 ·
  subst h2
  go_enter Tryz.func190, Tryz.ntmps190
  go_wp2
  go_ret
  exact ⟨rfl, rfl⟩
 by_cases h4 : size = 4
 ·
  subst h4
  go_enter Tryz.func190, Tryz.ntmps190
  go_wp2
  go_ret
  exact ⟨rfl, rfl⟩
 have b1 : (size == 1) = false := by simpa using h1
 have b2 : (size == 2) = false := by simpa using h2
 have b4 : (size == 4) = false := by simpa using h4
 rw [if_neg h1, if_neg h2, if_neg h4]
 clear h1 h2 h4
 go_enter Tryz.func190, Tryz.ntmps190
 go_wp2
 go_ret
 exact ⟨rfl, rfl⟩
theorem sizedR_any (size : Int) (w : World) : Calls Tryz.prog 139 #[.int .i64 size] w fun e w' => e = .returned (.bool (sized size)) ∧ w = w' := by
 have C := greatest_any size w
 by_cases h8 : size = 8
 ·
  subst h8
  go_enter Tryz.func139, Tryz.ntmps139
  go_wp2_with fail
  go_ret
  exact ⟨rfl, rfl⟩
 have b8 : (size == 8) = false := by simpa using h8
 have hs : sized size = decide (0 < (if size = 1 then (255 : Int) else if size = 2 then 65535 else if size = 4 then 4294967295 else 0)) := by
  rw [Bool.eq_iff_iff]
  simp only [sized, decide_eq_true_eq]
  split
  ·
   omega
  ·
   split
   ·
    omega
   ·
    split <;> omega
 rw [hs]
 have HC := hD C
 clear C h8 hs
 generalize (if size = 1 then (255 : Int) else if size = 2 then 65535 else if size = 4 then 4294967295 else 0) = m at *
 go_enter Tryz.func139, Tryz.ntmps139
 go_wp2_with (go_at_call 190; refine HC.out.mono ?_; rintro en w' ⟨rfl, rfl⟩)
 go_ret
 exact ⟨rfl, rfl⟩
structure Rr (w : World) (P : Nat → Prop) (g : Nat) (e : Int) (A : Option Addr) (c : Nat) (rest : List UInt8) : Prop where
 blk : w.heap[g]? = some (.cells #[.slice A rest.length c, .int .i64 e] 118 (0, 0))
 src : Src w P A rest.length c (cells rest)
 ne : ¬ P g
 lim : c ≤ 9223372036854775807
 small : rest.length ≤ 140737488355328
theorem Rr.lt {w : World} {P : Nat → Prop} {g : Nat} {e : Int} {A : Option Addr} {c : Nat} {rest : List UInt8} (h : Rr w P g e A c rest) : g < w.heap.size := by
 rcases Nat.lt_or_ge g w.heap.size with hlt | hge
 ·
  exact hlt
 ·
  have := h.blk; rw [Array.getElem?_eq_none hge] at this; cases this
def IsR (w : World) (P : Nat → Prop) (g : Nat) (e : Int) (rest : List UInt8) (w' : World) : Prop := ∃ A c, Rr w' P g e A c rest ∧ w.grownBy w' (some g)
def ReadR (w : World) (P : Nat → Prop) (g : Nat) (v : Value) (e : Int) (rest : List UInt8) (en : Ending) (w' : World) : Prop := en = .returned v ∧ IsR w P g e rest w'
def TookR (w : World) (P : Nat → Prop) (g : Nat) (t : List UInt8 × St) (en : Ending) (w' : World) : Prop :=
 ∃ A c, en = .returned (.slice A t.1.length c) ∧ Src w' P A t.1.length c (cells t.1) ∧ IsR w P g t.2.1 t.2.2 w'
theorem Rr.set {w : World} {P : Nat → Prop} {g : Nat} {e : Int} {A : Option Addr} {c : Nat} {rest : List UInt8} (h : Rr w P g e A c rest) {A' : Option Addr} {c' : Nat} {rest' : List UInt8} (hs : Src w P A' rest'.length c' (cells rest')) (hl : c' ≤ 9223372036854775807) (hm : rest'.length ≤ 140737488355328) :
  Rr (w.setCell ⟨g, 0, none⟩ (.slice A' rest'.length c')) P g e A' c' rest' := by
 refine ⟨?_, hs.keep fun k hk _ => heap_setCell_other _ _ _ _ (fun e => h.ne (by rw [← show k = g from e]; exact hk)), h.ne, hl, hm⟩
 rw [heap_setCell_same w g 0 _ _ _ h.blk]
 rfl
theorem Rr.fail {w : World} {P : Nat → Prop} {g : Nat} {e : Int} {A : Option Addr} {c : Nat} {rest : List UInt8} (h : Rr w P g e A c rest) (k : Int) : Rr (w.setCell ⟨g, 1, none⟩ (.int .i64 k)) P g k A c rest := by
 refine ⟨?_, h.src.keep fun k hk _ => heap_setCell_other _ _ _ _ (fun e => h.ne (by rw [← show k = g from e]; exact hk)), h.ne, h.lim, h.small⟩
 rw [heap_setCell_same w g 1 _ _ _ h.blk]
 rfl
theorem wrapu_in (n : Nat) (h : n < 256 ^ 8) : IntKind.u64.wrap (n : Int) = n := by
 have e : (256 : Nat) ^ 8 = 18446744073709551616 := by decide
 rw [e] at h
 simp [IntKind.wrap, IntKind.bits, IntKind.signed]
 omega
theorem cells_get (l : List UInt8) (k : Nat) (h : k < l.length) : (cells l)[k]? = some (.int .u8 (l[k].toNat : Int)) := by simp [cells, u8, h]
theorem value_step (l : List UInt8) (j : Nat) (h : j < l.length) (h8 : l.length ≤ 8) : IntKind.u64.wrap (IntKind.u64.wrap (((valN (l.drop (j + 1)) : Nat) : Int) * 256) + IntKind.u64.wrap (l[j].toNat : Int)) = ((valN (l.drop j) : Nat) : Int) := by
 have e : l.drop j = l[j] :: l.drop (j + 1) := List.drop_eq_getElem_cons h
 have hv : valN (l.drop j) = l[j].toNat + 256 * valN (l.drop (j + 1)) := by rw [e]; rfl
 have hb := l[j].toNat_lt
 have h1 := valN_lt (l.drop j)
 have h2 : 256 ^ (l.drop j).length ≤ 256 ^ 8 := Nat.pow_le_pow_right (by omega) (by rw [List.length_drop]; omega)
 have w1 : IntKind.u64.wrap (((valN (l.drop (j + 1)) : Nat) : Int) * 256) = ((valN (l.drop (j + 1)) * 256 : Nat) : Int) := by
  have := wrapu_in (valN (l.drop (j + 1)) * 256) (by omega)
  rw [← this]
  congr 1
 have e8 : (256 : Nat) ^ 8 = 18446744073709551616 := by decide
 have w2 : IntKind.u64.wrap (l[j].toNat : Int) = ((l[j].toNat : Nat) : Int) := wrapu_in _ (by rw [e8]; omega)
 rw [w1, w2, ← Int.natCast_add, wrapu_in _ (by omega), hv]
 omega
set_option maxHeartbeats 400000 in
theorem valueR_any (P : Nat → Prop) (A : Option Addr) (n c : Nat) (l : List UInt8) (w : World) (h : Src w P A n c (cells l)) (hn : n ≤ 8) :
  Calls Tryz.prog 140 #[.slice A n c] w fun e w' => e = .returned (.int .i64 (val l)) ∧ w = w' := by
 have hl : l.length = n := by have := h.len; simpa [cells_len] using this
 have HL := hD hl
 have HX := hD h
 clear h hl
 go_enter Tryz.func140, Tryz.ntmps140
 go_wp2_with fail
 go_loop [3, 4] (fun u i => ∃ j : Nat, j ≤ n ∧ i = .int .i64 ((j : Int) - 1) ∧ u = .int .u64 (valN (l.drop j) : Int)) (fun _ i => (intOf i + 1).toNat)
 case atStart => exact ⟨n, Nat.le_refl _, rfl, by rw [← HL.out, List.drop_length]; rfl⟩
 case round =>
  obtain ⟨j, hj, rfl, rfl⟩ := hrel
  cases j with
  | succ j =>
   have hkl : j < l.length := by rw [HL.out]; omega
   obtain ⟨ad, rfl⟩ : ∃ ad, A = some ad := by
    cases A with
    | none => have := (HX.out.nil rfl).1; omega
    | some ad => exact ⟨ad, rfl⟩
   have hcell : w.cell? (ad.add j) = some (.int .u8 (l[j].toNat : Int)) := HX.out.at_ ad rfl j _ (cells_get l j hkl)
   have hcap := HX.out.cap
   have HS := hD (value_step l j hkl (by rw [HL.out]; exact hn))
   go_wp2
   exact ⟨⟨j, by omega, rfl, by rw [HS.out]⟩, by simp [intOf]⟩
  | zero =>
   go_wp2
   go_ret
   exact ⟨rfl, rfl⟩
/-! Num. -/
set_option maxHeartbeats 1000000 in
theorem mnum_any (P : Nat → Prop) (g : Nat) (s : St) (A : Option Addr) (c : Nat) (size : Int) (w : World) (h : Rr w P g s.1 A c s.2) :
  Calls Tryz.prog 56 #[.pointer (some ⟨g, 0, none⟩), .int .i64 size] w (ReadR w P g (.int .i64 (rNum size s).1) (rNum size s).2.1 (rNum size s).2.2) := by
 obtain ⟨e, rest⟩ := s
 change Rr w P g e A c rest at h
 have hc0 : w.cell? ⟨g, 0, none⟩ = some (.slice A rest.length c) := cell_of_row w g 0 _ _ _ h.blk
 have hc1 : w.cell? ⟨g, 1, none⟩ = some (.int .i64 e) := cell_of_row w g 1 _ _ _ h.blk
 have hf0 : w.frozen? ⟨g, 0, none⟩ = false := frozen_of_row w g 0 _ _ h.blk
 have hf1 : w.frozen? ⟨g, 1, none⟩ = false := frozen_of_row w g 1 _ _ h.blk
 have hcap := h.src.cap
 have hlim := h.lim
 have H := hD h
 by_cases he : e = 0
 case neg =>
  have b1 : (e == 0) = false := by simpa using he
  have b2 : (e != 0) = true := by simpa using he
  have er : rNum size ((e, rest) : St) = (0, (e, rest)) := by
   unfold rNum
   split
   ·
    simp [rTake, he, val, valN, wrap64]
   ·
    simp
  rw [er]
  clear h er he
  go_enter Tryz.func56, Tryz.ntmps56
  go_wp2_with fail
  go_ret
  exact ⟨rfl, A, c, H.out, World.grownBy.refl _ _⟩
 subst he
 by_cases hs : sized size = true
 case neg =>
  have hs' : sized size = false := by simpa using hs
  have er : rNum size ((0, rest) : St) = (0, (1, rest)) := by
   unfold rNum
   rw [if_neg hs]
   rfl
  rw [er]
  have HS := hD hs'
  clear h er hs hs'
  go_enter Tryz.func56, Tryz.ntmps56
  go_wp2_with (go_at_call 139; refine (sizedR_any size _).mono ?_; rw [HS.out]; rintro en w' ⟨rfl, rfl⟩)
  go_ret
  exact ⟨rfl, A, c, H.out.fail 1, grown_set _ _ _ _⟩
 obtain ⟨k, rfl⟩ : ∃ k : Nat, size = k := ⟨size.toNat, by simp only [sized, decide_eq_true_eq] at hs; omega⟩
 have hk8 : k ≤ 8 := by simp only [sized, decide_eq_true_eq] at hs; omega
 have HS := hD hs
 by_cases hlt : rest.length < k
 ·
  have er : rNum k ((0, rest) : St) = (0, (11, rest)) := by
   unfold rNum
   rw [if_pos hs, Int.toNat_natCast]
   have : rTake k ((0, rest) : St) = ([], (11, rest)) := by unfold rTake; rw [if_pos rfl, if_neg (by show ¬ k ≤ rest.length; omega)]
   rw [this]
   simp [val, valN, wrap64]
  rw [er]
  clear h er hs
  go_enter Tryz.func56, Tryz.ntmps56
  go_wp2_with (go_at_call 139; refine (sizedR_any k _).mono ?_; rw [HS.out]; rintro en w' ⟨rfl, rfl⟩)
  go_ret
  exact ⟨rfl, A, c, H.out.fail 11, grown_set _ _ _ _⟩
 ·
  have er : rNum k ((0, rest) : St) = (val (rest.take k), (0, rest.drop k)) := by
   unfold rNum
   rw [if_pos hs, Int.toNat_natCast]
   have : rTake k ((0, rest) : St) = (rest.take k, (0, rest.drop k)) := by unfold rTake; rw [if_pos rfl, if_pos (by show k ≤ rest.length; omega)]
   rw [this]
  rw [er]
  have hfr := h.src.front k (by omega)
  have hfl : (rest.take k).length = k := by rw [List.length_take]; omega
  have hdl : (rest.drop k).length = rest.length - k := List.length_drop
  rw [hfl] at hfr
  have HV := hD (valueR_any P A k c (rest.take k) w hfr hk8)
  have HD := hD hdl
  clear h er hs hfr hfl hdl
  go_enter Tryz.func56, Tryz.ntmps56
  go_wp2_with (first
   | (go_at_call 139; refine (sizedR_any k _).mono ?_; rw [HS.out]; rintro en w' ⟨rfl, rfl⟩)
   | (go_at_call 140; refine HV.out.mono ?_; rintro en w' ⟨rfl, rfl⟩))
  all_goals
   have h := H.out
  ·
   rename_i hcn
   subst hcn
   go_ret
   have hr := h.set h.src.last (Nat.zero_le _) (by rw [HD.out]; have := h.small; omega)
   rw [HD.out] at hr
   exact ⟨rfl, A, 0, hr, grown_set _ _ _ _⟩
  ·
   go_ret
   have hr := h.set (h.src.rest k (by omega)) (by omega) (by rw [HD.out]; have := h.small; omega)
   rw [HD.out] at hr
   exact ⟨rfl, _, c - k, hr, grown_set _ _ _ _⟩
/-! Raw. -/
theorem mend_any (P : Nat → Prop) (g : Nat) (s : St) (A : Option Addr) (c : Nat) (w : World) (h : Rr w P g s.1 A c s.2) :
  Calls Tryz.prog 62 #[.pointer (some ⟨g, 0, none⟩)] w fun en w' => en = .returned (.int .i64 (rEnd s)) ∧ w = w' := by
 obtain ⟨e, rest⟩ := s
 change Rr w P g e A c rest at h
 have hc0 : w.cell? ⟨g, 0, none⟩ = some (.slice A rest.length c) := cell_of_row w g 0 _ _ _ h.blk
 have hc1 : w.cell? ⟨g, 1, none⟩ = some (.int .i64 e) := cell_of_row w g 1 _ _ _ h.blk
 by_cases he : e = 0
 ·
  subst he
  clear h
  cases rest with
  | nil =>
   go_enter Tryz.func62, Tryz.ntmps62
   go_wp2_with fail
   go_ret
   exact ⟨rfl, rfl⟩
  | cons b r =>
   go_enter Tryz.func62, Tryz.ntmps62
   go_wp2_with fail
   go_ret
   exact ⟨rfl, rfl⟩
 ·
  have he' : (e == 0) = false := by simpa using he
  have hr : rEnd (e, rest) = e := by simp [rEnd, he]
  rw [hr]
  clear h hr he
  go_enter Tryz.func62, Tryz.ntmps62
  go_wp2_with fail
  go_ret
  exact ⟨rfl, rfl⟩
end Go.Proofs.YtfljignkjmabpaaGreat
namespace Go.Proofs.YtfljignkjmabpaaGreat
set_option maxRecDepth 100000
open Go.RowKit
def ones (k : Nat) (x : Int) : List Value := List.replicate k (.int .u8 x)
def RowIs (w : World) (B : Nat) (A : Option Addr) (n c : Nat) (x : Int) : Prop := w.ownsRow B 5 1 (.slice A n c) n (ones n x)
end Go.Proofs.YtfljignkjmabpaaGreat
