/- A part of the proof. -/
import Derived.Test.YtfljignkjmabpaaGreatRows
import Derived.WalkKit
import Derived.Lib.Hide
import Derived.WalkSpells
import Derived.Maps.AppendAt
import Derived.Deep.AppendLies
import Derived.Deep.Draws
import Derived.Deep.QuietTactic
import Derived.BigQuiet
import Derived.Laws.Rows
import Derived.Laws.AppendOwnNone
import Derived.Lib.LazyBuf
import Derived.OneCell
import Derived.Laws.BitsAllLaws
import Derived.Laws.Bits64
import Derived.ProofKit
import Derived.OpenShut
import Derived.SliceStrings
import Derived.ChangeSlices
import Derived.ChangeSame
import Derived.Carry
import Derived.Deep.Slices
import Derived.Deep.Fields
import Derived.SizedLaws
import Derived.Lib.SmallJoins
set_option linter.unusedSimpArgs false
set_option linter.unusedVariables false
namespace Go.Proofs.YtfljignkjmabpaaGreat
set_option maxRecDepth 100000
open Go.RowKit
theorem hD {p : Prop} (h : p) : Hid p := Lib.hid h
theorem zI {α : Type} (xs : List α) (i : Nat) (a : α) : xs.toArray.setIfInBounds i a = (xs.set i a).toArray := List.setIfInBounds_toArray ..
theorem zJ {α : Type} (a : α) (l : List α) (b : α) : (a :: l).set 0 b = b :: l := rfl
theorem zK {α : Type} (a : α) (l : List α) (n : Nat) (b : α) : (a :: l).set (n + 1) b = a :: l.set n b := rfl
theorem gA {α : Type} (l : List α) (i : Nat) : l.toArray[i]? = l[i]? := List.getElem?_toArray ..
theorem gB {α : Type} (a : α) (l : List α) : (a :: l)[0]? = some a := List.getElem?_cons_zero ..
theorem gC {α : Type} (a : α) (l : List α) (i : Nat) : (a :: l)[i + 1]? = l[i]? := List.getElem?_cons_succ ..
structure Src (w : World) (P : Nat → Prop) (A : Option Addr) (n c : Nat) (xs : List Value) : Prop where
 len : xs.length = n
 nil : A = none → n = 0 ∧ c = 0
 cap : n ≤ c
 blk : ∀ ad, A = some ad → 0 < n → P ad.block
 at_ : ∀ ad, A = some ad → ∀ j u, xs[j]? = some u → w.cell? (ad.add j) = some u
theorem addBlock (a : Addr) (n : Nat) : (a.add n).block = a.block := by unfold Addr.add; split <;> rfl
section
variable {w w' : World} {P Q : Nat → Prop} {A : Option Addr} {n c : Nat} {xs : List Value}
theorem Src.keep (h : Src w P A n c xs) (hk : ∀ k, P k → k < w.heap.size → w'.heap[k]? = w.heap[k]?) : Src w' P A n c xs :=
 ⟨h.len, h.nil, h.cap, h.blk, fun ad hA j u hu => by
  have h1 := h.at_ ad hA j u hu
  have hj : j < xs.length := (List.getElem?_eq_some_iff.1 hu).1
  have hb := h.blk ad hA (by rw [← h.len]; omega)
  rw [World.cell?_of_block (hk _ (by rw [addBlock]; exact hb) (World.block_lt_of_cell? w _ h1))]
  exact h1⟩
theorem Src.weak (h : Src w P A n c xs) (hk : ∀ k, P k → Q k) : Src w Q A n c xs := ⟨h.len, h.nil, h.cap, fun ad hA hn => hk _ (h.blk ad hA hn), h.at_⟩
theorem Src.of_own {base : Nat} {e : TypeId} (h : w.ownsRow base e 1 (.slice A n c) n xs) : Src w (fun k => (Value.slice A n c).ownBlock = some k ∧ base ≤ k ∧ k < w.heap.size) A n c xs := by
 refine ⟨by simpa using h.1, fun hA => ?_, ?_, fun ad hA _ => ?_, fun ad hA => ?_⟩
 ·
  rcases h.2 with ⟨hv, h0⟩ | ⟨g, cap, cur, hv, _⟩
  ·
   injection hv with _ _ hc
   exact ⟨h0, hc⟩
  ·
   subst hA; injection hv with h1; cases h1
 ·
  rcases h.2 with ⟨hv, h0⟩ | ⟨g, cap, cur, hv, _, _, hle, _⟩
  ·
   omega
  ·
   injection hv with _ _ hc; subst hc; exact hle
 ·
  subst hA
  exact ⟨rfl, h.lt ad.block rfl⟩
 ·
  subst hA
  rcases h.2 with ⟨hv, h0⟩ | ⟨g, cap, cur, hv, _⟩
  ·
   cases hv
  ·
   have := h.cells (g := ad.block) rfl
   injection hv with h1
   injection h1 with h1
   subst h1
   exact this
theorem own_slice {base : Nat} {e : TypeId} {v : Value} (h : w.ownsRow base e 1 v n xs) : ∃ A c, v = .slice A n c := by
 rcases h.2 with ⟨rfl, rfl⟩ | ⟨g, cap, cur, rfl, _⟩
 ·
  exact ⟨_, _, rfl⟩
 ·
  exact ⟨_, _, rfl⟩
end
theorem wpList_append_src {Pr : Program} {w : World} {ops : Array Oper} {rest : List Oper} {o : Oper} {a : Act} {Q : Exit → Act → World → Prop} (hgd : o.guard = none) (s x : Operand) (t : TypeId)
  (ho : o.op = .call { callee := .builtin .append, args := #[s, x], argTypes := #[t, t] })
  (base : Nat) (e : TypeId) (i : TypeInfo) (z : Value) (bytes : Nat) (ht : Pr.underlying t = some (.slice e)) (hi : Pr.info? e = some i) (hz : i.zero = some z)
  (hsize : i.size = 1) (hby : i.bytes = bytes) (hzs : z.cells.size = 1)
  (v : Value) (n : Nat) (xs : List Value) (hs : a.eval s = v) (hown : w.ownsRow base e 1 v n xs)
  (P : Nat → Prop) (A : Option Addr) (m c : Nat) (news : List Value) (hx : a.eval x = .slice A m c) (hr : Src w P A m c news) (h1 : ∀ u ∈ news, u.oneCell' = true)
  (h63 : n + m ≤ maxLen) (hbytes : (n + m) * bytes ≤ 140737488355328) (hbase : base ≤ w.heap.size)
  (h : ∀ v' w', w'.ownsRow base e 1 v' (n + m) (xs ++ news) → w.grownBy w' v.ownBlock → (v'.ownBlock = v.ownBlock ∨ v'.ownBlock = some w.heap.size) → wpList Pr ops Q rest (a.put o.dst v') w') : wpList Pr ops Q (o :: rest) a w := by
 cases A with
 | none =>
  obtain ⟨rfl, rfl⟩ := hr.nil rfl
  have hn : news = [] := List.eq_nil_of_length_eq_zero hr.len
  subst hn
  exact wpList_append_own_none hgd s x t ho base e i 1 ht hi v n xs hs hown hx (h v w (by simpa using hown) (World.grownBy.refl w _) (.inl rfl))
 | some ad =>
  exact wpList_append_own_at w hgd s x t ho base e i z 1 bytes ht hi hz hsize hby hzs (by omega) v n xs hs hown ad m c news hx (by simpa using hr.len) (hr.at_ ad rfl) h1 h63 hbytes hbase fun v' w' a1 a2 _ a3 => h v' w' a1 a2 a3
def row (A : Option Addr) : Option Nat := A.map (·.block)
theorem row_own (A : Option Addr) (n c : Nat) : (Value.slice A n c).ownBlock = row A := by cases A <;> rfl
theorem own_more {w : World} {B B' : Nat} {e : TypeId} {sz : Nat} {v : Value} {n : Nat} {xs : List Value} (h : w.ownsRow B e sz v n xs) (hB : B' ≤ B) : w.ownsRow B' e sz v n xs := by
 refine ⟨h.1, ?_⟩
 rcases h.2 with h1 | ⟨g', cap, cur, hv, hb, hh, hx⟩
 ·
  exact .inl h1
 ·
  exact .inr ⟨g', cap, cur, hv, Nat.le_trans hB hb, hh, hx⟩
theorem drew_below (w : World) : Below w.heap.size w w.drew := ⟨rfl, rfl, rfl, Nat.le_refl _, fun _ _ => rfl⟩
theorem drewN_below (w : World) (n : Nat) : Below w.heap.size w (w.drewN n) := ⟨rfl, rfl, rfl, Nat.le_refl _, fun _ _ => rfl⟩
theorem below_drewN {B : Nat} {a w : World} (h : Below B a w) (n : Nat) : Below B a (w.drewN n) := ⟨h.os, h.tape, h.output, h.size, h.block⟩
theorem Src.below {w w' : World} {P : Nat → Prop} {A : Option Addr} {n c : Nat} {xs : List Value} {B : Nat} (h : Src w P A n c xs) (hb : Below B w w') (hP : ∀ k, P k → k < B) : Src w' P A n c xs :=
 h.keep fun k hk _ => hb.block k (hP k hk)
theorem Src.lt {w : World} {P : Nat → Prop} {A : Option Addr} {n c : Nat} {xs : List Value} (h : Src w P A n c xs) : Src w (fun k => k < w.heap.size) A n c xs :=
 ⟨h.len, h.nil, h.cap, fun ad hA hn => (by
  have hl : 0 < xs.length := by rw [h.len]; exact hn
  have h1 := h.at_ ad hA 0 _ (List.getElem?_eq_getElem hl)
  have h2 := World.block_lt_of_cell? w _ h1
  rw [addBlock] at h2
  exact h2), h.at_⟩
end Go.Proofs.YtfljignkjmabpaaGreat
namespace Go.Proofs.YtfljignkjmabpaaGreat.Siv
set_option maxRecDepth 100000
open Go.RowKit
abbrev u32v (x : UInt32) : Value := .int .u32 (x.toNat : Int)
abbrev u32n (k : Nat) : Value := .int .u32 (k : Int)
abbrev u64v (x : UInt64) : Value := .int .u64 (x.toNat : Int)
def step (h : UInt32) (b : UInt8) : UInt32 := h * 33 + b.toUInt32
def hashFrom (h : UInt32) (l : List UInt8) : UInt32 := l.foldl step h
theorem hashFrom_take (h : UInt32) (l : List UInt8) (k : Nat) (hk : k < l.length) : hashFrom h (l.take (k + 1)) = step (hashFrom h (l.take k)) l[k] := by
 unfold hashFrom
 rw [List.take_succ_eq_append_getElem hk, List.foldl_append]
 rfl
theorem step_val (h : UInt32) (b : UInt8) : ((step h b).toNat : Int) = (((h.toNat : Int) * 33 % 4294967296 + (b.toNat : Int) % 4294967296) % 4294967296) := by
 simp [step]
theorem step_eq (h : UInt32) (b : UInt8) : Value.int .u32 (((h.toNat : Int) * 33 % 4294967296 + (b.toNat : Int) % 4294967296) % 4294967296) = u32v (step h b) := by rw [u32v, step_val]
theorem more_any (h : UInt32) (s : ByteArray) (w : World) (hs : s.size ≤ 9223372036854775807) :
  Calls Tryz.prog 206 #[u32v h, .string s] w fun e w' => e = .returned (u32v (hashFrom h s.data.toList)) ∧ w = w' := by
 go_enter Tryz.func206, Tryz.ntmps206
 go_wp2
 go_loop [0, 5, 8] (fun t _ i => ∃ k : Nat, k ≤ s.size ∧ i = .int .i64 k ∧ t = u32v (hashFrom h (s.data.toList.take k))) (fun _ _ i => s.size - (intOf i).toNat)
 case atStart => exact ⟨0, Nat.zero_le _, rfl, rfl⟩
 case round =>
  obtain ⟨k, hk, rfl, rfl⟩ := hrel
  go_wp2
  ·
   have hlt : k < s.size := by assumption
   go_round
   case rel => exact ⟨k + 1, by omega, by go_num, by rw [hashFrom_take h _ k (by simpa using hlt)]; exact step_eq _ _⟩
   case measure => simp [intOf]; omega
  ·
   obtain rfl : k = s.size := by omega
   go_ret
   rw [List.take_of_length_le (by simp)]
   exact ⟨rfl, rfl⟩
theorem hash_any (s : ByteArray) (w : World) (hs : s.size ≤ 9223372036854775807) :
  Calls Tryz.prog 178 #[.string s] w fun e w' => e = .returned (u32v (hashFrom 5381 s.data.toList)) ∧ w = w' := by
 go_enter Tryz.func178, Tryz.ntmps178
 go_wp2_with (go_at_call 206; refine (more_any 5381 s _ hs).mono ?_; rintro e w' ⟨rfl, rfl⟩)
 go_ret
 exact ⟨rfl, rfl⟩
theorem rmore_any (h : UInt32) (s : ByteArray) (w : World) (hs : s.size ≤ 9223372036854775807) :
  Calls Tryz.prog 161 #[u32v h, .string s] w fun e w' => e = .returned (u32v (hashFrom h s.data.toList)) ∧ w = w' := by
 have h0 := h.toNat_lt
 go_enter Tryz.func161, Tryz.ntmps161
 go_wp2
 go_loop [5, 6] (fun t i => ∃ k : Nat, k ≤ s.size ∧ i = .int .i64 k ∧ t = .int .u64 ((hashFrom h (s.data.toList.take k)).toNat : Int)) (fun _ i => s.size - (intOf i).toNat)
 case atStart => exact ⟨0, Nat.zero_le _, rfl, by simp [hashFrom]⟩
 case round =>
  obtain ⟨k, hk, rfl, rfl⟩ := hrel
  have h32 := (hashFrom h (s.data.toList.take k)).toNat_lt
  have h8 : ∀ hk : k < s.size, s[k].toNat < 256 := fun hk => s[k].toNat_lt
  go_wp2
  ·
   have hlt : k < s.size := by assumption
   go_round
   case rel => exact ⟨k + 1, by omega, by go_num, by rw [hashFrom_take h _ k (by simpa using hlt), step_val]; have := h8 hlt; have e : s.data.toList[k]'(by simpa using hlt) = s[k] := rfl; rw [e]; congr 1; rw [IntKind.wrap_u64, IntKind.wrap_u64, tmod_of_emod]; omega⟩
   case measure => simp [intOf]; omega
  ·
   obtain rfl : k = s.size := by omega
   go_ret
   rw [List.take_of_length_le (by simp)]
   exact ⟨rfl, rfl⟩
theorem rhash_any (s : ByteArray) (w : World) (hs : s.size ≤ 9223372036854775807) :
  Calls Tryz.prog 98 #[.string s] w fun e w' => e = .returned (u32v (hashFrom 5381 s.data.toList)) ∧ w = w' := by
 go_enter Tryz.func98, Tryz.ntmps98
 go_wp2_with (go_at_call 161; refine (rmore_any 5381 s _ hs).mono ?_; rintro e w' ⟨rfl, rfl⟩)
 go_ret
 exact ⟨rfl, rfl⟩
/-! Bits of words. -/
def bit (k : Nat) : UInt64 := UInt64.ofNat (2 ^ k)
theorem pow64 (k : Nat) (hk : k < 64) : (2 : Int) ^ k < 18446744073709551616 ∧ 1 ≤ (2 : Int) ^ k := by
 have h1 : (2 : Nat) ^ k < 2 ^ 64 := Nat.pow_lt_pow_right (by omega) hk
 have h2 : 1 ≤ (2 : Nat) ^ k := Nat.one_le_two_pow
 have e : ((2 ^ k : Nat) : Int) = (2 : Int) ^ k := by simp
 omega
theorem bit_val (k : Nat) (hk : k < 64) : ((bit k).toNat : Int) = 2 ^ k := by
 have : (2 : Nat) ^ k < 2 ^ 64 := Nat.pow_lt_pow_right (by omega) hk
 have e : ((2 ^ k : Nat) : Int) = (2 : Int) ^ k := by simp
 rw [← e, bit, UInt64.toNat_ofNat', Nat.mod_eq_of_lt this]
theorem power_any (k : Nat) (w : World) (hk : k < 64) :
  Calls Tryz.prog 93 #[u32n k] w fun e w' => e = .returned (u64v (bit k)) ∧ w = w' := by
 go_enter Tryz.func93, Tryz.ntmps93
 go_wp2
 go_loop [3, 4] (fun t i => ∃ j : Nat, j ≤ k ∧ i = .int .u32 (j : Int) ∧ t = u64v (bit j)) (fun _ i => k - (intOf i).toNat)
 case atStart => exact ⟨0, Nat.zero_le _, rfl, rfl⟩
 case round =>
  obtain ⟨j, hj, rfl, rfl⟩ := hrel
  go_wp2
  ·
   have hlt : j < k := by assumption
   go_round
   case rel => exact ⟨j + 1, by omega, by go_num, by rw [u64v, bit_val (j + 1) (by omega), bit_val j (by omega), IntKind.wrap_u64]; have := pow64 (j + 1) (by omega); congr 1; omega⟩
   case measure => simp [intOf]; omega
  ·
   obtain rfl : j = k := by omega
   go_ret
   exact ⟨rfl, rfl⟩
theorem bit_nat (k : Nat) (hk : k < 64) : (bit k).toNat = 2 ^ k := by
 have := bit_val k hk
 have e : ((2 ^ k : Nat) : Int) = (2 : Int) ^ k := by simp
 omega
def has (x : UInt64) (k : Nat) : Bool := x.toNat.testBit k
theorem has_val (x : UInt64) (k : Nat) (hk : k < 64) : ((IntKind.u64.wrap ((x.toNat : Int) / ((bit k).toNat : Int))).tmod 2 == 1) = has x k := by
 rw [bit_nat k hk, IntKind.wrap_u64, tmod_of_emod, has, Nat.testBit_eq_decide_div_mod_eq]
 have h := x.toNat_lt
 have hd : x.toNat / 2 ^ k ≤ x.toNat := Nat.div_le_self _ _
 have e : (x.toNat : Int) / ((2 ^ k : Nat) : Int) = ((x.toNat / 2 ^ k : Nat) : Int) := by simp
 rw [e, Bool.eq_iff_iff]
 simp only [beq_iff_eq, decide_eq_true_eq]
 omega
theorem rhas_any (x : UInt64) (k : Nat) (w : World) (hk : k < 64) :
  Calls Tryz.prog 92 #[u64v x, u32n k] w fun e w' => e = .returned (.bool (has x k)) ∧ w = w' := by
 have hb := hD (has_val x k hk)
 have h1 : (1 : Int) ≤ ((bit k).toNat : Int) := by rw [bit_val k hk]; exact (pow64 _ hk).2
 have h2 := x.toNat_lt
 go_enter Tryz.func92, Tryz.ntmps92
 go_wp2_with (go_at_call 93; refine (power_any k _ hk).mono ?_; rintro e w' ⟨rfl, rfl⟩)
 go_ret
 rw [← hb.out]
 exact ⟨rfl, rfl⟩
theorem or_bit (x : UInt64) (k : Nat) (hk : k < 64) (h : has x k = true) : x ||| bit k = x := by
 apply UInt64.toNat_inj.1
 rw [UInt64.toNat_or, bit_nat k hk]
 apply Nat.eq_of_testBit_eq
 intro i
 rw [Nat.testBit_or, Nat.testBit_two_pow]
 by_cases hi : k = i
 ·
  subst hi; rw [show x.toNat.testBit k = true from h]; rfl
 ·
  simp [hi]
theorem add_bit (x : UInt64) (k : Nat) (hk : k < 64) (h : has x k = false) : x ||| bit k = x + bit k := by
 apply UInt64.toBitVec_inj.1
 rw [UInt64.toBitVec_or, UInt64.toBitVec_add, BitVec.add_eq_or_of_and_eq_zero]
 apply BitVec.eq_of_toNat_eq
 rw [BitVec.toNat_and]
 show x.toNat &&& (bit k).toNat = 0
 rw [bit_nat k hk, nat_bit]
 rw [has, Nat.testBit_eq_decide_div_mod_eq] at h
 have : ¬ (x.toNat / 2 ^ k % 2 = 1) := by simpa using h
 have : x.toNat / 2 ^ k % 2 = 0 := by omega
 rw [this]
 simp
theorem rwith_any (x : UInt64) (k : Nat) (w : World) (hk : k < 64) :
  Calls Tryz.prog 25 #[u64v x, u32n k] w fun e w' => e = .returned (u64v (x ||| bit k)) ∧ w = w' := by
 by_cases h : has x k = true
 ·
  have H := hD h
  go_enter Tryz.func25, Tryz.ntmps25
  go_wp2_with (go_at_call 92; refine (rhas_any x k _ hk).mono ?_; rw [H.out]; rintro e w' ⟨rfl, rfl⟩)
  go_ret
  rw [or_bit x _ hk h]
  exact ⟨rfl, rfl⟩
 ·
  have h' : has x k = false := by simpa using h
  have H := hD h'
  clear h h'
  go_enter Tryz.func25, Tryz.ntmps25
  go_wp2_with (first
   | (go_at_call 92; refine (rhas_any x k _ hk).mono ?_; rw [H.out]; rintro e w' ⟨rfl, rfl⟩)
   | (go_at_call 93; refine (power_any k _ hk).mono ?_; rintro e w' ⟨rfl, rfl⟩))
  go_ret
  have e : u64v (x + bit k) = Value.int .u64 (IntKind.u64.wrap ((x.toNat : Int) + ((bit k).toNat : Int))) := by
   rw [u64v, IntKind.wrap_u64, UInt64.toNat_add]
   congr 1
  rw [add_bit x _ hk H.out, e]
  exact ⟨rfl, rfl⟩
theorem half {a b : Nat} (hx : a / 2 ^ b < 4294967296) : Value.int .u32 (((a : Int) / 2 ^ b).tdiv 2 % 4294967296) = .int .u32 ((a / 2 ^ b / 2 : Nat) : Int) := by
 have e : (a : Int) / 2 ^ b = ((a / 2 ^ b : Nat) : Int) := by simp
 rw [e, Int.tdiv_eq_ediv_of_nonneg (Int.natCast_nonneg _)]
 generalize a / 2 ^ b = z at hx ⊢
 congr 1
 omega
theorem rshifted_any (h : UInt32) (s : Int) (w : World) (hs : 0 ≤ s) (hs2 : s ≤ 31) :
  Calls Tryz.prog 26 #[u32v h, .int .i64 s] w fun e w' => e = .returned (.int .u32 ((h.toNat / 2 ^ s.toNat : Nat) : Int)) ∧ w = w' := by
 have h32 := h.toNat_lt
 go_enter Tryz.func26, Tryz.ntmps26
 go_wp2
 go_loop [0, 5] (fun t i => ∃ j : Nat, j ≤ s.toNat ∧ i = .int .i64 (j : Int) ∧ t = .int .u32 ((h.toNat / 2 ^ j : Nat) : Int)) (fun _ i => s.toNat - (intOf i).toNat)
 case atStart => exact ⟨0, Nat.zero_le _, rfl, by simp⟩
 case round =>
  obtain ⟨j, hj, rfl, rfl⟩ := hrel
  have hd : h.toNat / 2 ^ j ≤ h.toNat := Nat.div_le_self _ _
  have hd' : h.toNat / 2 ^ j < 4294967296 := by omega
  have hn : (h.toNat / 2 ^ (j + 1) : Nat) = (h.toNat / 2 ^ j) / 2 := by rw [Nat.pow_succ, ← Nat.div_div_eq_div_mul]
  have HN := hD hn
  clear hn
  go_wp2
  ·
   have hlt : (j : Int) < s := by assumption
   go_round
   case rel => exact ⟨j + 1, by omega, by go_num, by rw [HN.out]; exact half hd'⟩
   case measure => simp [intOf]; omega
  ·
   obtain rfl : j = s.toNat := by omega
   go_ret
   exact ⟨rfl, rfl⟩
def pow7 (n : Int) : Bool := decide (n = 1 ∨ n = 2 ∨ n = 4 ∨ n = 8 ∨ n = 16 ∨ n = 32 ∨ n = 64)
def formB (n s : Int) : Bool := pow7 n && (decide (1 ≤ s) && decide (s ≤ 31))
theorem pow_all : ∀ k : Fin 65, 0 < k.val → (bits .and .i64 (k.val : Int) ((k.val : Int) - 1) == 0) = pow7 (k.val : Int) := by decide +kernel
theorem pow_and (n : Int) (h0 : 0 < n) (h1 : n ≤ 64) : (bits .and .i64 n (n - 1) == 0) = pow7 n := by
 have := pow_all ⟨n.toNat, by omega⟩ (by simp; omega)
 simpa [show ((n.toNat : Nat) : Int) = n by omega] using this
theorem pow_big (n : Int) (h : ¬ (0 < n ∧ n ≤ 64)) : pow7 n = false := by
 simp [pow7]
 omega
theorem isForm_any (n s : Int) (w : World) (hn : -9223372036854775808 ≤ n ∧ n ≤ 9223372036854775807) : Calls Tryz.prog 202 #[.int .i64 n, .int .i64 s] w fun e w' => e = .returned (.bool (formB n s)) ∧ w = w' := by
 by_cases h0 : 0 < n
 ·
  by_cases h1 : n ≤ 64
  ·
   have hb : (bits .and .i64 n (n - 1) == 0) = pow7 n := pow_and n h0 h1
   cases hp : pow7 n
   ·
    rw [hp] at hb
    go_enter Tryz.func202, Tryz.ntmps202
    go_wp2
    go_ret
    simp [formB, hp]
   ·
    rw [hp] at hb
    by_cases h2 : 1 ≤ s
    ·
     go_enter Tryz.func202, Tryz.ntmps202
     go_wp2
     go_ret
     simp [formB, hp, h2]
    ·
     go_enter Tryz.func202, Tryz.ntmps202
     go_wp2
     go_ret
     have h3 : decide (1 ≤ s) = false := by simpa using h2
     simp only [formB, h3]
     simp
  ·
   have hp := hD (pow_big n (by omega))
   go_enter Tryz.func202, Tryz.ntmps202
   go_wp2
   all_goals
    go_ret
    simp [formB, hp.out]
 ·
  have hp := hD (pow_big n (by omega))
  go_enter Tryz.func202, Tryz.ntmps202
  go_wp2
  go_ret
  simp [formB, hp.out]
theorem rWords_any (n : Int) (w : World) : Calls Tryz.prog 191 #[.int .i64 n] w fun e w' => e = .returned (.bool (pow7 n)) ∧ w = w' := by
 go_enter Tryz.func191, Tryz.ntmps191
 go_wp2
 go_loop [3] (fun t => (t = .int .i64 1) ∨ (t = .int .i64 2 ∧ n ≠ 1) ∨ (t = .int .i64 4 ∧ n ≠ 1 ∧ n ≠ 2) ∨ (t = .int .i64 8 ∧ n ≠ 1 ∧ n ≠ 2 ∧ n ≠ 4) ∨ (t = .int .i64 16 ∧ n ≠ 1 ∧ n ≠ 2 ∧ n ≠ 4 ∧ n ≠ 8) ∨ (t = .int .i64 32 ∧ n ≠ 1 ∧ n ≠ 2 ∧ n ≠ 4 ∧ n ≠ 8 ∧ n ≠ 16) ∨ (t = .int .i64 64 ∧ n ≠ 1 ∧ n ≠ 2 ∧ n ≠ 4 ∧ n ≠ 8 ∧ n ≠ 16 ∧ n ≠ 32) ∨ (t = .int .i64 128 ∧ n ≠ 1 ∧ n ≠ 2 ∧ n ≠ 4 ∧ n ≠ 8 ∧ n ≠ 16 ∧ n ≠ 32 ∧ n ≠ 64)) (fun t => 128 - (intOf t).toNat)
 case atStart => exact .inl rfl
 case round =>
  rcases hrel with rfl | ⟨rfl, n1⟩ | ⟨rfl, n1, n2⟩ | ⟨rfl, n1, n2, n4⟩ | ⟨rfl, n1, n2, n4, n8⟩ | ⟨rfl, n1, n2, n4, n8, n16⟩ | ⟨rfl, n1, n2, n4, n8, n16, n32⟩ | ⟨rfl, n1, n2, n4, n8, n16, n32, n64⟩
  ·
   by_cases hp : n = 1
   ·
    subst hp
    go_wp2
    go_ret
    exact ⟨rfl, rfl⟩
   ·
    go_wp2
    go_round
    case rel => simp [hp]
    case measure => simp [intOf]
  ·
   by_cases hp : n = 2
   ·
    subst hp
    go_wp2
    go_ret
    exact ⟨rfl, rfl⟩
   ·
    go_wp2
    go_round
    case rel => simp [hp, n1]
    case measure => simp [intOf]
  ·
   by_cases hp : n = 4
   ·
    subst hp
    go_wp2
    go_ret
    exact ⟨rfl, rfl⟩
   ·
    go_wp2
    go_round
    case rel => simp [hp, n1, n2]
    case measure => simp [intOf]
  ·
   by_cases hp : n = 8
   ·
    subst hp
    go_wp2
    go_ret
    exact ⟨rfl, rfl⟩
   ·
    go_wp2
    go_round
    case rel => simp [hp, n1, n2, n4]
    case measure => simp [intOf]
  ·
   by_cases hp : n = 16
   ·
    subst hp
    go_wp2
    go_ret
    exact ⟨rfl, rfl⟩
   ·
    go_wp2
    go_round
    case rel => simp [hp, n1, n2, n4, n8]
    case measure => simp [intOf]
  ·
   by_cases hp : n = 32
   ·
    subst hp
    go_wp2
    go_ret
    exact ⟨rfl, rfl⟩
   ·
    go_wp2
    go_round
    case rel => simp [hp, n1, n2, n4, n8, n16]
    case measure => simp [intOf]
  ·
   by_cases hp : n = 64
   ·
    subst hp
    go_wp2
    go_ret
    exact ⟨rfl, rfl⟩
   ·
    go_wp2
    go_round
    case rel => simp [hp, n1, n2, n4, n8, n16, n32]
    case measure => simp [intOf]
  ·
   go_wp2
   go_ret
   have : pow7 n = false := by simp [pow7, n1, n2, n4, n8, n16, n32, n64]
   rw [this]
   exact ⟨rfl, rfl⟩
end Go.Proofs.YtfljignkjmabpaaGreat.Siv
namespace Go.Proofs.YtfljignkjmabpaaGreat
set_option maxRecDepth 100000
open Go.ChangeShapes Go.WideShapes Go.ChangeAt Go.RowKit Go.Deep
theorem Tryz.own : ownKnob Tryz.prog.godebug = none := by kernel_rfl
theorem Tryz.laidOut : laidOutB Tryz.prog = true := by kernel_rfl
def I64 (n : Int) : Prop := -9223372036854775808 ≤ n ∧ n ≤ 9223372036854775807
theorem u8_of_wf {n : Int} (h : (Lit.int .u8 n).wf = true) : n = ((UInt8.ofNat n.toNat).toNat : Int) := by
 simp [Lit.wf, IntKind.min, IntKind.max, IntKind.signed, IntKind.bits] at h
 rw [UInt8.toNat_ofNat', Nat.mod_eq_of_lt (by omega)]
 omega
section
variable {H : Type}
def Sized (t : TypeId) (d : DataW H) : Prop := ∀ x ∈ d.weights Tryz.prog t, x ≤ reachBytes
theorem sized_arg {ts : List TypeId} {ds : List (DataW H)} (h : (DataW.weightsEach Tryz.prog ts ds).all (· ≤ reachBytes) = true) {j : Nat} {t : TypeId} {d : DataW H} (ht : ts[j]? = some t) (hd : ds[j]? = some d) : Sized t d := fun x hx => by
 have := List.all_eq_true.1 h _ (DataW.weights_mem_each ht hd x hx)
 simpa using this
theorem Sized.len {t e : TypeId} {es sp : List (DataW H)} (h : Sized t (.slice es sp)) (hu : Tryz.prog.underlying t = some (.slice e)) : (es.length + sp.length) * Tryz.prog.bytesOf e ≤ reachBytes := by
 refine h _ ?_
 simp [DataW.weights, hu]
end
section
variable {H : Type} {enc : TypeId × Value → H} {W : World}
theorem open_nums {k : IntKind} {t e : TypeId} (ht : Tryz.prog.underlying t = some (.slice e)) (he : Tryz.prog.underlying e = some (.int k)) (hc : Tryz.prog.cellsOf e = 1) {a : Option Addr} {n c : Nat} {d : DataW H} {p : List MemPlace}
  (h : DataW.Trod enc Tryz.prog W 0 (fun _ => true) true t (.slice a n c) d p) :
  ∃ zs : List Int, Src W (fun k => k < W.heap.size) a n c (zs.map (Value.int k)) ∧ (∀ z ∈ zs, (Lit.int k z).wf = true) ∧ (n = 0 ∨ ∃ es sp, d = .slice es sp ∧ es.length = n) ∧ c ≤ 9223372036854775807 := by
 obtain ⟨fuel, hf⟩ := h
 rcases open_ints ht he hc hf with ⟨hcs, hx⟩ | ⟨a0, len, cap, zs, hcs, _, hl, hm, hz, hx, hcell, hw⟩
 ·
  simp [Value.cells] at hcs
  obtain ⟨rfl, rfl, rfl⟩ := hcs
  exact ⟨[], ⟨rfl, fun _ => ⟨rfl, rfl⟩, Nat.le_refl _, (by intro ad h; cases h), (by intro ad h; cases h)⟩, (by intro z hz; cases hz), .inl rfl, by omega⟩
 ·
  simp [Value.cells] at hcs
  obtain ⟨rfl, rfl, rfl⟩ := hcs
  simp only [if_true] at hz
  have hlz : (zs.take n).length = n := by rw [List.length_take]; omega
  have hx' : d = .slice (lits k (zs.take n)) (lits k (zs.drop n)) := by injection hx
  refine ⟨zs.take n, ⟨by simp; omega, (by intro h; cases h), hl, ?_, ?_⟩, fun z hz => hw z (List.mem_of_mem_take hz), .inr ⟨_, _, hx', by simp [lits]; omega⟩, by simpa [maxLen] using hm⟩
  ·
   intro ad h h0
   cases h
   have := World.block_lt_of_cell? W _ (hcell 0 (by omega))
   rw [addBlock] at this
   exact this
  ·
   intro ad h j u hu
   cases h
   have hj : j < n := by have := (List.getElem?_eq_some_iff.1 hu).1; simp at this; omega
   have hjz : j < zs.length := by omega
   rw [hcell j hjz, ← hu]
   simp [hj, List.getD, hjz]
theorem sized_len {t e : TypeId} {n b : Nat} {d : DataW H} (hs : Sized t d) (hu : Tryz.prog.underlying t = some (.slice e)) (hb : Tryz.prog.bytesOf e = b) (hl : n = 0 ∨ ∃ es sp, d = .slice es sp ∧ es.length = n) : n * b ≤ 140737488351232 := by
 rcases hl with rfl | ⟨es, sp, rfl, rfl⟩
 ·
  omega
 ·
  have h1 := hs.len hu
  rw [hb] at h1
  simp only [reachBytes] at h1
  have : es.length * b ≤ (es.length + sp.length) * b := Nat.mul_le_mul_right _ (by omega)
  omega
theorem addAdd (a : Addr) (i j : Nat) : (a.add i).add j = a.add (i + j) := by
 unfold Addr.add
 by_cases hi : i = 0 <;> by_cases hj : j = 0 <;> simp [hi, hj, Nat.add_assoc]
end
end Go.Proofs.YtfljignkjmabpaaGreat
