/-
  What a step leaves as it was: plain facts of registers and memory; an instruction that was laid is the one that is fetched.
-/
import Derived.Test.YtfkhfjefddgkoaaDoorZQt
import Derived.Test.YtfkhfjefddgkoaaDoorZSBw
namespace Go.Proofs.YtfkhfjefddgkoaaDoor.Cod
open Go.RowKit

theorem sum4 (q : Nat) (h : q < 4294967296) : q % 256 + q / 256 % 256 * 256 + q / 65536 % 256 * 65536 + q / 16777216 % 256 * 16777216 = q := by
  have e1 : q / 65536 = q / 256 / 256 := by rw [Nat.div_div_eq_div_mul]
  have e2 : q / 16777216 = q / 256 / 256 / 256 := by rw [Nat.div_div_eq_div_mul, Nat.div_div_eq_div_mul]
  rw [e1, e2]
  have h0 := Nat.div_add_mod q 256
  have h1 := Nat.div_add_mod (q / 256) 256
  have h2 := Nat.div_add_mod (q / 256 / 256) 256
  have h3 : q / 256 / 256 / 256 < 256 := by omega
  rw [Nat.mod_eq_of_lt h3]
  omega
theorem m4_bytes (n : Int) : (m4 (u8i n) (u8i (n % 4294967296 / 256)) (u8i (n % 4294967296 / 65536)) (u8i (n % 4294967296 / 16777216)) : Int) = n % 4294967296 := by
  obtain ⟨q, hq⟩ : ∃ q : Nat, n % 4294967296 = q := ⟨(n % 4294967296).toNat, by have := Int.emod_nonneg n (show (4294967296 : Int) ≠ 0 by decide); omega⟩
  have hlt : q < 4294967296 := by have := Int.emod_lt_of_pos n (show (0 : Int) < 4294967296 by decide); omega
  have h0 : n % 256 = (q : Int) % 256 := by rw [← hq, Int.emod_emod_of_dvd n (show (256 : Int) ∣ 4294967296 by decide)]
  have k0 : (u8i n).toNat = q % 256 := by have := u8i_val n; omega
  rw [hq]
  have k1 : (u8i ((q : Int) / 256)).toNat = q / 256 % 256 := by have := u8i_val ((q : Int) / 256); omega
  have k2 : (u8i ((q : Int) / 65536)).toNat = q / 65536 % 256 := by have := u8i_val ((q : Int) / 65536); omega
  have k3 : (u8i ((q : Int) / 16777216)).toNat = q / 16777216 % 256 := by have := u8i_val ((q : Int) / 16777216); omega
  unfold m4
  rw [k0, k1, k2, k3, sum4 q hlt]
theorem n4_bytes (n : Int) (h1 : -2147483648 ≤ n) (h2 : n ≤ 2147483647) : n4 (u8i n) (u8i (n % 4294967296 / 256)) (u8i (n % 4294967296 / 65536)) (u8i (n % 4294967296 / 16777216)) = n := by
  have h := m4_bytes n
  unfold n4
  generalize m4 (u8i n) (u8i (n % 4294967296 / 256)) (u8i (n % 4294967296 / 65536)) (u8i (n % 4294967296 / 16777216)) = m at *
  split <;> omega
theorem u8i_small (n : Int) (h1 : 0 ≤ n) (h2 : n < 256) : ((u8i n).toNat : Int) = n := by
  rw [u8i_val]
  omega
theorem may_small {i : Ins} (h : mayB i = true) : (0 ≤ i.op ∧ i.op < 23) ∧ -2147483648 ≤ i.n ∧ i.n ≤ 2147483647 := by
  constructor
  · by_cases ho : i.op < 0 ∨ 23 ≤ i.op
    · rw [mayB, shapeOf_out ho] at h; cases h
    · omega
  · unfold mayB at h
    split at h
    · cases h
    · rw [Bool.and_eq_true] at h
      have := h.2
      unfold numOk at this
      split at this
      · simp only [Bool.and_eq_true, decide_eq_true_eq] at this
        omega
      · have h0 : i.n = 0 := by simpa using this
        omega
theorem dec_bytes {i : Ins} (h : mayB i = true) (h3 : (0 ≤ i.a ∧ i.a < 16) ∧ (0 ≤ i.b ∧ i.b < 16) ∧ (0 ≤ i.c ∧ i.c < 16)) : decI (bytesOf i) = [i] := by
  obtain ⟨⟨o1, o2⟩, n1, n2⟩ := may_small h
  have e : insOf (u8i i.op) (u8i i.a) (u8i i.b) (u8i i.c) (u8i i.n) (u8i (i.n % 4294967296 / 256)) (u8i (i.n % 4294967296 / 65536)) (u8i (i.n % 4294967296 / 16777216)) = i :=
    Ins.ext' (u8i_small _ o1 (by omega)) (u8i_small _ h3.1.1 (by omega)) (u8i_small _ h3.2.1.1 (by omega)) (u8i_small _ h3.2.2.1 (by omega)) (n4_bytes _ n1 n2)
  exact congrArg (fun x => [x]) e
end Go.Proofs.YtfkhfjefddgkoaaDoor.Cod
namespace Go.Proofs.YtfkhfjefddgkoaaDoor
open Go.RowKit

/-- How many of the first n registers two contexts have apart. -/
def difs (c d : Cx) : Nat → Nat
  | 0 => 0
  | n + 1 => difs c d n + (if c.reg (n : Int) = d.reg (n : Int) then 0 else 1)
theorem difs_zero {c d : Cx} : ∀ n, (∀ k : Nat, k < n → c.reg (k : Int) = d.reg (k : Int)) → difs c d n = 0
  | 0, _ => rfl
  | n + 1, h => by
    unfold difs
    rw [difs_zero n fun k hk => h k (by omega), if_pos (h n (by omega))]
theorem difs_one {c d : Cx} (a : Nat) (h : ∀ k : Nat, k ≠ a → c.reg (k : Int) = d.reg (k : Int)) : ∀ n, difs c d n ≤ if a < n then 1 else 0
  | 0 => by simp [difs]
  | n + 1 => by
    have ih := difs_one a h n
    unfold difs
    by_cases hn : n = a
    · subst hn
      rw [if_neg (by omega)] at ih
      have e : (if n < n + 1 then 1 else 0) = 1 := if_pos (by omega)
      rw [e]
      split <;> omega
    · rw [if_pos (h n hn)]
      split at ih
      · rw [if_pos (by omega)]; omega
      · rw [if_neg (by omega)]; omega
theorem reg_ne (c : Cx) (a v : Int) (k : Nat) (h : k ≠ a.toNat) : (c.put a v).reg (k : Int) = c.reg (k : Int) := by
  unfold Cx.put Cx.reg
  simp only [Int.toNat_natCast, List.getD_eq_getElem?_getD, List.getElem?_set]
  rw [if_neg (fun e => h e.symm)]
/-- What an instruction leaves: the thread pointer, all registers but one; of a store or a call the first fifteen, and of any other the memory. -/
structure Stays (ss : List Seg) (c : Cx) (op : Int) (d : Cx) (s2 : List Seg) : Prop where
  tp : d.tp = c.tp
  one : ∃ a : Nat, ∀ k : Nat, k ≠ a → d.reg (k : Int) = c.reg (k : Int)
  none : op = 10 ∨ op = 15 ∨ op = 16 → ∀ k : Nat, k < 15 → d.reg (k : Int) = c.reg (k : Int)
  mem : ¬ (op = 10 ∨ op = 15 ∨ op = 16) → s2 = ss
theorem Stays.same (ss : List Seg) (c : Cx) (op : Int) : Stays ss c op c ss := ⟨rfl, ⟨0, fun _ _ => rfl⟩, fun _ _ _ => rfl, fun _ => rfl⟩
theorem Stays.to (ss : List Seg) (c : Cx) (op v : Int) : Stays ss c op (c.to v) ss := ⟨rfl, ⟨0, fun _ _ => rfl⟩, fun _ _ _ => rfl, fun _ => rfl⟩
theorem put_to (c : Cx) (a v t : Int) (ha : a.toNat = 15) : (((c.put a v).to t).tp = c.tp) ∧ (∃ b : Nat, ∀ k : Nat, k ≠ b → ((c.put a v).to t).reg (k : Int) = c.reg (k : Int)) ∧ ∀ k : Nat, k < 15 → ((c.put a v).to t).reg (k : Int) = c.reg (k : Int) :=
  ⟨rfl, ⟨15, fun k hk => reg_ne c a v k (by rw [ha]; exact hk)⟩, fun k hk => reg_ne c a v k (by rw [ha]; omega)⟩
theorem call_stays (ss : List Seg) (c : Cx) (op t : Int) (h : op = 15 ∨ op = 16) : Stays ss c op (callM ss c t).2.1 (callM ss c t).2.2 := by
  obtain ⟨h1, h2, h3⟩ := put_to c 15 (w64 (c.reg 15 - 8)) t rfl
  unfold callM
  exact ⟨h1, h2, fun _ => h3, fun hn => absurd (by omega) hn⟩
theorem jump_stays (ss : List Seg) (c : Cx) (i : Ins) : Stays ss c i.op (jumpM ss c i).2.1 (jumpM ss c i).2.2 := by
  unfold jumpM
  split
  · exact Stays.to ..
  split
  · show Stays ss c i.op (if c.reg i.a = 0 then c.to (w64 (c.pc + i.n)) else c) ss
    split
    · exact Stays.to ..
    · exact Stays.same ..
  split
  · exact Stays.to ..
  split
  · rename_i h; exact call_stays ss c _ _ (.inl h)
  split
  · rename_i h; exact call_stays ss c _ _ (.inr h)
  · obtain ⟨h1, h2, h3⟩ := put_to c 15 (w64 (c.reg 15 + 8)) (wordS ss (c.reg 15) 1) rfl
    unfold retM
    exact ⟨h1, h2, fun _ => h3, fun _ => rfl⟩
theorem exec_stays (ss : List Seg) (c : Cx) (i : Ins) : Stays ss c i.op (execM ss c i).2.2.1 (execM ss c i).2.2.2 := by
  unfold execM
  split
  · exact Stays.same ..
  split
  · exact Stays.same ..
  split
  · exact Stays.same ..
  split
  · rename_i h
    exact ⟨rfl, ⟨0, fun _ _ => rfl⟩, fun _ _ _ => rfl, fun hn => absurd (.inl h) hn⟩
  split
  · exact jump_stays ss c i
  · rename_i h1 h2
    refine ⟨rfl, ⟨i.a.toNat, fun k hk => reg_ne c i.a _ k hk⟩, fun ho => ?_, fun _ => rfl⟩
    rcases ho with h | h | h
    · exact absurd h h1
    · exact absurd (by rw [h]; rfl) h2
    · exact absurd (by rw [h]; rfl) h2
theorem step_stays {ss : List Seg} {c : Cx} {i : Ins} (hp : c.pc ≠ 0) (hi : instM ss c = (0, some i)) :
    (stepM ss c).1.kind ≠ 1 ∧ (stepM ss c).1.kind ≠ 6 ∧ Stays ss c i.op (stepM ss c).2.1 (stepM ss c).2.2 := by
  have hx := exec_stays ss (c.to (w64 (c.pc + 8))) i
  have hk := exec_kind ss (c.to (w64 (c.pc + 8))) i
  have e : stepM ss c = if (execM ss (c.to (w64 (c.pc + 8))) i).2.1 = 0 then ((execM ss (c.to (w64 (c.pc + 8))) i).1, (execM ss (c.to (w64 (c.pc + 8))) i).2.2.1, (execM ss (c.to (w64 (c.pc + 8))) i).2.2.2)
      else (trapE (execM ss (c.to (w64 (c.pc + 8))) i).2.1, c, (execM ss (c.to (w64 (c.pc + 8))) i).2.2.2) := by simp [stepM, hp, hi]
  rw [e]
  split
  · exact ⟨hk.2.1, hk.2.2.1, ⟨hx.tp, hx.one, hx.none, hx.mem⟩⟩
  · refine ⟨(by intro h; cases h), (by intro h; cases h), ⟨rfl, ⟨0, fun _ _ => rfl⟩, fun _ _ _ => rfl, fun hn => hx.mem hn⟩⟩
theorem stays_many {ss : List Seg} {c d : Cx} {op : Int} {s2 : List Seg} (h : Stays ss c op d s2) : difs d c 15 ≤ 1 ∧ (op = 10 ∨ op = 15 ∨ op = 16 → difs d c 15 = 0) := by
  obtain ⟨a, ha⟩ := h.one
  refine ⟨?_, fun ho => difs_zero 15 (h.none ho)⟩
  have := difs_one a ha 15
  split at this <;> omega
theorem mapAt_new {ss : List Seg} {a s p : Int} (h : (mapAtS ss a s p).1 = 0) : (mapAtS ss a s p).2 = insS (newS a (up s) p) ss := by
  unfold mapAtS at h ⊢
  split
  · rename_i h1
    rw [if_pos h1] at h
    split
    · rfl
    · rename_i h2; rw [if_neg h2] at h; cases h
  · rename_i h1; rw [if_neg h1] at h; cases h
/-- An instruction that is laid where a region was mapped is the one that is fetched. -/
theorem inst_laid {ss : List Seg} {c : Cx} {i : Ins} (hm : (mapAtS ss 1048576 64 7).1 = 0) (hg : Good (mapAtS ss 1048576 64 7).2) (hp : c.pc = 1048576) (hi : Cod.mayB i = true) :
    instM (storeS (mapAtS ss 1048576 64 7).2 1048576 (Cod.bytesOf i) 0).2 c = (0, some i) := by
  rw [mapAt_new hm] at hg ⊢
  have hl : (Cod.bytesOf i).length = 8 := rfl
  have hh : holdS (insS (newS 1048576 (up 64) 7) ss) 1048576 8 = some (newS 1048576 (up 64) 7) := hold_mem hg (mem_ins _ _) (by decide) (Int.le_refl _) (by show (1048576 : Int) + 8 ≤ 1048576 + up 64; decide)
  have h0 : goesS (insS (newS 1048576 (up 64) 7) ss) 1048576 8 0 = 0 := by
    unfold goesS
    rw [if_neg (by decide), hh]
    exact if_pos (and_zero _)
  have h4 : goesS (insS (newS 1048576 (up 64) 7) ss) 1048576 8 4 = 0 := by
    unfold goesS
    rw [if_neg (by decide), hh]
    exact if_pos (by decide)
  have hst : storeS (insS (newS 1048576 (up 64) 7) ss) 1048576 (Cod.bytesOf i) 0 = (0, putS (insS (newS 1048576 (up 64) 7) ss) 1048576 (Cod.bytesOf i)) := by
    unfold storeS
    rw [hl]
    exact if_pos h0
  have hgot : gotS (putS (insS (newS 1048576 (up 64) 7) ss) 1048576 (Cod.bytesOf i)) 1048576 8 = Cod.bytesOf i := put_got (ms := Cod.bytesOf i) (need := 0) h0
  rw [hst]
  unfold instM
  rw [hp, put_goes, if_pos h4, hgot, Cod.dec_bytes hi (by obtain ⟨op, a, b, c, n⟩ := i; exact may_regs hi)]
  simp [hi]
end Go.Proofs.YtfkhfjefddgkoaaDoor
