/- A part of the proof. -/
import Derived.Test.YtfljignkjmabpaaGreatZOp
import Derived.Deep.RegionHeld
import Derived.Laws.Bits64b
set_option linter.unusedSimpArgs false
set_option linter.unusedVariables false
namespace Go.Proofs.YtfljignkjmabpaaGreat
set_option maxRecDepth 100000
open Go.RowKit
section
variable {P : Program} {ops : Array Oper} {Q : Exit → Act → World → Prop} {md : Region.Mode} {S : World → Prop} {z : Nat}
def UpTo (P : Program) (md : Region.Mode) (ops : Array Oper) (Q : Exit → Act → World → Prop) (S : World → Prop) (z : Nat) : Nat → Array Bool → Act → World → Prop
 | 0, listed, a, w => Region.ready md ops listed = [] ∧ Q .normal a w
 | n + 1, listed, a, w => (Region.ready md ops listed = [] → Q .normal a w) ∧
  ∀ i ∈ Region.ready md ops listed, wpOp P ops Q i (fun a' w' => (i ≠ z → S w') ∧ UpTo P md ops Q S z n (listed.setIfInBounds i true) a' w') a w
theorem UpTo.any : ∀ (n : Nat) (listed : Array Bool) (a : Act) (w : World), UpTo P md ops Q S z n listed a w → wpAny P md ops Q n listed a w
 | 0, _, _, _, h => h
 | n + 1, _, _, _, h => ⟨h.1, fun i hi => wpOp_mono (fun _ _ k => UpTo.any n _ _ _ k.2) (h.2 i hi)⟩
def waits (md : Region.Mode) (ops : Array Oper) (z i : Nat) : Bool := ((ops[z]?).map fun o => o.after.any fun e => Region.binds md e && e.on == i).getD false
theorem waits_ne {i j : Nat} {o : Oper} (h : waits md ops z i = true) (ho : ops[j]? = some o) (hn : ∀ e ∈ o.after, Region.binds md e = true → e.on ≠ i) : j ≠ z := by
 rintro rfl
 unfold waits at h
 rw [ho] at h
 simp only [Option.map_some, Option.getD_some, Array.any_eq_true'] at h
 obtain ⟨e, he, hb⟩ := h
 simp only [Bool.and_eq_true, beq_iff_eq] at hb
 exact hn e he hb.1 hb.2
theorem UpTo.first {i : Nat} {oi : Oper} {v : Value} (hi : ops[i]? = some oi) (hsel : ∀ (j : Nat) (o : Oper) cs b, ops[j]? = some o → o.op ≠ .select cs b)
  (hQ : ∀ c a w, Q (.panic c) (a.put oi.dst v) w → Q (.panic c) a w) (hz : waits md ops z i = true) :
  ∀ (n : Nat) (listed : Array Bool) (a : Act) (w : World),
   (∀ j oj, ops[j]? = some oj → j ≠ i → listed.getD j true = false → (∀ e ∈ oj.after, Region.binds md e = true → e.on ≠ i) → oi.apart ops oj = true) →
   i ∈ Region.ready md ops listed → YieldsIf P ops S oi v a → S w →
   UpTo P md ops Q S z n (listed.setIfInBounds i true) (a.put oi.dst v) w → UpTo P md ops Q S z (n + 1) listed a w := by
 intro n
 induction n with
 | zero =>
  intro listed a w _ hr hy hS H
  refine ⟨fun h => (by rw [h] at hr; cases hr), fun j hj => ?_⟩
  by_cases hji : j = i
  ·
   subst hji
   exact hy.wpOp hi hS ⟨fun _ => hS, H⟩
  ·
   have q := ready_mono hj hji
   rw [H.1] at q
   cases q
 | succ n ih =>
  intro listed a w hfree hr hy hS H
  refine ⟨fun h => (by rw [h] at hr; cases hr), fun j hj => ?_⟩
  by_cases hji : j = i
  ·
   subst hji
   exact hy.wpOp hi hS ⟨fun _ => hS, H⟩
  obtain ⟨hun, oj, hoj, hall⟩ := mem_ready.1 hj
  have hno : ∀ e ∈ oj.after, Region.binds md e = true → e.on ≠ i := by
   intro e he hb heq
   have h1 := hall e he hb
   have h0 := (mem_ready.1 hr).1
   rw [heq] at h1
   by_cases hl : i < listed.size
   ·
    simp [hl] at h0 h1
    rw [h0] at h1
    cases h1
   ·
    simp [Array.getElem?_eq_none (Nat.le_of_not_lt hl)] at h1
  have hjz : j ≠ z := waits_ne hz hoj hno
  have hap := hfree j oj hoj hji hun hno
  refine wpOp_mono ?_ (wpOp_putIf hoj hap (fun cs b => hsel i oi cs b hi) (fun cs b => hsel j oj cs b hoj) hQ hy (H.2 j (ready_mono hj hji)))
  rintro a' w' ⟨k1, k2, k3⟩
  refine ⟨fun _ => k2 hjz, ih _ a' w' (fun k ok hk hki hku hkn => ?_) (ready_mono hr (Ne.symm hji)) k1 (k2 hjz) ?_⟩
  ·
   refine hfree k ok hk hki ?_ hkn
   by_cases hjk : j = k
   ·
    subst hjk; exact hun
   ·
    rw [getD_set_ne true hjk] at hku; exact hku
  ·
   rw [Array.setIfInBounds_comm _ _ hji]
   exact k3
theorem UpTo.take {i : Nat} {oi : Oper} {d : Tmp} {v : Value} {n : Nat} {listed : Array Bool} {a : Act} {w : World} (hi : ops[i]? = some oi) (hd : oi.dst = some d)
  (hs : Region.noSelect ops = true) (hf : Region.free md ops listed i = true) (hr : (Region.ready md ops listed).contains i = true) (hz : waits md ops z i = true)
  (hQ : ∀ c a w, Q (.panic c) (a.put (some d) v) w → Q (.panic c) a w) (hy : YieldsIf P ops S oi v a) (hS : S w)
  (h : UpTo P md ops Q S z n (listed.setIfInBounds i true) (a.put (some d) v) w) : UpTo P md ops Q S z (n + 1) listed a w :=
 UpTo.first hi (Region.noSelect_spec hs) (by rw [hd]; exact hQ) hz n listed a w (Region.free_spec hi hf) (by simpa using hr) hy hS (by rw [hd]; exact h)
theorem UpTo.step {i : Nat} {oi : Oper} {n : Nat} {listed : Array Bool} {a : Act} {w : World} (hr : Region.ready md ops listed = [i]) (hi : ops[i]? = some oi)
  (h : ∀ K : Act → World → Prop, Shut (∀ a w, S w → (S w → UpTo P md ops Q S z n (listed.setIfInBounds i true) a w) → K a w) → if Region.wanted oi (yielded ops a.tmps) = true then Oper.wp P oi a w K Q else K (a.put oi.dst undef) w) :
  UpTo P md ops Q S z (n + 1) listed a w := by
 refine ⟨fun h => (by rw [hr] at h; cases h), fun j hj => ?_⟩
 rw [hr] at hj
 obtain rfl : j = i := by simpa using hj
 exact wpOp_step hi fun K hK => h K fun a w hS hW => hK a w ⟨fun _ => hS, hW hS⟩
theorem UpTo.last {oi : Oper} {n : Nat} {listed : Array Bool} {a : Act} {w : World} (hr : Region.ready md ops listed = [z]) (hi : ops[z]? = some oi) (hd : Region.ready md ops (listed.setIfInBounds z true) = [])
  (h : ∀ K : Act → World → Prop, Shut (∀ a w, Q .normal a w → K a w) → if Region.wanted oi (yielded ops a.tmps) = true then Oper.wp P oi a w K Q else K (a.put oi.dst undef) w) :
  UpTo P md ops Q S z (n + 1) listed a w := by
 refine ⟨fun h => (by rw [hr] at h; cases h), fun j hj => ?_⟩
 rw [hr] at hj
 obtain rfl : j = z := by simpa using hj
 refine wpOp_step hi fun K hK => h K fun a w hQ => hK a w ⟨fun h => absurd rfl h, ?_⟩
 cases n with
 | zero => exact ⟨hd, hQ⟩
 | succ n => exact ⟨fun _ => hQ, (by rw [hd]; simp)⟩
theorem UpTo.region {id : Nat} {a : Act} {w : World} (z : Nat) (S : World → Prop) (hm : P.follows .mixedOrders = true) (hS : S w.drew)
  (h : S w.drew → UpTo P .any ops Q S z ops.size (Array.replicate ops.size false) a w.drew) : (Code.region id ops true).wp P Q a w :=
 wp_region_any hm (UpTo.any _ _ _ _ (h hS))
end
theorem tV {P : Program} {ops : Array Oper} {Q : Exit → Act → World → Prop} {md : Region.Mode} {S : World → Prop} {z : Nat} {oi : Oper} {n : Nat} {listed : Array Bool} {a : Act} {w : World} (i : Nat) (d : Tmp) (v : Value) (h : ∀ w, S w → (execOp a.eval oi).run P w = .ok (.value v) w)
  (hk : UpTo P md ops Q S z n (listed.setIfInBounds i true) (a.put (some d) v) w) (hi : ops[i]? = some oi := by exact rfl) (hd : oi.dst = some d := by exact rfl) (hs : Region.noSelect ops = true := by kernel_rfl) (hf : Region.free md ops listed i = true := by kernel_rfl)
  (hr : (Region.ready md ops listed).contains i = true := by kernel_rfl) (hz : waits md ops z i = true := by kernel_rfl) (hQ : ∀ c a w, Q (.panic c) (a.put (some d) v) w → Q (.panic c) a w := by exact fun _ _ _ h => h) (hg : Region.wanted oi (yielded ops a.tmps) = true := by rfl) (hS : S w := by assumption) : UpTo P md ops Q S z (n + 1) listed a w :=
 UpTo.take hi hd hs hf hr hz hQ (.inl ⟨hg, h⟩) hS hk
theorem tU {P : Program} {ops : Array Oper} {Q : Exit → Act → World → Prop} {md : Region.Mode} {S : World → Prop} {z : Nat} {oi : Oper} {n : Nat} {listed : Array Bool} {a : Act} {w : World} (i : Nat) (d : Tmp) (v : Value)
  (hk : UpTo P md ops Q S z n (listed.setIfInBounds i true) (a.put (some d) v) w) (hi : ops[i]? = some oi := by exact rfl) (hd : oi.dst = some d := by exact rfl) (hs : Region.noSelect ops = true := by kernel_rfl) (hf : Region.free md ops listed i = true := by kernel_rfl)
  (hr : (Region.ready md ops listed).contains i = true := by kernel_rfl) (hz : waits md ops z i = true := by kernel_rfl) (hQ : ∀ c a w, Q (.panic c) (a.put (some d) v) w → Q (.panic c) a w := by exact fun _ _ _ h => h) (hg : Region.wanted oi (yielded ops a.tmps) = true := by rfl) (hS : S w := by assumption) (h : ∀ w, S w → (execOp a.eval oi).run P w = .ok (.value v) w := by intro X hX; go_simp) : UpTo P md ops Q S z (n + 1) listed a w :=
 UpTo.take hi hd hs hf hr hz hQ (.inl ⟨hg, h⟩) hS hk
end Go.Proofs.YtfljignkjmabpaaGreat
namespace Go.Proofs.YtfljignkjmabpaaGreat.Siv
set_option maxRecDepth 100000
open Go.RowKit
abbrev flt (A : Option Addr) (n c : Nat) (s : Int) : Value := .agg #[.slice A n c, .int .i64 s]
def wds (l : List UInt64) : List Value := l.map u64v
def hsh (l : List UInt32) : List Value := l.map u32v
def Bx (w : World) (g : Nat) (A : Option Addr) (n c : Nat) (s : Int) : Prop := w.heap[g]? = some (.cells #[.slice A n c, .int .i64 s] 33 (0, 0))
section
variable {w w' : World} {g : Nat} {A : Option Addr} {n c : Nat} {s : Int}
theorem Bx.new (w : World) (A : Option Addr) (n c : Nat) (s : Int) : Bx (w.alloc (.cells #[.slice A n c, .int .i64 s] 33)) w.heap.size A n c s := heap_alloc_new _ _
theorem Bx.c0 (h : Bx w g A n c s) : w.cell? ⟨g, 0, none⟩ = some (.slice A n c) := cell_of_row w g 0 _ _ _ h
theorem Bx.c1 (h : Bx w g A n c s) : w.cell? ⟨g, 1, none⟩ = some (.int .i64 s) := cell_of_row w g 1 _ _ _ h
theorem Bx.f0 (h : Bx w g A n c s) (j : Nat) : w.frozen? ⟨g, j, none⟩ = false := frozen_of_row w g j _ _ h
theorem Bx.lt (h : Bx w g A n c s) : g < w.heap.size := by
 rcases Nat.lt_or_ge g w.heap.size with hlt | hge
 ·
  exact hlt
 ·
  have h' : w.heap[g]? = _ := h
  rw [Array.getElem?_eq_none hge] at h'; cases h'
theorem Bx.below (h : Bx w g A n c s) (hb : Below w.heap.size w w') : Bx w' g A n c s := (hb.block g h.lt).trans h
end
theorem cell_below {w w' : World} (hb : Below w.heap.size w w') {a : Addr} {u : Value} (h : w.cell? a = some u) : w'.cell? a = some u := (hb.cell (World.block_lt_of_cell? w _ h)).trans h
theorem cell_alloc {w : World} {a : Addr} {u : Value} (h : w.cell? a = some u) (o : Obj) : (w.alloc o).cell? a = some u := by
 rw [World.cell?_alloc_lt w _ _ (World.block_lt_of_cell? w _ h)]; exact h
theorem right_any (A : Option Addr) (n c : Nat) (s : Int) (w : World) (hn : n ≤ 9223372036854775807) :
  Calls Tryz.prog 170 #[flt A n c s] w fun e w' => e = .returned (.int .i64 (if formB n s then 0 else 20)) ∧ Below w.heap.size w w' := by
 cases hf : formB n s
 all_goals
  have HF := hD hf
  clear hf
  go_enter Tryz.func170, Tryz.ntmps170
  go_wp2_with (go_at_call 202; refine (isForm_any n s _ (by omega)).mono ?_; rw [HF.out]; rintro e w' ⟨rfl, rfl⟩)
  go_ret
  exact ⟨rfl, (Below.refl _ _).alloc (Nat.le_refl _) _⟩
def idx (n : Nat) (h : UInt32) : Nat := h.toNat / 64 % n
def msk (s : Nat) (h : UInt32) : UInt64 := bit (h.toNat % 64) ||| bit (h.toNat / 2 ^ s % 64)
theorem bit_wrap (a : Nat) (h : a < 64) : IntKind.u64.wrap (2 ^ a) = ((bit a).toNat : Int) := by
 rw [bit_val a h, IntKind.wrap_u64]
 have := pow64 a h
 exact Int.emod_eq_of_lt (by omega) this.1
theorem or_bits (a b : Nat) (ha : a < 64) (hb : b < 64) : bits .or .u64 (IntKind.u64.wrap (2 ^ a)) (IntKind.u64.wrap (2 ^ b)) = ((bit a ||| bit b).toNat : Int) := by
 rw [bit_wrap a ha, bit_wrap b hb, bits_or_u64_nat _ _ (UInt64.toNat_lt _) (UInt64.toNat_lt _), UInt64.toNat_or]
theorem bitsOf_any (A : Option Addr) (n c s : Nat) (h : UInt32) (w : World) (h0 : 0 < n) (hn : n ≤ 9223372036854775807) (hs : s ≤ 31) :
  Calls Tryz.prog 205 #[flt A n c s, u32v h] w fun e w' => e = .returned (.tuple #[.int .i64 (idx n h : Nat), u64v (msk s h)]) ∧ Below w.heap.size w w' := by
 have h32 := h.toNat_lt
 have hq : (h.toNat : Int) / 2 ^ s = ((h.toNat / 2 ^ s : Nat) : Int) := by simp
 generalize hx : h.toNat / 2 ^ s = x at hq
 have HX := hD hx
 clear hx
 go_enter Tryz.func205, Tryz.ntmps205
 go_wp2
 go_region
 go_wp2
 go_ret2
 rw [or_bits _ _ (Nat.mod_lt _ (by omega)) (Nat.mod_lt _ (by omega)), ← HX.out]
 exact ⟨by simp [idx, msk], ((Below.refl _ _).alloc (Nat.le_refl _) _).drew⟩
theorem wds_len (l : List UInt64) : (wds l).length = l.length := by simp [wds]
def wd (l : List UInt64) (i : Nat) : UInt64 := l.getD i 0
theorem wds_get (l : List UInt64) (i : Nat) (hi : i < l.length) : (wds l)[i]? = some (u64v (wd l i)) := by
 simp [wds, wd, hi]
theorem wds_one (l : List UInt64) : ∀ u ∈ wds l, u.oneCell' = true := by
 intro u hu
 simp only [wds, List.mem_map] at hu
 obtain ⟨b, _, rfl⟩ := hu
 rfl
theorem idx_lt (n : Nat) (h : UInt32) (h0 : 0 < n) : idx n h < n := Nat.mod_lt _ h0
theorem form_pos {n : Nat} {s : Int} (h : formB n s = true) : 0 < n ∧ n ≤ 64 ∧ 1 ≤ s ∧ s ≤ 31 := by
 simp only [formB, pow7, Bool.and_eq_true, decide_eq_true_eq] at h
 omega
def lacksB (l : List UInt64) (s : Int) (h : UInt32) : Bool := formB l.length s && ((wd l (idx l.length h) &&& msk s.toNat h) != msk s.toNat h)
theorem and_ne (x m : UInt64) : (bits .and .u64 (x.toNat : Int) (m.toNat : Int) != (m.toNat : Int)) = ((x &&& m) != m) := by
 have h1 := x.toNat_lt
 have h2 := m.toNat_lt
 rw [bits_and_u64_nat _ _ h1 h2, ← UInt64.toNat_and, Bool.eq_iff_iff]
 simp only [bne_iff_ne, ne_eq, ← UInt64.toNat_inj]
 omega
theorem lacks_any (P : Nat → Prop) (A : Option Addr) (c : Nat) (l : List UInt64) (s : Int) (h : UInt32) (w : World) (hx : Src w P A l.length c (wds l)) (hn : l.length ≤ 9223372036854775807) :
  Calls Tryz.prog 176 #[flt A l.length c s, u32v h] w fun e w' => e = .returned (.bool (lacksB l s h)) ∧ Below w.heap.size w w' := by
 cases hf : formB l.length s
 ·
  have HF := hD hf
  clear hf
  go_enter Tryz.func176, Tryz.ntmps176
  go_wp2_with (go_at_call 170; refine (right_any A _ c s _ hn).mono ?_; rw [HF.out]; rintro e w1 ⟨rfl, hb1⟩)
  go_ret
  have hl : lacksB l s h = false := by simp [lacksB, HF.out]
  rw [hl]
  exact ⟨rfl, ((Below.refl _ _).alloc (Nat.le_refl _) _).trans (hb1.mono (by simp))⟩
 ·
  obtain ⟨p0, p1, p2, p3⟩ := form_pos hf
  obtain ⟨s, rfl⟩ : ∃ k : Nat, s = k := ⟨s.toNat, by omega⟩
  have HF := hD hf
  have HX := hD hx.lt
  clear hf hx
  have hi := idx_lt l.length h p0
  cases A with
  | none => have := (HX.out.nil rfl).1; omega
  | some ad =>
   have hc0 := HX.out.at_ ad rfl _ _ (wds_get l _ hi)
   have HBX := hD (Bx.new w (some ad) l.length c s)
   have HC := hD (hc0)
   clear hc0
   go_enter Tryz.func176, Tryz.ntmps176
   go_wp2_with (first
    | (go_at_call 170; refine (right_any (some ad) _ c s _ hn).mono ?_; rw [HF.out]; rintro e w1 ⟨rfl, hb1⟩; have HB1 := hD hb1; have HBX1 := hD (HBX.out.below hb1); have k0 := HBX1.out.c0; have k1 := HBX1.out.c1; clear hb1)
    | (go_at_call 205; refine (bitsOf_any (some ad) l.length c s h _ p0 hn (by omega)).mono ?_; rintro e w2 ⟨rfl, hb2⟩; have HB2 := hD hb2; have HBX2 := hD (HBX1.out.below hb2); have k2 := HBX2.out.c0; have k3 := HBX2.out.c1; have k4 := (((cell_below hb2 (cell_below HB1.out (cell_alloc HC.out _))))); clear hb2 k0 k1))
   go_ret
   rw [and_ne]
   have hl : lacksB l s h = ((wd l (idx l.length h) &&& msk s h) != msk s h) := by simp [lacksB, HF.out]
   rw [hl]
   exact ⟨rfl, (((Below.refl _ _).alloc (Nat.le_refl _) _).trans (HB1.out.mono (by simp))).trans (HB2.out.mono (by have := HB1.out.size; simp at this; omega))⟩
theorem rRight_any (A : Option Addr) (n c : Nat) (s : Int) (w : World) :
  Calls Tryz.prog 146 #[flt A n c s] w fun e w' => e = .returned (.bool (formB n s)) ∧ Below w.heap.size w w' := by
 cases hp : pow7 n
 ·
  have HP := hD hp
  have hf : formB n s = false := by simp [formB, hp]
  rw [hf]
  clear hp hf
  go_enter Tryz.func146, Tryz.ntmps146
  go_wp2_with (go_at_call 191; refine (rWords_any n _).mono ?_; rw [HP.out]; rintro e w' ⟨rfl, rfl⟩)
  go_ret
  exact ⟨rfl, (Below.refl _ _).alloc (Nat.le_refl _) _⟩
 ·
  have HP := hD hp
  have hf : formB n s = (decide (1 ≤ s) && decide (s ≤ 31)) := by simp [formB, hp]
  rw [hf]
  clear hp hf
  by_cases h1 : 1 ≤ s
  ·
   go_enter Tryz.func146, Tryz.ntmps146
   go_wp2_with (go_at_call 191; refine (rWords_any n _).mono ?_; rw [HP.out]; rintro e w' ⟨rfl, rfl⟩)
   go_ret
   exact ⟨by simp [h1], (Below.refl _ _).alloc (Nat.le_refl _) _⟩
  ·
   go_enter Tryz.func146, Tryz.ntmps146
   go_wp2_with (go_at_call 191; refine (rWords_any n _).mono ?_; rw [HP.out]; rintro e w' ⟨rfl, rfl⟩)
   go_ret
   have h3 : decide (1 ≤ s) = false := by simpa using h1
   rw [h3]
   exact ⟨rfl, (Below.refl _ _).alloc (Nat.le_refl _) _⟩
theorem testBit_bit (a i : Nat) (ha : a < 64) : (bit a).toNat.testBit i = decide (a = i) := by
 rw [bit_nat a ha, Nat.testBit_two_pow]
theorem lacks_two (x : UInt64) (a b : Nat) (ha : a < 64) (hb : b < 64) : ((x &&& (bit a ||| bit b)) != (bit a ||| bit b)) = (!has x a || !has x b) := by
 have e : ((x &&& (bit a ||| bit b)) == (bit a ||| bit b)) = (has x a && has x b) := by
  rw [Bool.eq_iff_iff]
  simp only [beq_iff_eq, Bool.and_eq_true, ← UInt64.toNat_inj, UInt64.toNat_and, UInt64.toNat_or, has]
  constructor
  ·
   intro h
   have h1 := congrArg (fun z => z.testBit a) h
   have h2 := congrArg (fun z => z.testBit b) h
   simp only [Nat.testBit_and, Nat.testBit_or, testBit_bit _ _ ha, testBit_bit _ _ hb, decide_true, Bool.true_or, Bool.or_true, Bool.and_true] at h1 h2
   exact ⟨h1, h2⟩
  ·
   rintro ⟨h1, h2⟩
   apply Nat.eq_of_testBit_eq
   intro i
   simp only [Nat.testBit_and, Nat.testBit_or, testBit_bit _ _ ha, testBit_bit _ _ hb]
   by_cases e1 : a = i
   ·
    subst e1; simp [h1]
   ·
    by_cases e2 : b = i
    ·
     subst e2; simp [h2]
    ·
     simp [e1, e2]
 rw [bne, e]
 cases has x a <;> cases has x b <;> rfl
theorem rshifted_nat (h : UInt32) (s x : Nat) (w : World) (hs : s ≤ 31) (hx : h.toNat / 2 ^ s = x) :
  Calls Tryz.prog 26 #[u32v h, .int .i64 (s : Int)] w fun e w' => e = .returned (u32n x) ∧ w = w' := by
 have := rshifted_any h (s : Int) w (by omega) (by omega)
 rw [show ((s : Int).toNat) = s by simp, hx] at this
 exact this
theorem rLacks_any (P : Nat → Prop) (A : Option Addr) (c : Nat) (l : List UInt64) (s : Int) (h : UInt32) (w : World) (hx : Src w P A l.length c (wds l)) (hn : l.length ≤ 9223372036854775807) :
  Calls Tryz.prog 148 #[flt A l.length c s, u32v h] w fun e w' => e = .returned (.bool (lacksB l s h)) ∧ Below w.heap.size w w' := by
 cases hf : formB l.length s
 ·
  have HF := hD hf
  clear hf
  go_enter Tryz.func148, Tryz.ntmps148
  go_wp2_with (go_at_call 146; refine (rRight_any A _ c s _).mono ?_; rw [HF.out]; rintro e w1 ⟨rfl, hb1⟩)
  go_ret
  have hl : lacksB l s h = false := by simp [lacksB, HF.out]
  rw [hl]
  exact ⟨rfl, ((Below.refl _ _).alloc (Nat.le_refl _) _).trans (hb1.mono (by simp))⟩
 ·
  obtain ⟨p0, p1, p2, p3⟩ := form_pos hf
  obtain ⟨s, rfl⟩ : ∃ k : Nat, s = k := ⟨s.toNat, by omega⟩
  have HF := hD hf
  have HX := hD hx.lt
  clear hf hx
  have hi := idx_lt l.length h p0
  have h32 := h.toNat_lt
  have hma : (h.toNat : Int) % 64 = ((h.toNat % 64 : Nat) : Int) := by simp
  generalize hxa : h.toNat % 64 = a at hma
  have ha : a < 64 := by omega
  have hx2 : h.toNat / 2 ^ s ≤ h.toNat := Nat.div_le_self _ _
  generalize hxx : h.toNat / 2 ^ s = x at hx2
  have hmb : (x : Int) % 64 = ((x % 64 : Nat) : Int) := by simp
  generalize hxb : x % 64 = b at hmb
  have hb : b < 64 := by omega
  have HS := hD (fun w : World => rshifted_nat h s x w (by omega) hxx)
  have HXX := hD hxx
  clear hxx
  have HXA := hD hxa
  have HXB := hD hxb
  clear hxa hxb
  have hix : (h.toNat : Int) / 64 % (l.length : Int) = (idx l.length h : Nat) := by simp [idx]
  cases A with
  | none => have := (HX.out.nil rfl).1; omega
  | some ad =>
   have hc0 := HX.out.at_ ad rfl _ _ (wds_get l _ hi)
   have HBX := hD (Bx.new w (some ad) l.length c s)
   have HC := hD (hc0)
   clear hc0
   go_enter Tryz.func148, Tryz.ntmps148
   go_wp2_with (first
    | (go_at_call 146; refine (rRight_any (some ad) _ c s _).mono ?_; rw [HF.out]; rintro e w1 ⟨rfl, hb1⟩; have HB1 := hD hb1; have HBX1 := hD (HBX.out.below hb1); have k0 := HBX1.out.c0; have k1 := HBX1.out.c1; have k4 := cell_below HB1.out (cell_alloc HC.out _); clear hb1))
   go_region
   clear hix k4 HC
   go_wp2_with (first
    | (go_at_call 92; refine (rhas_any (wd l (idx l.length h)) _ _ (by assumption)).mono ?_; rintro e w' ⟨rfl, rfl⟩)
    | (go_at_call 26; refine (HS.out _).mono ?_; rintro e w' ⟨rfl, rfl⟩))
   all_goals
    go_ret
    have hl : lacksB l s h = (!has (wd l (idx l.length h)) a || !has (wd l (idx l.length h)) b) := by
     have e : msk (s : Int).toNat h = bit a ||| bit b := by
      rw [← HXA.out, ← HXB.out, ← HXX.out]
      rfl
     rw [← lacks_two _ _ _ ha hb, lacksB, HF.out, e]
     rfl
    refine ⟨?_, (((Below.refl _ _).alloc (Nat.le_refl _) _).trans (HB1.out.mono (by simp))).drew⟩
   ·
    have h1 : has (wd l (idx l.length h)) a = true := by assumption
    rw [hl, h1]
    rfl
   ·
    have h1 : has (wd l (idx l.length h)) a = false := by
      have h1 : ¬has (wd l (idx l.length h)) a = true := by assumption
      simpa using h1
    rw [hl, h1]
    rfl
end Go.Proofs.YtfljignkjmabpaaGreat.Siv
namespace Go.Proofs.YtfljignkjmabpaaGreat
set_option maxRecDepth 100000
open Go.RowKit
def u8 (b : UInt8) : Value := .int .u8 (b.toNat : Int)
def cells (l : List UInt8) : List Value := l.map u8
theorem cells_len (l : List UInt8) : (cells l).length = l.length := by simp [cells]
theorem cells_app (a b : List UInt8) : cells (a ++ b) = cells a ++ cells b := by simp [cells]
theorem cells_one (l : List UInt8) : ∀ u ∈ cells l, u.oneCell' = true := by
 intro u hu
 simp only [cells, List.mem_map] at hu
 obtain ⟨b, _, rfl⟩ := hu
 rfl
theorem Tryz.info_byte : (Tryz.prog.info? 5).map (fun i => (i.zero, i.size, i.bytes)) = some (some (.int .u8 0), 1, 1) := by kernel_rfl
theorem fail_first (g : Nat) (cs : Array Value) (t : TypeId) (k : Int) (w : World) (h : w.heap[g]? = some (.cells cs t (0, 0))) (h0 : cs[0]? = some (.int .i64 0)) :
  Calls Tryz.prog 127 #[.pointer (some ⟨g, 0, none⟩), .int .i64 k] w fun e w' => e = .returned (.tuple #[]) ∧ w' = w.setCell ⟨g, 0, none⟩ (.int .i64 k) := by
 have hc : w.cell? ⟨g, 0, none⟩ = some (.int .i64 0) := (cell_of_row w g 0 cs t (0, 0) h).trans h0
 have hf : w.frozen? ⟨g, 0, none⟩ = false := frozen_of_row w g 0 cs t h
 clear h h0
 go_enter Tryz.func127, Tryz.ntmps127
 go_wp2
 go_end0
 exact ⟨rfl, rfl⟩
theorem fail_again (g : Nat) (cs : Array Value) (t : TypeId) (e k : Int) (w : World) (h : w.heap[g]? = some (.cells cs t (0, 0))) (h0 : cs[0]? = some (.int .i64 e)) (he : e ≠ 0) :
  Calls Tryz.prog 127 #[.pointer (some ⟨g, 0, none⟩), .int .i64 k] w fun e w' => e = .returned (.tuple #[]) ∧ w = w' := by
 have hc : w.cell? ⟨g, 0, none⟩ = some (.int .i64 e) := (cell_of_row w g 0 cs t (0, 0) h).trans h0
 have hb : (e == 0) = false := by simpa using he
 clear h h0
 go_enter Tryz.func127, Tryz.ntmps127
 go_wp2
 go_end0
 exact ⟨rfl, rfl⟩
theorem failed_any (g : Nat) (cs : Array Value) (t : TypeId) (e : Int) (w : World) (h : w.heap[g]? = some (.cells cs t (0, 0))) (h0 : cs[0]? = some (.int .i64 e)) :
  Calls Tryz.prog 54 #[.pointer (some ⟨g, 0, none⟩)] w fun en w' => en = .returned (.bool (e != 0)) ∧ w = w' := by
 have hc : w.cell? ⟨g, 0, none⟩ = some (.int .i64 e) := (cell_of_row w g 0 cs t (0, 0) h).trans h0
 clear h h0
 go_enter Tryz.func54, Tryz.ntmps54
 go_wp2
 go_ret
 exact ⟨rfl, rfl⟩
def sized (size : Int) : Bool := decide (size = 1 ∨ size = 2 ∨ size = 4 ∨ size = 8)
theorem isSize_any (size : Int) (w : World) : Calls Tryz.prog 126 #[.int .i64 size] w fun e w' => e = .returned (.bool (sized size)) ∧ w = w' := by
 by_cases h1 : size = 1
 ·
  subst h1
  go_enter Tryz.func126, Tryz.ntmps126
  go_wp2
  go_ret
  exact ⟨rfl, rfl⟩
 by_cases h2 : size = 2
 ·
  subst h2
  go_enter Tryz.func126, Tryz.ntmps126
  go_wp2
  go_ret
  exact ⟨rfl, rfl⟩
 by_cases h3 : size = 4
 ·
  subst h3
  go_enter Tryz.func126, Tryz.ntmps126
  go_wp2
  go_ret
  exact ⟨rfl, rfl⟩
 by_cases h4 : size = 8
 ·
  subst h4
  go_enter Tryz.func126, Tryz.ntmps126
  go_wp2
  go_ret
  exact ⟨rfl, rfl⟩
 have b1 : (size == 1) = false := by simpa using h1
 have b2 : (size == 2) = false := by simpa using h2
 have b3 : (size == 4) = false := by simpa using h3
 have b4 : (size == 8) = false := by simpa using h4
 have hs : sized size = false := by simp [sized, h1, h2, h3, h4]
 have HS := hD hs
 clear hs h1 h2 h3 h4
 go_enter Tryz.func126, Tryz.ntmps126
 go_wp2
 go_ret
 rw [HS.out]
 exact ⟨rfl, rfl⟩
def fitB (size n : Int) : Bool := if size = 1 then decide (0 ≤ n ∧ n < 256) else if size = 2 then decide (0 ≤ n ∧ n < 65536) else if size = 4 then decide (0 ≤ n ∧ n < 4294967296) else true
theorem fit1 (n : Int) (h : I64 n) : (IntKind.u64.wrap n / 256 == 0) = fitB 1 n := by
 unfold I64 at h
 rw [Bool.eq_iff_iff]
 simp [fitB, IntKind.wrap, IntKind.bits, IntKind.signed]
 omega
theorem fit2 (n : Int) (h : I64 n) : (IntKind.u64.wrap n / 65536 == 0) = fitB 2 n := by
 unfold I64 at h
 rw [Bool.eq_iff_iff]
 simp [fitB, IntKind.wrap, IntKind.bits, IntKind.signed]
 omega
theorem fit4 (n : Int) (h : I64 n) : (IntKind.u64.wrap n / 4294967296 == 0) = fitB 4 n := by
 unfold I64 at h
 rw [Bool.eq_iff_iff]
 simp [fitB, IntKind.wrap, IntKind.bits, IntKind.signed]
 omega
theorem fit8 (n : Int) : (IntKind.u64.wrap n / 18446744073709551616 == 0) = fitB 8 n := by
 rw [Bool.eq_iff_iff]
 simp [fitB, IntKind.wrap, IntKind.bits, IntKind.signed]
 omega
theorem fits_any (size n : Int) (w : World) (hs : sized size = true) (hn : I64 n) :
  Calls Tryz.prog 193 #[.int .i64 size, .int .i64 n] w fun e w' => e = .returned (.bool (fitB size n)) ∧ w = w' := by
 simp only [sized, decide_eq_true_eq] at hs
 have h1 := hD (fit1 n hn)
 have h2 := hD (fit2 n hn)
 have h4 := hD (fit4 n hn)
 have h8 := hD (fit8 n)
 clear hn
 rcases hs with rfl | rfl | rfl | rfl
 all_goals
  go_enter Tryz.func193, Tryz.ntmps193
  go_wp2
  go_ret
 ·
  rw [← h1.out]; exact ⟨rfl, rfl⟩
 ·
  rw [← h2.out]; exact ⟨rfl, rfl⟩
 ·
  rw [← h4.out]; exact ⟨rfl, rfl⟩
 ·
  rw [← h8.out]; exact ⟨rfl, rfl⟩
section
variable {w w' : World} {P Q : Nat → Prop} {A : Option Addr} {n c : Nat} {xs : List Value}
end
def Cloned (w : World) (n : Nat) (l : List UInt8) (e : Ending) (w' : World) : Prop :=
 ∃ A' c', e = .returned (.slice A' n c') ∧ w'.ownsRow w.heap.size 5 1 (.slice A' n c') n (cells l) ∧ Below w.heap.size w w'
set_option maxHeartbeats 400000 in
theorem clone_any (P : Nat → Prop) (A : Option Addr) (n c : Nat) (l : List UInt8) (w : World) (h : Src w P A n c (cells l)) (hn : n ≤ 140737488355328) :
  Calls Tryz.prog 36 #[.slice A n c] w (Cloned w n l) := by
 obtain ⟨i0, hi, hz0, hz1, hz2⟩ := info_parts Tryz.info_byte
 have hq := @Lib.run_eql_slice_nil Tryz.prog
 cases A with
 | none =>
  obtain ⟨rfl, rfl⟩ := h.nil rfl
  have h0 := h.len
  go_enter Tryz.func36, Tryz.ntmps36
  go_wp2
  go_ret
  exact ⟨none, 0, rfl, ⟨by simpa using h0, .inl ⟨rfl, rfl⟩⟩, Below.refl _ _⟩
 | some ad =>
  have hs : Src (w.alloc (.cells #[] 5)) (fun k => k < w.heap.size) (some ad) n c (cells l) :=
   ⟨h.len, h.nil, h.cap, fun ad' ha hn' => (by
    cases ha
    have hl : 0 < (cells l).length := by rw [h.len]; exact hn'
    have h1 := h.at_ ad rfl 0 _ (List.getElem?_eq_getElem hl)
    have h2 := World.block_lt_of_cell? w _ h1
    rw [addBlock] at h2
    exact h2), fun ad' ha j u hu => (by
    have h1 := h.at_ ad' ha j u hu
    rw [World.cell?_alloc_lt w _ _ (World.block_lt_of_cell? w _ h1)]
    exact h1)⟩
  have ho : (w.alloc (.cells #[] 5)).ownsRow w.heap.size 5 1 (.slice (some ⟨w.heap.size, 0, none⟩) 0 0) 0 [] :=
   ⟨rfl, .inr ⟨w.heap.size, 0, #[], rfl, Nat.le_refl _, heap_alloc_new _ _, Nat.le_refl _, Nat.zero_le _, rfl, rfl⟩⟩
  have h1 := cells_one l
  have m1 : 0 + n ≤ maxLen := by simp only [maxLen]; omega
  have m2 : (0 + n) * 1 ≤ 140737488355328 := by omega
  clear h
  go_enter Tryz.func36, Tryz.ntmps36
  go_wp2_with (at_builtin; refine wpList_append_src rfl (.tmp 5) (.tmp 6) _ rfl w.heap.size 5 i0 _ 1 Tryz.underlying22 hi hz0 hz1 hz2 rfl (.slice (some ⟨w.heap.size, 0, none⟩) 0 0) 0 [] rfl ho _ _ n c (cells l) rfl hs h1 m1 m2 (by simp) ?_; intro v' w1 hown hg hat; obtain ⟨A', c', rfl⟩ := own_slice hown)
  have hb : Below w.heap.size w w1 := ((Below.refl _ _).alloc (Nat.le_refl _) _).grown hg (by simp) (fun k hk => by cases hk; exact Nat.le_refl _)
  go_ret
  simp only [Nat.zero_add, List.nil_append] at hown ⊢
  exact ⟨A', c', rfl, hown, hb⟩
structure Wr (w : World) (B g : Nat) (e : Int) (A : Option Addr) (c : Nat) (bs : List UInt8) : Prop where
 blk : w.heap[g]? = some (.cells #[.int .i64 e, .slice A bs.length c] 132 (0, 0))
 own : w.ownsRow B 5 1 (.slice A bs.length c) bs.length (cells bs)
 base : B ≤ w.heap.size
structure Step (g : Nat) (w : World) (r : Option Nat) (w' : World) (r' : Option Nat) : Prop where
 os : w'.os = w.os
 tape : w'.tape = w.tape
 output : w'.output = w.output
 size : w.heap.size ≤ w'.heap.size
 block : ∀ k, k < w.heap.size → k ≠ g → r ≠ some k → w'.heap[k]? = w.heap[k]?
 row : r' = r ∨ ∃ k, w.heap.size ≤ k ∧ r' = some k
theorem Step.refl (g : Nat) (w : World) (r : Option Nat) : Step g w r w r := ⟨rfl, rfl, rfl, Nat.le_refl _, fun _ _ _ _ => rfl, .inl rfl⟩
theorem Step.trans {g : Nat} {a b c : World} {r s t : Option Nat} (h : Step g a r b s) (k : Step g b s c t) : Step g a r c t := by
 refine ⟨k.os.trans h.os, k.tape.trans h.tape, k.output.trans h.output, Nat.le_trans h.size k.size, fun i hi hg hr => ?_, ?_⟩
 ·
  refine (k.block i (Nat.lt_of_lt_of_le hi h.size) hg ?_).trans (h.block i hi hg hr)
  rcases h.row with h1 | ⟨j, hj, h1⟩
  ·
   rw [h1]; exact hr
  ·
   rw [h1]; intro e; injection e with e; omega
 ·
  rcases k.row with h1 | ⟨j, hj, h1⟩
  ·
   rw [h1]; exact h.row
  ·
   exact .inr ⟨j, Nat.le_trans h.size hj, h1⟩
theorem Step.below {g : Nat} {w w' : World} (h : Below w.heap.size w w') (r : Option Nat) : Step g w r w' r := ⟨h.os, h.tape, h.output, h.size, fun k hk _ _ => h.block k hk, .inl rfl⟩
theorem Step.alloc (g : Nat) (w : World) (r : Option Nat) (o : Obj) : Step g w r (w.alloc o) r := Step.below ((Below.refl _ _).alloc (Nat.le_refl _) _) r
section
variable {w w' : World} {B g : Nat} {e : Int} {A : Option Addr} {c : Nat} {bs : List UInt8}
theorem Wr.ne (h : Wr w B g e A c bs) : row A ≠ some g := by
 intro hr
 rcases h.own.2 with ⟨hv, _⟩ | ⟨g', cap, cur, hv, _, hh, _⟩
 ·
  injection hv with h1; subst h1; cases hr
 ·
  injection hv with h1
  subst h1
  injection hr with hr
  have hr' : g' = g := hr
  subst hr'
  rw [h.blk] at hh
  injection hh with hh
  injection hh with _ ht
  cases ht
theorem Wr.lt (h : Wr w B g e A c bs) : g < w.heap.size := by
 rcases Nat.lt_or_ge g w.heap.size with hlt | hge
 ·
  exact hlt
 ·
  have := h.blk; rw [Array.getElem?_eq_none hge] at this; cases this
theorem Wr.rowLt (h : Wr w B g e A c bs) : ∀ k, row A = some k → B ≤ k ∧ k < w.heap.size := by
 intro k hk; exact h.own.lt k (by rw [row_own]; exact hk)
theorem Wr.keep (h : Wr w B g e A c bs) (hs : w.heap.size ≤ w'.heap.size) (hg : w'.heap[g]? = w.heap[g]?) (hr : ∀ k, row A = some k → w'.heap[k]? = w.heap[k]?) : Wr w' B g e A c bs := by
 refine ⟨hg.trans h.blk, ⟨h.own.1, ?_⟩, Nat.le_trans h.base hs⟩
 rcases h.own.2 with h1 | ⟨g', cap, cur, hv, hb, hh, hx⟩
 ·
  exact .inl h1
 ·
  refine .inr ⟨g', cap, cur, hv, hb, (hr g' ?_).trans hh, hx⟩
  injection hv with h1
  subst h1
  rfl
theorem Wr.below (h : Wr w B g e A c bs) (hb : Below w.heap.size w w') : Wr w' B g e A c bs :=
 h.keep hb.size (hb.block g h.lt) fun k hk => hb.block k (h.rowLt k hk).2
theorem Wr.alloc (h : Wr w B g e A c bs) (o : Obj) : Wr (w.alloc o) B g e A c bs := h.below ((Below.refl _ _).alloc (Nat.le_refl _) _)
end
def At (w : World) (B g : Nat) (A : Option Addr) (e' : Int) (bs' : List UInt8) (w' : World) : Prop := ∃ A' c', Wr w' B g e' A' c' bs' ∧ Step g w (row A) w' (row A')
def Wrote (w : World) (B g : Nat) (A : Option Addr) (e' : Int) (bs' : List UInt8) (e : Ending) (w' : World) : Prop :=
 e = .returned (.tuple #[]) ∧ At w B g A e' bs' w'
set_option maxHeartbeats 400000 in
theorem raw_ok (B g : Nat) (A : Option Addr) (c : Nat) (bs : List UInt8) (P : Nat → Prop) (Ax : Option Addr) (n cx : Nat) (l : List UInt8) (w : World) (h : Wr w B g 0 A c bs) (hx : Src w P Ax n cx (cells l))
  (hn : bs.length + n ≤ 140737488355328) :
  Calls Tryz.prog 192 #[.pointer (some ⟨g, 0, none⟩), .slice Ax n cx] w (Wrote w B g A 0 (bs ++ l)) := by
 obtain ⟨i0, hi, hz0, hz1, hz2⟩ := info_parts Tryz.info_byte
 have h1 := cells_one l
 have hc0 : w.cell? ⟨g, 0, none⟩ = some (.int .i64 0) := cell_of_row w g 0 _ _ _ h.blk
 have hc1 : w.cell? ⟨g, 1, none⟩ = some (.slice A bs.length c) := cell_of_row w g 1 _ _ _ h.blk
 have m1 : bs.length + n ≤ maxLen := by simp only [maxLen]; omega
 have m2 : (bs.length + n) * 1 ≤ 140737488355328 := by omega
 have hgf : ∀ w1, w.grownBy w1 (row A) → w1.cell? ⟨g, 1, none⟩ = some (.slice A bs.length c) ∧ w1.frozen? ⟨g, 1, none⟩ = false := by
  intro w1 hg
  have hb := (hg.block g h.lt (fun e => h.ne e.symm)).trans h.blk
  exact ⟨cell_of_row _ _ 1 _ _ _ hb, frozen_of_row _ _ 1 _ _ hb⟩
 have H := hD h
 have HX := hD hx
 clear h hx
 go_enter Tryz.func192, Tryz.ntmps192
 go_wp2_with (first
  | (go_at_call 54; refine (failed_any g _ _ 0 _ H.out.blk rfl).mono ?_; rintro e w' ⟨rfl, rfl⟩)
  | (at_builtin; refine wpList_append_src rfl (.tmp 13) (.tmp 14) _ rfl B 5 i0 _ 1 Tryz.underlying22 hi hz0 hz1 hz2 rfl (.slice A bs.length c) bs.length (cells bs) rfl H.out.own _ _ n cx (cells l) rfl HX.out h1 m1 m2 H.out.base ?_; intro v' w1 hown hg hat; obtain ⟨A', c', rfl⟩ := own_slice hown; rw [row_own] at hg; rw [row_own, row_own] at hat; obtain ⟨g1, g2⟩ := hgf _ hg))
 go_end0
 have h := H.out
 obtain rfl : n = l.length := by have := HX.out.len; simpa [cells_len] using this.symm
 have hg0 := h.lt
 have hb := (hg.block g hg0 (fun e => h.ne e.symm)).trans h.blk
 have hne : row A' ≠ some g := by
  rcases hat with e | e
  ·
   rw [e]; exact h.ne
  ·
   rw [e]; intro e'; injection e' with e'; omega
 refine ⟨rfl, A', c', ⟨?_, ?_, ?_⟩, ?_⟩
 ·
  have := heap_setCell_same w1 g 1 _ _ (.slice A' (bs.length + l.length) c') hb
  rw [this, List.length_append]
  rfl
 ·
  rw [List.length_append, cells_app]
  exact ownsRow_setCell_other hown (by rw [row_own]; exact hne) _
 ·
  have := hg.size
  have := h.base
  simp [World.setCell]
  omega
 ·
  refine ⟨hg.os, hg.tape, hg.output, by have := hg.size; simp [World.setCell]; omega, fun k hk hk1 hk2 => ?_, ?_⟩
  ·
   rw [heap_setCell_other _ _ _ _ hk1]
   exact hg.block k hk (fun e => hk2 e.symm)
  ·
   rcases hat with e | e
   ·
    exact .inl e
   ·
    exact .inr ⟨_, Nat.le_refl _, e⟩
theorem raw_err (g : Nat) (cs : Array Value) (t : TypeId) (e : Int) (x : Value) (w : World) (h : w.heap[g]? = some (.cells cs t (0, 0))) (h0 : cs[0]? = some (.int .i64 e)) (he : (e != 0) = true) :
  Calls Tryz.prog 192 #[.pointer (some ⟨g, 0, none⟩), x] w fun en w' => en = .returned (.tuple #[]) ∧ w = w' := by
 have HH := hD h
 have HE := hD h0
 clear h h0
 go_enter Tryz.func192, Tryz.ntmps192
 go_wp2_with (go_at_call 54; refine (failed_any g _ _ e _ HH.out HE.out).mono ?_; rw [he]; rintro e w' ⟨rfl, rfl⟩)
 go_end0
 exact ⟨rfl, rfl⟩
def putIf (e : Int) (bs l : List UInt8) : List UInt8 := if e = 0 then bs ++ l else bs
theorem raw_any (B g : Nat) (e : Int) (A : Option Addr) (c : Nat) (bs : List UInt8) (P : Nat → Prop) (Ax : Option Addr) (n cx : Nat) (l : List UInt8) (w : World) (h : Wr w B g e A c bs) (hx : Src w P Ax n cx (cells l))
  (hn : bs.length + n ≤ 140737488355328) :
  Calls Tryz.prog 192 #[.pointer (some ⟨g, 0, none⟩), .slice Ax n cx] w (Wrote w B g A e (putIf e bs l)) := by
 by_cases he : e = 0
 ·
  subst he
  exact raw_ok B g A c bs P Ax n cx l w h hx hn
 ·
  refine (raw_err g _ _ e _ w h.blk rfl (by simpa using he)).mono ?_
  rintro en w' ⟨rfl, rfl⟩
  refine ⟨rfl, A, c, ?_, Step.refl _ _ _⟩
  rw [putIf, if_neg he]
  exact h
def dig (n : Int) (i : Nat) : UInt8 := UInt8.ofNat (n / 2 ^ (8 * i) % 256).toNat
def digs (n : Int) (k : Nat) : List UInt8 := (List.range k).map (dig n)
theorem digs_succ (n : Int) (k : Nat) : digs n (k + 1) = digs n k ++ [dig n k] := by simp [digs, List.range_succ]
theorem digs_len (n : Int) (k : Nat) : (digs n k).length = k := by simp [digs]
theorem dig_val (n : Int) (i : Nat) : n / 2 ^ (8 * i) % 256 = ((dig n i).toNat : Int) := by
 unfold dig
 rw [UInt8.toNat_ofNat']
 omega
theorem src_one (w : World) (b : UInt8) (x : Int) (hx : x = (b.toNat : Int)) : Src (w.alloc (.cells #[.int .u8 x] 5)) (fun k => k = w.heap.size) (some ⟨w.heap.size, 0, none⟩) 1 1 (cells [b]) := by
 subst hx
 refine ⟨rfl, (by intro h; cases h), Nat.le_refl _, (by intro ad h _; cases h; rfl), ?_⟩
 intro ad h j u hj
 cases h
 exact cell_one_new w _ 5 j u hj
set_option maxHeartbeats 400000 in
theorem number_ok (B g : Nat) (e : Int) (A : Option Addr) (c : Nat) (bs : List UInt8) (size : Nat) (n : Int) (w : World) (h : Wr w B g e A c bs) (hs : sized size = true) (hi : I64 n) (hf : fitB size n = true)
  (hn : bs.length + 8 ≤ 140737488355328) :
  Calls Tryz.prog 154 #[.pointer (some ⟨g, 0, none⟩), .int .i64 size, .int .i64 n] w (Wrote w B g A e (putIf e bs (digs n size))) := by
 have h8 : size ≤ 8 := by simp only [sized, decide_eq_true_eq] at hs; omega
 have H := hD h
 have HI := hD hi
 have HS := hD hs
 have HF := hD hf
 clear h hi hs hf
 go_enter Tryz.func154, Tryz.ntmps154
 go_wp2_with (go_at_call 193; refine (fits_any size n _ HS.out HI.out).mono ?_; rw [HF.out]; rintro e w' ⟨rfl, rfl⟩)
 go_loopw [6, 16] (fun _ i wr => ∃ k : Nat, k ≤ size ∧ i = .int .i64 k ∧ At w B g A e (putIf e bs (digs n k)) wr) (fun _ i _ => size - (intOf i).toNat)
 case atStart =>
  refine ⟨0, Nat.zero_le _, rfl, A, c, ?_, Step.refl _ _ _⟩
  have : putIf e bs (digs n 0) = bs := by simp [putIf, digs]
  rw [this]
  exact H.out
 case round =>
  obtain ⟨k, hk, rfl, A', c', hw, hst⟩ := hrel
  have hl : (putIf e bs (digs n k)).length ≤ bs.length + k := by unfold putIf; split <;> simp [digs_len]
  have HW := hD hw
  have HST := hD hst
  have HSR := hD (src_one wr (dig n k) _ (dig_val n k))
  have hp : putIf e (putIf e bs (digs n k)) [dig n k] = putIf e bs (digs n (k + 1)) := by
   unfold putIf
   split
   ·
    rw [digs_succ, List.append_assoc]
   ·
    rfl
  have HP := hD hp
  clear hw hst hp
  by_cases hlt : k < size
  ·
   have hl1 : (putIf e bs (digs n k)).length + 1 ≤ 140737488355328 := by omega
   clear hl
   go_wp2_with (go_at_call 192; refine (raw_any B g e A' c' _ _ _ 1 1 [dig n k] _ (HW.out.alloc _) HSR.out hl1).mono ?_; rw [HP.out]; rintro en w' ⟨rfl, A2, c2, hw2, hs2⟩; have HW2 := hD hw2; have HS2 := hD hs2; clear hw2 hs2)
   go_roundw
   case rel => exact ⟨k + 1, by omega, by go_num, A2, c2, HW2.out, (HST.out.trans (Step.alloc g wr _ _)).trans HS2.out⟩
   case measure => simp [intOf]; omega
  ·
   obtain rfl : k = size := by omega
   go_wp2
   go_end0
   exact ⟨rfl, A', c', HW.out, HST.out⟩
theorem Wr.fail {w : World} {B g : Nat} {e : Int} {A : Option Addr} {c : Nat} {bs : List UInt8} (h : Wr w B g e A c bs) (k : Int) : At w B g A k bs (w.setCell ⟨g, 0, none⟩ (.int .i64 k)) := by
 refine ⟨A, c, ⟨?_, ?_, by have := h.base; simpa [World.setCell] using this⟩, rfl, rfl, rfl, by simp [World.setCell], fun i _ h1 _ => heap_setCell_other _ _ _ _ h1, .inl rfl⟩
 ·
  have := heap_setCell_same w g 0 _ _ (.int .i64 k) h.blk
  rw [this]
  rfl
 ·
  exact ownsRow_setCell_other h.own (by rw [row_own]; exact h.ne) _
theorem number_no (B g : Nat) (A : Option Addr) (c : Nat) (bs : List UInt8) (size n : Int) (w : World) (h : Wr w B g 0 A c bs) (hs : sized size = true) (hi : I64 n) (hf : fitB size n = false) :
  Calls Tryz.prog 154 #[.pointer (some ⟨g, 0, none⟩), .int .i64 size, .int .i64 n] w (Wrote w B g A 10 bs) := by
 have H := hD h
 have HI := hD hi
 have HS := hD hs
 have HF := hD hf
 clear h hi hs hf
 go_enter Tryz.func154, Tryz.ntmps154
 go_wp2_with (first
  | (go_at_call 193; refine (fits_any size n _ HS.out HI.out).mono ?_; rw [HF.out]; rintro e w' ⟨rfl, rfl⟩)
  | (go_at_call 127; refine (fail_first g _ _ 10 _ H.out.blk rfl).mono ?_; rintro e w' ⟨rfl, rfl⟩))
 go_end0
 exact ⟨rfl, H.out.fail 10⟩
theorem number_again (B g : Nat) (e : Int) (A : Option Addr) (c : Nat) (bs : List UInt8) (size n : Int) (w : World) (h : Wr w B g e A c bs) (he : e ≠ 0) (hs : sized size = true) (hi : I64 n) (hf : fitB size n = false) :
  Calls Tryz.prog 154 #[.pointer (some ⟨g, 0, none⟩), .int .i64 size, .int .i64 n] w (Wrote w B g A e bs) := by
 have H := hD h
 have HE := hD he
 have HI := hD hi
 have HS := hD hs
 have HF := hD hf
 clear h hi hs hf he
 go_enter Tryz.func154, Tryz.ntmps154
 go_wp2_with (first
  | (go_at_call 193; refine (fits_any size n _ HS.out HI.out).mono ?_; rw [HF.out]; rintro e w' ⟨rfl, rfl⟩)
  | (go_at_call 127; refine (fail_again g _ _ e 10 _ H.out.blk rfl HE.out).mono ?_; rintro e w' ⟨rfl, rfl⟩))
 go_end0
 exact ⟨rfl, A, c, H.out, Step.refl _ _ _⟩
abbrev St := Int × List UInt8
def wNum1 (size : Nat) (n : Int) (s : St) : St := if s.1 = 0 then (if fitB size n = true then (0, s.2 ++ digs n size) else (10, s.2)) else s
theorem number_any (B g : Nat) (s : St) (A : Option Addr) (c : Nat) (size : Nat) (n : Int) (w : World) (h : Wr w B g s.1 A c s.2) (hs : sized size = true) (hi : I64 n)
  (hn : s.2.length + 8 ≤ 140737488355328) :
  Calls Tryz.prog 154 #[.pointer (some ⟨g, 0, none⟩), .int .i64 size, .int .i64 n] w (Wrote w B g A (wNum1 size n s).1 (wNum1 size n s).2) := by
 by_cases hf : fitB size n = true
 ·
  refine (number_ok B g s.1 A c s.2 size n w h hs hi hf hn).mono ?_
  intro e w' hw
  have : wNum1 size n s = (s.1, putIf s.1 s.2 (digs n size)) := by
   unfold wNum1 putIf
   split
   ·
    simp_all
   ·
    rfl
  rw [this]
  exact hw
 ·
  have hf' : fitB size n = false := by simpa using hf
  obtain ⟨e, bs⟩ := s
  by_cases he : e = 0
  ·
   subst he
   refine (number_no B g A c bs size n w h hs hi hf').mono ?_
   intro e w' hw
   have : wNum1 size n (0, bs) = (10, bs) := by simp [wNum1, hf]
   rw [this]
   exact hw
  ·
   refine (number_again B g e A c bs size n w h he hs hi hf').mono ?_
   intro e' w' hw
   have : wNum1 size n (e, bs) = (e, bs) := by simp [wNum1, he]
   rw [this]
   exact hw
end Go.Proofs.YtfljignkjmabpaaGreat
namespace Go.Proofs.YtfljignkjmabpaaGreat.Siv
set_option maxRecDepth 100000
open Go.RowKit
def setW (s : Nat) (l : List UInt64) (h : UInt32) : List UInt64 := l.set (idx l.length h) (wd l (idx l.length h) ||| msk s h)
def setAll (s : Nat) (l : List UInt64) (hs : List UInt32) : List UInt64 := hs.foldl (setW s) l
theorem setW_len (s : Nat) (l : List UInt64) (h : UInt32) : (setW s l h).length = l.length := by simp [setW]
theorem setAll_len (s : Nat) (l : List UInt64) (hs : List UInt32) : (setAll s l hs).length = l.length := by
 induction hs generalizing l with
 | nil => rfl
 | cons h hs ih => exact (ih (setW s l h)).trans (setW_len s l h)
theorem setAll_take (s : Nat) (l : List UInt64) (hs : List UInt32) (k : Nat) (hk : k < hs.length) : setAll s l (hs.take (k + 1)) = setW s (setAll s l (hs.take k)) hs[k] := by
 unfold setAll
 rw [List.take_succ_eq_append_getElem hk, List.foldl_append]
 rfl
theorem wds_set (l : List UInt64) (i : Nat) (x : UInt64) : wds (l.set i x) = (wds l).set i (u64v x) := by simp [wds]
theorem hsh_get (hs : List UInt32) (k : Nat) (hk : k < hs.length) : (hsh hs)[k]? = some (u32v hs[k]) := by simp [hsh, hk]
theorem own_some {w : World} {B : Nat} {e : TypeId} {A : Option Addr} {n c : Nat} {xs : List Value} (h : w.ownsRow B e 1 (.slice A n c) n xs) (h0 : 0 < n) : ∃ g, A = some ⟨g, 0, none⟩ ∧ B ≤ g ∧ g < w.heap.size := by
 rcases h.2 with ⟨_, hn⟩ | ⟨g, cap, cur, hv, hb, hg, _⟩
 ·
  omega
 ·
  injection hv with h1
  exact ⟨g, h1, hb, (Array.getElem?_eq_some_iff.1 hg).1⟩
theorem own_below {w w' : World} {B : Nat} {e : TypeId} {v : Value} {n : Nat} {xs : List Value} (h : w.ownsRow B e 1 v n xs) (hb : Below w.heap.size w w') : w'.ownsRow B e 1 v n xs :=
 h.kept (row := none) ⟨hb.os, hb.tape, hb.output, hb.size, fun k hk _ => hb.block k hk⟩ (by cases v.ownBlock <;> simp)
theorem Bx.setCell {w : World} {g : Nat} {A : Option Addr} {n c : Nat} {s : Int} (h : Bx w g A n c s) {a : Addr} (ha : g ≠ a.block) (u : Value) : Bx (w.setCell a u) g A n c s := (Below.heap_setCell w a u g ha).trans h
theorem grow_below {a b : World} (h : Below a.heap.size a b) (r : Option Nat) : a.grownBy b r := ⟨h.os, h.tape, h.output, h.size, fun k hk _ => h.block k hk⟩
theorem Bx.grown {w w' : World} {g : Nat} {A : Option Addr} {n c : Nat} {s : Int} {r : Option Nat} (h : Bx w g A n c s) (hg : w.grownBy w' r) (hr : some g ≠ r) : Bx w' g A n c s := (hg.block g h.lt hr).trans h
theorem Bx.over {w : World} {g : Nat} {A : Option Addr} {n c : Nat} {s : Int} (h : Bx w g A n c s) (A' : Option Addr) (n' c' : Nat) (s' : Int) : Bx ((w.setCell ⟨g, 0, none⟩ (.slice A' n' c')).setCell ⟨g, 1, none⟩ (.int .i64 s')) g A' n' c' s' := by
 have h1 := heap_setCell_same w g 0 _ _ (.slice A' n' c') h
 exact heap_setCell_same _ g 1 _ _ (.int .i64 s') h1
def sameB (l m : List UInt64) (s t : Int) : Bool := decide (s = t ∧ l = m)
end Go.Proofs.YtfljignkjmabpaaGreat.Siv
namespace Go.Proofs.YtfljignkjmabpaaGreat.Siv
set_option maxRecDepth 100000
open Go.RowKit
theorem Tryz.info_word : (Tryz.prog.info? 52).map (fun i => (i.zero, i.size, i.bytes)) = some (some (.int .u64 0), 1, 8) := by kernel_rfl
def Made (w : World) (l : List UInt64) (s : Int) (e : Ending) (w' : World) : Prop :=
 ∃ A c, e = .returned (.tuple #[flt A l.length c s, .int .i64 0]) ∧ w'.ownsRow w.heap.size 52 1 (.slice A l.length c) l.length (wds l) ∧ Below w.heap.size w w'
def NoF (w : World) (e : Ending) (w' : World) : Prop := e = .returned (.tuple #[flt none 0 0 0, .int .i64 20]) ∧ Below w.heap.size w w'
def blank (n : Nat) : List UInt64 := List.replicate n 0
theorem made_blank (n : Nat) : (madeCells (Value.int .u64 0).cells (n * 1)).toList = wds (blank n) := by
 apply List.ext_getElem
 ·
  simp [madeCells, wds, blank]
 ·
  intro i h1 h2
  simp [madeCells, wds, blank, Value.cells, Nat.mod_one]
end Go.Proofs.YtfljignkjmabpaaGreat.Siv
