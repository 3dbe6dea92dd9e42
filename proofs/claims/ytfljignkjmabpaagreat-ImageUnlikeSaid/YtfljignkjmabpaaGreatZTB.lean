/-
  Filters that are read: whether they are right, which bits a hash has, what a filter lacks: the program's functions and the document's own answers.
  Filters that are written: set, spoil, and what filters are the same.
  Filters that are made: Make, clone, Add, and the document's own Add.
  Copies of filters: slices.Clone, clone, Add.
  The document's own Add, in memory.
  Numbers of buckets and words; a name's bucket.
  The hashes of names that are seen.
-/
import Derived.Test.YtfljignkjmabpaaGreatZCA
import Derived.Test.YtfljignkjmabpaaGreatZFA
import Derived.Laws.Bits64b
import Derived.StillTailTactics
import Derived.Test.YtfljignkjmabpaaGreatZCZb
import Derived.Deep.Cut
import Derived.Deep.RegionHeld3
namespace Go.Proofs.YtfljignkjmabpaaGreat.Siv
set_option maxRecDepth 100000
set_option linter.unusedSimpArgs false
set_option linter.unusedVariables false
open Go.RowKit

/-- A filter. -/
abbrev flt (A : Option Addr) (n c : Nat) (s : Int) : Value := .agg #[.slice A n c, .int .i64 s]
def wds (l : List UInt64) : List Value := l.map u64v
def hsh (l : List UInt32) : List Value := l.map u32v

/-- A filter in a block of its own. -/
def Bx (w : World) (g : Nat) (A : Option Addr) (n c : Nat) (s : Int) : Prop := w.heap[g]? = some (.cells #[.slice A n c, .int .i64 s] 33 (0, 0))
section
variable {w w' : World} {g : Nat} {A : Option Addr} {n c : Nat} {s : Int}
theorem Bx.new (w : World) (A : Option Addr) (n c : Nat) (s : Int) : Bx (w.alloc (.cells #[.slice A n c, .int .i64 s] 33)) w.heap.size A n c s := heap_alloc_new _ _
theorem Bx.c0 (h : Bx w g A n c s) : w.cell? ⟨g, 0, none⟩ = some (.slice A n c) := cell_of_row w g 0 _ _ _ h
theorem Bx.c1 (h : Bx w g A n c s) : w.cell? ⟨g, 1, none⟩ = some (.int .i64 s) := cell_of_row w g 1 _ _ _ h
theorem Bx.f0 (h : Bx w g A n c s) (j : Nat) : w.frozen? ⟨g, j, none⟩ = false := frozen_of_row w g j _ _ h
theorem Bx.lt (h : Bx w g A n c s) : g < w.heap.size := by
  rcases Nat.lt_or_ge g w.heap.size with hlt | hge
  · exact hlt
  · have h' : w.heap[g]? = _ := h
    rw [Array.getElem?_eq_none hge] at h'; cases h'
theorem Bx.below (h : Bx w g A n c s) (hb : Below w.heap.size w w') : Bx w' g A n c s := (hb.block g h.lt).trans h
end
theorem cell_below {w w' : World} (hb : Below w.heap.size w w') {a : Addr} {u : Value} (h : w.cell? a = some u) : w'.cell? a = some u := (hb.cell (World.block_lt_of_cell? w _ h)).trans h
theorem cell_alloc {w : World} {a : Addr} {u : Value} (h : w.cell? a = some u) (o : Obj) : (w.alloc o).cell? a = some u := by
  rw [World.cell?_alloc_lt w _ _ (World.block_lt_of_cell? w _ h)]; exact h

theorem right_any (A : Option Addr) (n c : Nat) (s : Int) (w : World) (hn : n ≤ 9223372036854775807) :
    Calls Tryz.prog 170 #[flt A n c s] w fun e w' => e = .returned (.int .i64 (if formB n s then 0 else 20)) ∧ Below w.heap.size w w' := by
  cases hf : formB n s
  all_goals
    have HF := Lib.hid hf
    clear hf
    go_enter Tryz.func170, Tryz.ntmps170
    go_wp2_with (go_at_call 202; refine (isForm_any n s _ (by omega)).mono ?_; rw [HF.out]; rintro e w' ⟨rfl, rfl⟩)
    go_ret
    exact ⟨rfl, (Below.refl _ _).alloc (Nat.le_refl _) _⟩

def idx (n : Nat) (h : UInt32) : Nat := h.toNat / 64 % n
def msk (s : Nat) (h : UInt32) : UInt64 := bit (h.toNat % 64) ||| bit (h.toNat / 2 ^ s % 64)
theorem bit_wrap (a : Nat) (h : a < 64) : IntKind.u64.wrap (2 ^ a) = ((bit a).toNat : Int) := by
  rw [bit_val a h, IntKind.wrap_u64]
  have := pow64 a h
  exact Int.emod_eq_of_lt (by omega) this.1
theorem or_bits (a b : Nat) (ha : a < 64) (hb : b < 64) : bits .or .u64 (IntKind.u64.wrap (2 ^ a)) (IntKind.u64.wrap (2 ^ b)) = ((bit a ||| bit b).toNat : Int) := by
  rw [bit_wrap a ha, bit_wrap b hb, bits_or_u64_nat _ _ (UInt64.toNat_lt _) (UInt64.toNat_lt _), UInt64.toNat_or]
theorem bitsOf_any (A : Option Addr) (n c s : Nat) (h : UInt32) (w : World) (h0 : 0 < n) (hn : n ≤ 9223372036854775807) (hs : s ≤ 31) :
    Calls Tryz.prog 205 #[flt A n c s, u32v h] w fun e w' => e = .returned (.tuple #[.int .i64 (idx n h : Nat), u64v (msk s h)]) ∧ Below w.heap.size w w' := by
  have h32 := h.toNat_lt
  have hq : (h.toNat : Int) / 2 ^ s = ((h.toNat / 2 ^ s : Nat) : Int) := by simp
  generalize hx : h.toNat / 2 ^ s = x at hq
  have HX := Lib.hid hx
  clear hx
  go_enter Tryz.func205, Tryz.ntmps205
  go_wp2
  go_region
  go_wp2
  go_ret2
  rw [or_bits _ _ (Nat.mod_lt _ (by omega)) (Nat.mod_lt _ (by omega)), ← HX.out]
  exact ⟨by simp [idx, msk], ((Below.refl _ _).alloc (Nat.le_refl _) _).drew⟩

theorem wds_len (l : List UInt64) : (wds l).length = l.length := by simp [wds]
/-- The word at a place. -/
def wd (l : List UInt64) (i : Nat) : UInt64 := l.getD i 0
theorem wds_get (l : List UInt64) (i : Nat) (hi : i < l.length) : (wds l)[i]? = some (u64v (wd l i)) := by
  simp [wds, wd, hi]
theorem wds_one (l : List UInt64) : ∀ u ∈ wds l, u.oneCell' = true := by
  intro u hu
  simp only [wds, List.mem_map] at hu
  obtain ⟨b, _, rfl⟩ := hu
  rfl
theorem idx_lt (n : Nat) (h : UInt32) (h0 : 0 < n) : idx n h < n := Nat.mod_lt _ h0
theorem form_pos {n : Nat} {s : Int} (h : formB n s = true) : 0 < n ∧ n ≤ 64 ∧ 1 ≤ s ∧ s ≤ 31 := by
  simp only [formB, pow7, Bool.and_eq_true, decide_eq_true_eq] at h
  omega
def lacksB (l : List UInt64) (s : Int) (h : UInt32) : Bool := formB l.length s && ((wd l (idx l.length h) &&& msk s.toNat h) != msk s.toNat h)
theorem and_ne (x m : UInt64) : (bits .and .u64 (x.toNat : Int) (m.toNat : Int) != (m.toNat : Int)) = ((x &&& m) != m) := by
  have h1 := x.toNat_lt
  have h2 := m.toNat_lt
  rw [bits_and_u64_nat _ _ h1 h2, ← UInt64.toNat_and, Bool.eq_iff_iff]
  simp only [bne_iff_ne, ne_eq, ← UInt64.toNat_inj]
  omega

theorem lacks_any (P : Nat → Prop) (A : Option Addr) (c : Nat) (l : List UInt64) (s : Int) (h : UInt32) (w : World) (hx : Src w P A l.length c (wds l)) (hn : l.length ≤ 9223372036854775807) :
    Calls Tryz.prog 176 #[flt A l.length c s, u32v h] w fun e w' => e = .returned (.bool (lacksB l s h)) ∧ Below w.heap.size w w' := by
  cases hf : formB l.length s
  · have HF := Lib.hid hf
    clear hf
    go_enter Tryz.func176, Tryz.ntmps176
    go_wp2_with (go_at_call 170; refine (right_any A _ c s _ hn).mono ?_; rw [HF.out]; rintro e w1 ⟨rfl, hb1⟩)
    go_ret
    have hl : lacksB l s h = false := by simp [lacksB, HF.out]
    rw [hl]
    exact ⟨rfl, ((Below.refl _ _).alloc (Nat.le_refl _) _).trans (hb1.mono (by simp))⟩
  · obtain ⟨p0, p1, p2, p3⟩ := form_pos hf
    obtain ⟨s, rfl⟩ : ∃ k : Nat, s = k := ⟨s.toNat, by omega⟩
    have HF := Lib.hid hf
    have HX := Lib.hid hx.lt
    clear hf hx
    have hi := idx_lt l.length h p0
    cases A with
    | none => have := (HX.out.nil rfl).1; omega
    | some ad =>
      have hc0 := HX.out.at_ ad rfl _ _ (wds_get l _ hi)
      have HBX := Lib.hid (Bx.new w (some ad) l.length c s)
      have HC := Lib.hid (hc0)
      clear hc0
      go_enter Tryz.func176, Tryz.ntmps176
      go_wp2_with (first
        | (go_at_call 170; refine (right_any (some ad) _ c s _ hn).mono ?_; rw [HF.out]; rintro e w1 ⟨rfl, hb1⟩; have HB1 := Lib.hid hb1; have HBX1 := Lib.hid (HBX.out.below hb1); have k0 := HBX1.out.c0; have k1 := HBX1.out.c1; clear hb1)
        | (go_at_call 205; refine (bitsOf_any (some ad) l.length c s h _ p0 hn (by omega)).mono ?_; rintro e w2 ⟨rfl, hb2⟩; have HB2 := Lib.hid hb2; have HBX2 := Lib.hid (HBX1.out.below hb2); have k2 := HBX2.out.c0; have k3 := HBX2.out.c1; have k4 := (((cell_below hb2 (cell_below HB1.out (cell_alloc HC.out _))))); clear hb2 k0 k1))
      go_ret
      rw [and_ne]
      have hl : lacksB l s h = ((wd l (idx l.length h) &&& msk s h) != msk s h) := by simp [lacksB, HF.out]
      rw [hl]
      exact ⟨rfl, (((Below.refl _ _).alloc (Nat.le_refl _) _).trans (HB1.out.mono (by simp))).trans (HB2.out.mono (by have := HB1.out.size; simp at this; omega))⟩

theorem rshifted_nat (h : UInt32) (s x : Nat) (w : World) (hs : s ≤ 31) (hx : h.toNat / 2 ^ s = x) :
    Calls Tryz.prog 26 #[u32v h, .int .i64 (s : Int)] w fun e w' => e = .returned (u32n x) ∧ w = w' := by
  have := rshifted_any h (s : Int) w (by omega) (by omega)
  rw [show ((s : Int).toNat) = s by simp, hx] at this
  exact this
end Go.Proofs.YtfljignkjmabpaaGreat.Siv

namespace Go.Proofs.YtfljignkjmabpaaGreat.Siv
set_option maxRecDepth 100000
set_option linter.unusedSimpArgs false
set_option linter.unusedVariables false
open Go.RowKit

def setW (s : Nat) (l : List UInt64) (h : UInt32) : List UInt64 := l.set (idx l.length h) (wd l (idx l.length h) ||| msk s h)
def setAll (s : Nat) (l : List UInt64) (hs : List UInt32) : List UInt64 := hs.foldl (setW s) l
theorem setW_len (s : Nat) (l : List UInt64) (h : UInt32) : (setW s l h).length = l.length := by simp [setW]
theorem setAll_len (s : Nat) (l : List UInt64) (hs : List UInt32) : (setAll s l hs).length = l.length := by
  induction hs generalizing l with
  | nil => rfl
  | cons h hs ih => exact (ih (setW s l h)).trans (setW_len s l h)
theorem setAll_take (s : Nat) (l : List UInt64) (hs : List UInt32) (k : Nat) (hk : k < hs.length) : setAll s l (hs.take (k + 1)) = setW s (setAll s l (hs.take k)) hs[k] := by
  unfold setAll
  rw [List.take_succ_eq_append_getElem hk, List.foldl_append]
  rfl
theorem wds_set (l : List UInt64) (i : Nat) (x : UInt64) : wds (l.set i x) = (wds l).set i (u64v x) := by simp [wds]
theorem hsh_get (hs : List UInt32) (k : Nat) (hk : k < hs.length) : (hsh hs)[k]? = some (u32v hs[k]) := by simp [hsh, hk]

theorem own_some {w : World} {B : Nat} {e : TypeId} {A : Option Addr} {n c : Nat} {xs : List Value} (h : w.ownsRow B e 1 (.slice A n c) n xs) (h0 : 0 < n) : ∃ g, A = some ⟨g, 0, none⟩ ∧ B ≤ g ∧ g < w.heap.size := by
  rcases h.2 with ⟨_, hn⟩ | ⟨g, cap, cur, hv, hb, hg, _⟩
  · omega
  · injection hv with h1
    exact ⟨g, h1, hb, (Array.getElem?_eq_some_iff.1 hg).1⟩
theorem own_below {w w' : World} {B : Nat} {e : TypeId} {v : Value} {n : Nat} {xs : List Value} (h : w.ownsRow B e 1 v n xs) (hb : Below w.heap.size w w') : w'.ownsRow B e 1 v n xs :=
  h.kept (row := none) ⟨hb.os, hb.tape, hb.output, hb.size, fun k hk _ => hb.block k hk⟩ (by cases v.ownBlock <;> simp)
theorem Bx.setCell {w : World} {g : Nat} {A : Option Addr} {n c : Nat} {s : Int} (h : Bx w g A n c s) {a : Addr} (ha : g ≠ a.block) (u : Value) : Bx (w.setCell a u) g A n c s := (Below.heap_setCell w a u g ha).trans h

theorem grow_below {a b : World} (h : Below a.heap.size a b) (r : Option Nat) : a.grownBy b r := ⟨h.os, h.tape, h.output, h.size, fun k hk _ => h.block k hk⟩
theorem Bx.grown {w w' : World} {g : Nat} {A : Option Addr} {n c : Nat} {s : Int} {r : Option Nat} (h : Bx w g A n c s) (hg : w.grownBy w' r) (hr : some g ≠ r) : Bx w' g A n c s := (hg.block g h.lt hr).trans h
theorem Bx.over {w : World} {g : Nat} {A : Option Addr} {n c : Nat} {s : Int} (h : Bx w g A n c s) (A' : Option Addr) (n' c' : Nat) (s' : Int) : Bx ((w.setCell ⟨g, 0, none⟩ (.slice A' n' c')).setCell ⟨g, 1, none⟩ (.int .i64 s')) g A' n' c' s' := by
  have h1 := heap_setCell_same w g 0 _ _ (.slice A' n' c') h
  exact heap_setCell_same _ g 1 _ _ (.int .i64 s') h1
/-- Are the filters the same? -/
def sameB (l m : List UInt64) (s t : Int) : Bool := decide (s = t ∧ l = m)
end Go.Proofs.YtfljignkjmabpaaGreat.Siv

namespace Go.Proofs.YtfljignkjmabpaaGreat.Siv
set_option maxRecDepth 100000
set_option linter.unusedSimpArgs false
set_option linter.unusedVariables false
open Go.RowKit

theorem Tryz.info_word : (Tryz.prog.info? 52).map (fun i => (i.zero, i.size, i.bytes)) = some (some (.int .u64 0), 1, 8) := by kernel_rfl

/-- A new filter with these words. -/
def Made (w : World) (l : List UInt64) (s : Int) (e : Ending) (w' : World) : Prop :=
  ∃ A c, e = .returned (.tuple #[flt A l.length c s, .int .i64 0]) ∧ w'.ownsRow w.heap.size 52 1 (.slice A l.length c) l.length (wds l) ∧ Below w.heap.size w w'
/-- No filter. -/
def NoF (w : World) (e : Ending) (w' : World) : Prop := e = .returned (.tuple #[flt none 0 0 0, .int .i64 20]) ∧ Below w.heap.size w w'
def blank (n : Nat) : List UInt64 := List.replicate n 0
theorem made_blank (n : Nat) : (madeCells (Value.int .u64 0).cells (n * 1)).toList = wds (blank n) := by
  apply List.ext_getElem
  · simp [madeCells, wds, blank]
  · intro i h1 h2
    simp [madeCells, wds, blank, Value.cells, Nat.mod_one]

end Go.Proofs.YtfljignkjmabpaaGreat.Siv

namespace Go.Proofs.YtfljignkjmabpaaGreat.Siv
set_option maxRecDepth 100000
set_option linter.unusedSimpArgs false
set_option linter.unusedVariables false
open Go.RowKit

/-- A new row with these words; all else is as it was. -/
def Cloned (w : World) (n : Nat) (l : List UInt64) (e : Ending) (w' : World) : Prop :=
  ∃ A' c', e = .returned (.slice A' n c') ∧ w'.ownsRow w.heap.size 52 1 (.slice A' n c') n (wds l) ∧ Below w.heap.size w w'

/-- A new filter with these words, handed back alone. -/
def Copied (w : World) (n : Nat) (l : List UInt64) (s : Int) (e : Ending) (w' : World) : Prop :=
  ∃ A c, e = .returned (flt A n c s) ∧ w'.ownsRow w.heap.size 52 1 (.slice A n c) n (wds l) ∧ Below w.heap.size w w'

/-- An argument's box and a result's. -/
theorem two_boxes (w : World) (A : Option Addr) (n c : Nat) (s : Int) :
    Bx ((w.alloc (.cells #[.slice A n c, .int .i64 s] 33)).alloc (.cells #[.slice none 0 0, .int .i64 0] 33)) w.heap.size A n c s ∧
    Bx ((w.alloc (.cells #[.slice A n c, .int .i64 s] 33)).alloc (.cells #[.slice none 0 0, .int .i64 0] 33)) (w.heap.size + 1) none 0 0 0 ∧
    Below w.heap.size w ((w.alloc (.cells #[.slice A n c, .int .i64 s] 33)).alloc (.cells #[.slice none 0 0, .int .i64 0] 33)) ∧
    ((w.alloc (.cells #[.slice A n c, .int .i64 s] 33)).alloc (.cells #[.slice none 0 0, .int .i64 0] 33)).heap.size = w.heap.size + 2 := by
  refine ⟨(Bx.new w A n c s).below ((Below.refl _ _).alloc (Nat.le_refl _) _), ?_, ((Below.refl _ _).alloc (Nat.le_refl _) _).alloc (by simp) _, by simp⟩
  have := Bx.new (w.alloc (.cells #[.slice A n c, .int .i64 s] 33)) none 0 0 0
  simpa using this

end Go.Proofs.YtfljignkjmabpaaGreat.Siv

namespace Go.Proofs.YtfljignkjmabpaaGreat.Siv
set_option maxRecDepth 100000
set_option linter.unusedSimpArgs false
set_option linter.unusedVariables false
open Go.RowKit

/-- An argument's box, a result's, and a variable's. -/
theorem three_boxes (w : World) (A : Option Addr) (n c : Nat) (s : Int) (A' : Option Addr) (n' c' : Nat) (s' : Int) :
    Bx (((w.alloc (.cells #[.slice A n c, .int .i64 s] 33)).alloc (.cells #[.slice none 0 0, .int .i64 0] 33)).alloc (.cells #[.slice A' n' c', .int .i64 s'] 33)) w.heap.size A n c s ∧
    Bx (((w.alloc (.cells #[.slice A n c, .int .i64 s] 33)).alloc (.cells #[.slice none 0 0, .int .i64 0] 33)).alloc (.cells #[.slice A' n' c', .int .i64 s'] 33)) (w.heap.size + 1) none 0 0 0 ∧
    Bx (((w.alloc (.cells #[.slice A n c, .int .i64 s] 33)).alloc (.cells #[.slice none 0 0, .int .i64 0] 33)).alloc (.cells #[.slice A' n' c', .int .i64 s'] 33)) (w.heap.size + 1 + 1) A' n' c' s' ∧
    Below w.heap.size w (((w.alloc (.cells #[.slice A n c, .int .i64 s] 33)).alloc (.cells #[.slice none 0 0, .int .i64 0] 33)).alloc (.cells #[.slice A' n' c', .int .i64 s'] 33)) ∧
    (((w.alloc (.cells #[.slice A n c, .int .i64 s] 33)).alloc (.cells #[.slice none 0 0, .int .i64 0] 33)).alloc (.cells #[.slice A' n' c', .int .i64 s'] 33)).heap.size = w.heap.size + 3 := by
  obtain ⟨h1, h2, h3, h4⟩ := two_boxes w A n c s
  have hb := (Below.refl ((w.alloc (.cells #[.slice A n c, .int .i64 s] 33)).alloc (.cells #[.slice none 0 0, .int .i64 0] 33)).heap.size ((w.alloc (.cells #[.slice A n c, .int .i64 s] 33)).alloc (.cells #[.slice none 0 0, .int .i64 0] 33))).alloc (Nat.le_refl _) (.cells #[.slice A' n' c', .int .i64 s'] 33)
  refine ⟨h1.below hb, h2.below hb, ?_, h3.trans (hb.mono (by omega)), by simp⟩
  have := Bx.new ((w.alloc (.cells #[.slice A n c, .int .i64 s] 33)).alloc (.cells #[.slice none 0 0, .int .i64 0] 33)) A' n' c' s'
  rw [h4] at this
  exact this

theorem setAll_nil (s : Nat) (l : List UInt64) : setAll s l [] = l := rfl
theorem radd_any (P : Nat → Prop) (A : Option Addr) (n c : Nat) (s : Int) (l : List UInt64) (Ah : Option Addr) (ch : Nat) (hs : List UInt32) (w : World) (hx : Src w P A n c (wds l)) (hh : Src w (fun k => k < w.heap.size) Ah hs.length ch (hsh hs)) (hm : hs.length ≤ 4611686018427387904)
    (hn : n * 8 ≤ 140737488355328) (hf : hs = [] ∨ (0 < n ∧ 0 ≤ s ∧ s ≤ 31)) :
    Calls Tryz.prog 13 #[flt A n c s, .slice Ah hs.length ch] w (Copied w n (setAll s.toNat l hs) s) := by
  obtain ⟨i0, hi, hz0, hz1, hz2⟩ := info_parts Tryz.info_word
  have HT := Lib.hid (three_boxes w A n c s none 0 0 s)
  have HX := Lib.hid (hx.lt.below HT.out.2.2.2.1 (fun _ h => h))
  have HH := Lib.hid hh
  have HF := Lib.hid hf
  have HL := Lib.hid (show l.length = n by simpa [wds_len] using hx.len)
  have h1 := wds_one l
  have m1 : 0 + n ≤ maxLen := by simp only [maxLen]; omega
  have m2 : (0 + n) * 8 ≤ 140737488355328 := by omega
  clear hf hx hh
  go_enter Tryz.func13, Tryz.ntmps13
  go_wp2_with (at_builtin; refine wpList_append_src rfl (.tmp 13) (.tmp 15) _ rfl w.heap.size 52 i0 _ 8 Tryz.underlying31 hi hz0 hz1 hz2 rfl (.slice none 0 0) 0 [] rfl (World.ownsRow_nil _ _ _ _) _ A n c (wds l) rfl HX.out h1 m1 m2 (by simp; omega) ?_; intro v' w1 hown hg hat; obtain ⟨A', c', rfl⟩ := own_slice hown; have HB1 := Lib.hid (HT.out.1.grown hg (by simp [Value.ownBlock])); have HB2 := Lib.hid (HT.out.2.1.grown hg (by simp [Value.ownBlock])); have HB3 := Lib.hid (HT.out.2.2.1.grown hg (by simp [Value.ownBlock])); have j0 := HB3.out.c0; have j1 := HB3.out.f0 0; have HBW := Lib.hid (HT.out.2.2.2.1.grown hg (by have := HT.out.2.2.2.1.size; exact this) (by intro k hk; cases hk)); have HO := Lib.hid hown; have HAT := Lib.hid hat; clear hown hg hat)
  have hB3 : Bx (w1.setCell ⟨w.heap.size + 1 + 1, 0, none⟩ (.slice A' n c')) (w.heap.size + 1 + 1) A' n c' s := heap_setCell_same w1 (w.heap.size + 1 + 1) 0 _ _ _ HB3.out
  have hB1 := HB1.out.setCell (a := ⟨w.heap.size + 1 + 1, 0, none⟩) (by show w.heap.size ≠ w.heap.size + 1 + 1; omega) (.slice A' n c')
  have hB2 := HB2.out.setCell (a := ⟨w.heap.size + 1 + 1, 0, none⟩) (by show w.heap.size + 1 ≠ w.heap.size + 1 + 1; omega) (.slice A' n c')
  have hb := HBW.out.setCell (p := ⟨w.heap.size + 1 + 1, 0, none⟩) (by show w.heap.size ≤ w.heap.size + 1 + 1; omega) (.slice A' n c')
  have hrow : ∀ g, row A' = some g → w.heap.size + 1 + 1 < g := by
    intro g hg
    rcases HAT.out with h | h
    · rw [row_own] at h; rw [hg] at h; cases h
    · rw [row_own] at h; rw [hg] at h; injection h with h; have := HT.out.2.2.2.2; omega
  have ho : (w1.setCell ⟨w.heap.size + 1 + 1, 0, none⟩ (.slice A' n c')).ownsRow w.heap.size 52 1 (.slice A' n c') n (wds l) := by
    have h := HO.out
    simp only [Nat.zero_add, List.nil_append] at h
    exact ownsRow_setCell_other h (by rw [row_own]; intro e; have := hrow _ e; exact absurd this (Nat.lt_irrefl _)) _
  have HR := Lib.hid hrow
  generalize w1.setCell ⟨w.heap.size + 1 + 1, 0, none⟩ (.slice A' n c') = w5 at hB1 hB2 hB3 hb ho ⊢
  clear HB1 HB2 HB3 HBW HO HAT HT HX j0 j1 hi hz0 hz1 hz2 h1 m1 m2 hrow
  go_loopw [6] (fun i wr => ∃ k : Nat, k ≤ hs.length ∧ i = .int .i64 k ∧ Bx wr w.heap.size A n c s ∧ Bx wr (w.heap.size + 1) none 0 0 0 ∧ Bx wr (w.heap.size + 1 + 1) A' n c' s ∧ Below w.heap.size w wr ∧ wr.ownsRow w.heap.size 52 1 (.slice A' n c') n (wds (setAll s.toNat l (hs.take k)))) (fun i _ => hs.length - (intOf i).toNat)
  case atStart => exact ⟨0, Nat.zero_le _, rfl, hB1, hB2, hB3, hb, ho⟩
  case round =>
    clear hB1 hB2 hB3 hb ho
    obtain ⟨k, hk, rfl, hB1, hB2, hB3, hb, ho⟩ := hrel
    by_cases hlt : k < hs.length
    · have hne : hs ≠ [] := by intro e; rw [e] at hlt; simp at hlt
      obtain ⟨p0, p1, p2⟩ : 0 < n ∧ 0 ≤ s ∧ s ≤ 31 := HF.out.resolve_left hne
      obtain ⟨g, rfl, hg1, hg2⟩ := own_some ho p0
      obtain ⟨s, rfl⟩ : ∃ k : Nat, s = k := ⟨s.toNat, by omega⟩
      cases Ah with
      | none => have := (HH.out.nil rfl).1; omega
      | some ad =>
        have hc := (HH.out.below hb (fun _ h => h)).at_ ad rfl k _ (hsh_get hs k hlt)
        have HS := Lib.hid (setAll_take s l hs k hlt)
        have HL2 := Lib.hid ((setAll_len s l (hs.take k)).trans HL.out)
        rw [show ((s : Int).toNat) = s by simp] at ho ⊢
        generalize setAll s l (hs.take k) = cur at ho HS HL2
        generalize hs[k] = h at hc HS
        have hi := idx_lt n h p0
        have h32 := h.toNat_lt
        have hma : (h.toNat : Int) % 64 = ((h.toNat % 64 : Nat) : Int) := by simp
        generalize hxa : h.toNat % 64 = a at hma
        have hmt : (h.toNat : Int).tmod 64 = (a : Int) := by rw [Int.tmod_eq_emod_of_nonneg (by omega)]; exact hma
        have ha : a < 64 := by omega
        have hx2 : h.toNat / 2 ^ s ≤ h.toNat := Nat.div_le_self _ _
        generalize hxx : h.toNat / 2 ^ s = x at hx2
        have hmb : (x : Int) % 64 = ((x % 64 : Nat) : Int) := by simp
        generalize hxb : x % 64 = b at hmb
        have hmu : (x : Int).tmod 64 = (b : Int) := by rw [Int.tmod_eq_emod_of_nonneg (by omega)]; exact hmb
        have hbb : b < 64 := by omega
        have HSH := Lib.hid (fun w : World => rshifted_nat h s x w (by omega) hxx)
        have HXX := Lib.hid hxx
        have HXA := Lib.hid hxa
        have HXB := Lib.hid hxb
        have hix : (h.toNat : Int) / 64 % (n : Int) = (idx n h : Nat) := by simp [idx]
        clear hxx hxa hxb
        have k1 := hB1.c0
        have k2 := hB1.c1
        have k3 := hB3.c0
        have k4 := hB3.c1
        have k5 := ho.cellAt (idx n h) (by omega)
        rw [wds_get _ _ (by rw [HL2.out]; exact hi)] at k5
        have k6 := ho.frozenAt (idx n h)
        have HB1 := Lib.hid hB1
        have HB2 := Lib.hid hB2
        have HB3 := Lib.hid hB3
        have HB := Lib.hid hb
        have HO := Lib.hid ho
        clear hB1 hB2 hB3 hb ho
        have hcw : ∀ w : World, Calls Tryz.prog 25 #[u64v (wd cur (idx n h)), u32n a] w fun e w' => e = .returned (u64v (wd cur (idx n h) ||| bit a)) ∧ w' = w := fun w => (rwith_any (wd cur (idx n h)) a w ha).mono (fun e w' h => ⟨h.1, h.2.symm⟩)
        generalize hy : wd cur (idx n h) ||| bit a = y at hcw
        have HY := Lib.hid hy
        have HCW := Lib.hid hcw
        clear hy hcw
        go_wp2
        go_still_tail 11, (by kernel_rfl)
        refine wpStill_step (fun K hK => ?_)
        go_simp
        refine ⟨_, HCW.out _, hK _ ?_⟩
        clear hK K
        refine wpStill_nil ?_
        change wpList _ _ _ _ _ wr.drew
        go_wp2
        have hB1 := (HB1.out.setCell (a := ⟨g, idx n h, none⟩) (by show w.heap.size ≠ g; have := HR.out g rfl; omega) (u64v y)).below (drew_below _)
        have hB2 := (HB2.out.setCell (a := ⟨g, idx n h, none⟩) (by show w.heap.size + 1 ≠ g; have := HR.out g rfl; omega) (u64v y)).below (drew_below _)
        have hB3 := (HB3.out.setCell (a := ⟨g, idx n h, none⟩) (by show w.heap.size + 1 + 1 ≠ g; have := HR.out g rfl; omega) (u64v y)).below (drew_below _)
        have hb := (HB.out.setCell (p := ⟨g, idx n h, none⟩) (by exact hg1) (u64v y)).drew
        have ho := own_below (HO.out.stored (idx n h) (u64v y)).1 (drew_below _)
        generalize (wr.setCell ⟨g, idx n h, none⟩ (u64v y)).drew = w6 at hB1 hB2 hB3 hb ho ⊢
        rw [← wds_set] at ho
        clear HB1 HB2 HB3 HB HO k1 k2 k3 k4 k5 k6 hc HCW
        have k1 := hB1.c0
        have k2 := hB1.c1
        have k3 := hB3.c0
        have k4 := hB3.c1
        have k5 := ho.cellAt (idx n h) (by omega)
        rw [wds_get _ _ (by rw [List.length_set, HL2.out]; exact hi)] at k5
        have hwd : wd (cur.set (idx n h) y) (idx n h) = y := by
          have := HL2.out
          simp [wd, this, hi]
        rw [hwd] at k5
        have k6 := ho.frozenAt (idx n h)
        clear hwd
        have hcw : ∀ w : World, Calls Tryz.prog 25 #[u64v y, u32n b] w fun e w' => e = .returned (u64v (y ||| bit b)) ∧ w' = w := fun w => (rwith_any y b w hbb).mono (fun e w' h => ⟨h.1, h.2.symm⟩)
        generalize hz : y ||| bit b = z at hcw
        have HSET := Lib.hid (show setW s cur h = (cur.set (idx n h) y).set (idx n h) z by
          rw [List.set_set, setW, HL2.out, msk, HXA.out, HXX.out, HXB.out, ← UInt64.or_assoc, HY.out, hz])
        have HCW := Lib.hid hcw
        have HB1 := Lib.hid hB1
        have HB2 := Lib.hid hB2
        have HB3 := Lib.hid hB3
        have HB := Lib.hid hb
        have HO := Lib.hid ho
        clear hB1 hB2 hB3 hb ho hz hcw
        generalize cur.set (idx n h) y = cur2 at HO HSET
        clear HXA HXX HXB hma hmt hmb
        go_still_tail 14, (by kernel_rfl)
        refine wpStill_step (fun K hK => ?_)
        go_simp
        refine ⟨_, (HSH.out _).mono (fun e w' h => ⟨h.1, h.2.symm⟩), hK _ ?_⟩
        clear hK K
        repeat still_step
        refine wpStill_step (fun K hK => ?_)
        go_simp
        refine ⟨_, HCW.out _, hK _ ?_⟩
        clear hK K
        refine wpStill_nil ?_
        change wpList _ _ _ _ _ w6.drew
        go_wp2
        have e : wds ((cur2).set (idx n h) z) = (wds cur2).set (idx n h) (u64v z) := wds_set _ _ _
        go_roundw
        case rel =>
          refine ⟨k + 1, by omega, by go_num, (HB1.out.setCell (a := ⟨g, idx n h, none⟩) (by show w.heap.size ≠ g; have := HR.out g rfl; omega) (u64v z)).below (drew_below _), (HB2.out.setCell (a := ⟨g, idx n h, none⟩) (by show w.heap.size + 1 ≠ g; have := HR.out g rfl; omega) (u64v z)).below (drew_below _), (HB3.out.setCell (a := ⟨g, idx n h, none⟩) (by show w.heap.size + 1 + 1 ≠ g; have := HR.out g rfl; omega) (u64v z)).below (drew_below _), (HB.out.setCell (p := ⟨g, idx n h, none⟩) (by exact hg1) (u64v z)).drew, ?_⟩
          rw [HS.out, HSET.out, e]
          exact own_below (HO.out.stored (idx n h) (u64v z)).1 (drew_below _)
        case measure => simp [intOf]; omega
    · obtain rfl : k = hs.length := by omega
      rw [List.take_of_length_le (Nat.le_refl _)] at ho
      have k0 := hB3.c0
      have k1 := hB3.c1
      have k2 := hB2.c0
      have k3 := hB2.c1
      have k4 := hB2.f0 0
      have k5 := hB2.f0 1
      have HB2 := Lib.hid hB2
      have HB := Lib.hid hb
      have HO := Lib.hid ho
      clear hB1 hB2 hB3 hb ho
      go_wp2
      have hq := HB2.out.over A' n c' s
      have q0 := hq.c0
      have q1 := hq.c1
      have hrw : ∀ j, (Value.slice A' n c').ownBlock ≠ some (⟨w.heap.size + 1, j, none⟩ : Addr).block := fun j e => by
        rw [row_own] at e
        have := HR.out _ e
        have h' : w.heap.size + 1 + 1 < w.heap.size + 1 := this
        omega
      have how := ownsRow_setCell_other (ownsRow_setCell_other HO.out (hrw 0) (.slice A' n c')) (hrw 1) (.int .i64 s)
      have hbw := (HB.out.setCell (p := ⟨w.heap.size + 1, 0, none⟩) (by show w.heap.size ≤ w.heap.size + 1; omega) (.slice A' n c')).setCell (p := ⟨w.heap.size + 1, 1, none⟩) (by show w.heap.size ≤ w.heap.size + 1; omega) (.int .i64 s)
      generalize (wr.setCell ⟨w.heap.size + 1, 0, none⟩ (.slice A' n c')).setCell ⟨w.heap.size + 1, 1, none⟩ (.int .i64 s) = w3 at q0 q1 how hbw ⊢
      exact bodyPost_ret (v := flt A' n c' s) (by simp [results, Tryz.results13, go_sem, q0, q1]) rfl ⟨A', c', rfl, how, hbw⟩
end Go.Proofs.YtfljignkjmabpaaGreat.Siv

namespace Go.Proofs.YtfljignkjmabpaaGreat
set_option maxRecDepth 100000
set_option linter.unusedSimpArgs false
set_option linter.unusedVariables false
open Go.RowKit

theorem ret_i {x y : Int} (h : x = y) : Ending.returned (.int .i64 x) = .returned (.int .i64 y) := by rw [h]
def cntT (n : Int) : Int := if n ≤ 4 then 1 else (n + 3) / 4
set_option maxRecDepth 100000 in
theorem qcount_any (n : Int) (hn : I64 n) (w : World) : Calls Tryz.prog 95 #[.int .i64 n] w fun e w' => e = .returned (.int .i64 (cntT n)) ∧ w = w' := by
  unfold I64 at hn
  have hc : cntT n = if n ≤ 4 then 1 else (n + 3) / 4 := rfl
  by_cases h1 : n < 1
  · have HM := Lib.hid (show 1 = cntT n by rw [hc]; split <;> omega)
    have hd : decide (n < 1) = true := decide_eq_true h1
    clear hc hn
    go_enter Tryz.func95, Tryz.ntmps95
    go_wp2_with fail
    go_ret
    exact ⟨ret_i HM.out, rfl⟩
  · have hd : decide (n < 1) = false := decide_eq_false h1
    have hq : n.tdiv 4 = n / 4 := Int.tdiv_eq_ediv_of_nonneg (by omega)
    have hr : n.tmod 4 = n % 4 := Int.tmod_eq_emod_of_nonneg (by omega)
    have hw1 : wrap64 (n / 4) = n / 4 := IntWalk.wrap64_in _ (by omega)
    have hw2 : wrap64 (n / 4 + 1) = n / 4 + 1 := IntWalk.wrap64_in _ (by omega)
    by_cases hr0 : n % 4 = 0
    · have hm : cntT n = n / 4 := by rw [hc]; split <;> omega
      have HM := Lib.hid hm
      clear hc hn hm
      go_enter Tryz.func95, Tryz.ntmps95
      go_wp2_with fail
      first | go_ret | skip
      exact ⟨ret_i HM.out.symm, rfl⟩
    · have HM := Lib.hid (show cntT n = n / 4 + 1 by rw [hc]; split <;> omega)
      have hd2 : (n % 4 != 0) = true := by simpa using hr0
      have hd3 : (n % 4 == 0) = false := by simpa using hr0
      clear hc hn
      go_enter Tryz.func95, Tryz.ntmps95
      go_wp2_with fail
      first | go_ret | skip
      exact ⟨ret_i HM.out.symm, rfl⟩
theorem cnt_pos (n : Int) : 1 ≤ cntT n := by unfold cntT; split <;> omega
/-- The bucket of a hash among so many. -/
def bkt (h : UInt32) (k : Nat) : Nat := h.toNat % k
theorem bkt_lt (h : UInt32) {k : Nat} (hk : 0 < k) : bkt h k < k := Nat.mod_lt _ hk
theorem bucket_any (h : UInt32) (k : Nat) (hk : 0 < k) (hk2 : k ≤ 9223372036854775807) (w : World) : Calls Tryz.prog 203 #[.int .u32 (h.toNat : Int), .int .i64 (k : Int)] w fun e w' => e = .returned (.int .i64 (bkt h k : Int)) ∧ w = w' := by
  have hlt := h.toNat_lt
  have hk0 : ((k : Int) == 0) = false := by simp; omega
  have HM := Lib.hid (show ((h.toNat : Int).tmod (k : Int)) = (bkt h k : Int) by rw [Int.tmod_eq_emod_of_nonneg (by omega)]; rfl)
  have hb := bkt_lt h hk
  have hw1 : wrap64 (h.toNat : Int) = (h.toNat : Int) := IntWalk.wrap64_in _ (by omega)
  have HW2 := Lib.hid (show wrap64 (bkt h k : Int) = (bkt h k : Int) from IntWalk.wrap64_in _ (by omega))
  have hm := HM.out
  have hw2 := HW2.out
  clear hlt hb
  generalize h.toNat = hn at *
  go_enter Tryz.func203, Tryz.ntmps203
  go_wp2_with fail
  first | go_ret | skip
  exact ⟨rfl, rfl⟩
/-- A name's hash. -/
def hashS (l : Str) : UInt32 := Siv.hashFrom 5381 l
abbrev hv (h : UInt32) : Value := .int .u32 (h.toNat : Int)
theorem thash_any (l : Str) (w : World) (hl : l.length ≤ 9223372036854775807) : Calls Tryz.prog 178 #[str l] w fun e w' => e = .returned (hv (hashS l)) ∧ w = w' :=
  Siv.hash_any ⟨l.toArray⟩ w (by simpa [ByteArray.size] using hl)
theorem qhash_any (l : Str) (w : World) (hl : l.length ≤ 9223372036854775807) : Calls Tryz.prog 98 #[str l] w fun e w' => e = .returned (hv (hashS l)) ∧ w = w' :=
  Siv.rhash_any ⟨l.toArray⟩ w (by simpa [ByteArray.size] using hl)
theorem home_any (l : Str) (k : Nat) (hk : 0 < k) (hk2 : k ≤ 9223372036854775807) (w : World) (hl : l.length ≤ 9223372036854775807) : Calls Tryz.prog 97 #[str l, .int .i64 (k : Int)] w fun e w' => e = .returned (.int .i64 (bkt (hashS l) k : Int)) ∧ w = w' := by
  have HH := Lib.hid (fun X => qhash_any l X hl)
  generalize hashS l = h at *
  have hlt := h.toNat_lt
  have hb := bkt_lt h hk
  have hw1 : IntKind.u64.wrap (h.toNat : Int) = (h.toNat : Int) := by rw [IntKind.wrap_u64]; omega
  have hw2 : IntKind.u64.wrap (k : Int) = (k : Int) := by rw [IntKind.wrap_u64]; omega
  have hk0 : ((k : Int) == 0) = false := by simp; omega
  have HM := Lib.hid (show ((h.toNat : Int).tmod (k : Int)) = (bkt h k : Int) by rw [Int.tmod_eq_emod_of_nonneg (by omega)]; rfl)
  have hm := HM.out
  have hw3 : wrap64 (bkt h k : Int) = (bkt h k : Int) := IntWalk.wrap64_in _ (by omega)
  have hw4 : IntKind.u64.wrap (bkt h k : Int) = (bkt h k : Int) := by rw [IntKind.wrap_u64]; omega
  clear hlt hb
  go_enter Tryz.func97, Tryz.ntmps97
  go_upto_region 99 with (go_at_call 98; refine (HH.out _).mono ?_; rintro e w' ⟨rfl, rfl⟩)
  first | go_ret | skip
  exact ⟨ret_i hw3, rfl⟩
def wcN (n : Nat) : Nat := if n ≤ 8 then 1 else if n ≤ 16 then 2 else if n ≤ 32 then 4 else if n ≤ 64 then 8 else if n ≤ 128 then 16 else if n ≤ 256 then 32 else 64
def WcAt (n k : Nat) : Prop := k = 1 ∨ (k = 2 ∧ 8 < n) ∨ (k = 4 ∧ 16 < n) ∨ (k = 8 ∧ 32 < n) ∨ (k = 16 ∧ 64 < n) ∨ (k = 32 ∧ 128 < n) ∨ (k = 64 ∧ 256 < n)
theorem WcAt.next {n k : Nat} (h : WcAt n k) (h1 : k < 64) (h2 : k * 8 < n) : WcAt n (k * 2) := by unfold WcAt at *; omega
theorem WcAt.last {n k : Nat} (h : WcAt n k) (h1 : ¬ (k < 64 ∧ k * 8 < n)) : wcN n = k := by
  unfold WcAt at h
  unfold wcN
  repeat' split
  all_goals omega
theorem WcAt.le {n k : Nat} (h : WcAt n k) : k ≤ 64 ∧ 1 ≤ k := by unfold WcAt at h; omega
theorem qwords_any (n : Nat) (w : World) : Calls Tryz.prog 96 #[.int .i64 (n : Int)] w fun e w' => e = .returned (.int .i64 (wcN n : Int)) ∧ w = w' := by
  go_enter Tryz.func96, Tryz.ntmps96
  go_upto_region 2 with (fail)
  go_loopw [3] (fun t wr => ∃ k : Nat, WcAt n k ∧ t = .int .i64 (k : Int) ∧ w = wr) (fun t _ => 64 - (intOf t).toNat)
  case atStart => exact ⟨1, .inl rfl, rfl, rfl⟩
  case round =>
    obtain ⟨k, hk, rfl, rfl⟩ := hrel
    have HK := Lib.hid hk
    obtain ⟨k1, k2⟩ := hk.le
    clear hk
    have hw : wrap64 (8 * (k : Int)) = 8 * (k : Int) := IntWalk.wrap64_in _ (by omega)
    have hw2 : wrap64 (2 * (k : Int)) = 2 * (k : Int) := IntWalk.wrap64_in _ (by omega)
    by_cases h2 : k * 8 < n
    · have d2 : 8 * (k : Int) < (n : Int) := by omega
      by_cases h1 : k < 64
      · have d1 : (k : Int) < 64 := by omega
        have HN := Lib.hid (HK.out.next h1 h2)
        clear h1 h2
        go_wp2_with fail
        go_roundw
        case rel => exact ⟨k * 2, HN.out, by simp; omega, trivial⟩
        case measure => simp [intOf]; omega
      · have d1 : ¬ (k : Int) < 64 := by omega
        have HN := Lib.hid (HK.out.last fun h => h1 h.1)
        clear h1 h2
        go_wp2_with fail
        first | go_ret | skip
        exact ⟨ret_i (by rw [HN.out]), rfl⟩
    · have d2 : ¬ 8 * (k : Int) < (n : Int) := by omega
      have HN := Lib.hid (HK.out.last fun h => h2 h.2)
      clear h2
      go_wp2_with fail
      first | go_ret | skip
      exact ⟨ret_i (by rw [HN.out]), rfl⟩
end Go.Proofs.YtfljignkjmabpaaGreat

namespace Go.Proofs.YtfljignkjmabpaaGreat
set_option maxRecDepth 100000
set_option linter.unusedSimpArgs false
set_option linter.unusedVariables false
open Go.RowKit

theorem Tryz.info_u32 : (Tryz.prog.info? 80).map (fun i => (i.zero, i.size, i.bytes)) = some (some (.int .u32 0), 1, 4) := by kernel_rfl
theorem Tryz.info_int : (Tryz.prog.info? 3).map (fun i => (i.zero, i.size, i.bytes)) = some (some (.int .i64 0), 1, 8) := by kernel_rfl
theorem Tryz.info_ints : (Tryz.prog.info? 38).map (fun i => (i.zero, i.size, i.bytes)) = some (some (.slice none 0 0), 1, 24) := by kernel_rfl
/-- One value is appended to a row of the call's own. -/
theorem append_one {w : World} {ops : Array Oper} {rest : List Oper} {o : Oper} {a : Act} {Q : Exit → Act → World → Prop} (hgd : o.guard = none) (s x : Operand) (t e : TypeId) (z : Value) (bytes : Nat)
    (ho : o.op = .call { callee := .builtin .append, args := #[s, x], argTypes := #[t, t] }) (ht : Tryz.prog.underlying t = some (.slice e)) (hinfo : (Tryz.prog.info? e).map (fun i => (i.zero, i.size, i.bytes)) = some (some z, 1, bytes)) (hzs : z.cells.size = 1)
    (base : Nat) (A : Option Addr) (n c : Nat) (xs : List Value) (hs : a.eval s = .slice A n c) (hown : w.ownsRow base e 1 (.slice A n c) n xs) (g : Nat) (u : Value)
    (hx : a.eval x = .slice (some ⟨g, 0, none⟩) 1 1) (hc : w.cell? ⟨g, 0, none⟩ = some u) (hu : u.oneCell' = true) (h63 : n + 1 ≤ maxLen) (hb : (n + 1) * bytes ≤ 140737488355328) (hbase : base ≤ w.heap.size)
    (h : ∀ A' c' w', w'.ownsRow base e 1 (.slice A' (n + 1) c') (n + 1) (xs ++ [u]) → w.grownBy w' (Value.slice A n c).ownBlock → wpList Tryz.prog ops Q rest (a.put o.dst (.slice A' (n + 1) c')) w') : wpList Tryz.prog ops Q (o :: rest) a w := by
  obtain ⟨i, hi⟩ : ∃ i, Tryz.prog.info? e = some i := by
    cases hq : Tryz.prog.info? e with
    | none => rw [hq] at hinfo; cases hinfo
    | some i => exact ⟨i, rfl⟩
  rw [hi] at hinfo
  simp only [Option.map_some, Option.some.injEq, Prod.mk.injEq] at hinfo
  obtain ⟨h1, h2, h3⟩ := hinfo
  refine wpList_append_src hgd s x t ho base e i z bytes ht hi h1 h2 h3 hzs (.slice A n c) n xs hs hown (fun _ => True) _ 1 1 [u] hx ⟨rfl, (by intro h; cases h), Nat.le_refl _, (by intro _ _ _; trivial), ?_⟩ (by intro v hv; simp at hv; subst hv; exact hu) h63 hb hbase ?_
  · intro ad h j v hv
    cases h
    obtain rfl : j = 0 := by have := (List.getElem?_eq_some_iff.1 hv).1; simp at this; omega
    rw [plainAdd]
    simp at hv
    subst hv
    exact hc
  · intro v' w' hown' hg _
    obtain ⟨A', c', rfl⟩ := own_slice hown'
    exact h A' c' w' hown' hg
def hashesS (ss : List Sym) : List UInt32 := (ss.filter seenB).map fun s => hashS s.name
theorem hashes_take {ss : List Sym} {k : Nat} (hk : k < ss.length) : hashesS (ss.take (k + 1)) = hashesS (ss.take k) ++ (if seenB ss[k] then [hashS ss[k].name] else []) := by
  unfold hashesS
  rw [List.take_succ_eq_append_getElem hk, List.filter_append, List.map_append]
  congr 1
  by_cases h : seenB ss[k] = true
  · simp [h]
  · simp [h]
theorem hashes_len (ss : List Sym) (k : Nat) : (hashesS (ss.take k)).length ≤ k := by
  unfold hashesS
  rw [List.length_map]
  have h1 := List.length_filter_le seenB (ss.take k)
  have h2 := List.length_take_le k ss
  omega
/-- Names that fit. -/
def Named (ss : List Sym) : Prop := ∀ s ∈ ss, s.name.length ≤ 140737488351232
theorem hsh_app (a : List UInt32) (x : UInt32) : Siv.hsh (a ++ [x]) = Siv.hsh a ++ [hv x] := by simp [Siv.hsh]
theorem own_alloc {w : World} {B : Nat} {e : TypeId} {v : Value} {n : Nat} {xs : List Value} (h : w.ownsRow B e 1 v n xs) (o : Obj) : (w.alloc o).ownsRow B e 1 v n xs := Siv.own_below h ((Below.refl _ _).alloc (Nat.le_refl _) o)
theorem below_grown {w a b : World} {r : Option Nat} (h : Below w.heap.size w a) (hg : a.grownBy b r) (hr : ∀ k, r = some k → w.heap.size ≤ k) : Below w.heap.size w b :=
  h.grown hg h.size hr
set_option maxRecDepth 100000 in
set_option maxHeartbeats 4000000 in
theorem hashesOf_any (A : Option Addr) (n c : Nat) (ss : List Sym) (w : World) (h : Syl w (fun k => k < w.heap.size) A n c ss) (hn : n ≤ 512) (hs : Named ss) :
    Calls Tryz.prog 112 #[.slice A n c] w fun e w' => ∃ A' c', e = .returned (.slice A' (hashesS ss).length c') ∧ w'.ownsRow w.heap.size 80 1 (.slice A' (hashesS ss).length c') (hashesS ss).length (Siv.hsh (hashesS ss)) ∧ Below w.heap.size w w' := by
  have H := Lib.hid h
  have hl := h.len
  have HS := Lib.hid hs
  clear h hs
  go_enter Tryz.func112, Tryz.ntmps112
  go_upto_region 3 with (fail)
  go_loopw [8, 3] (fun t v wr => ∃ (k : Nat) (A' : Option Addr) (m c' : Nat) (hs : List UInt32), k ≤ n ∧ t = .int .i64 k ∧ v = .slice A' m c' ∧ hs = hashesS (ss.take k) ∧ hs.length = m ∧ m ≤ k ∧ wr.ownsRow w.heap.size 80 1 (.slice A' m c') m (Siv.hsh hs) ∧ Below w.heap.size w wr) (fun t _ _ => n - (intOf t).toNat)
  case atStart => exact ⟨0, none, 0, 0, [], Nat.zero_le _, rfl, rfl, rfl, rfl, Nat.le_refl _, World.ownsRow_nil _ _ _ _, Below.refl _ _⟩
  case round =>
    obtain ⟨k, A', m, c', hs, hk, rfl, rfl, hhs, hm, hmk, ho, hb⟩ := hrel
    have HB := Lib.hid hb
    have HO := Lib.hid ho
    have HHS := Lib.hid hhs
    have HM := Lib.hid hm
    clear hb ho hhs hm
    by_cases hkn : k < n
    · have hki : k < ss.length := by omega
      obtain ⟨ad, rfl⟩ : ∃ ad, A = some ad := by
        cases A with
        | none => have := (H.out.nil rfl).1; omega
        | some ad => exact ⟨ad, rfl⟩
      obtain ⟨b, o, rfl⟩ := H.out.plain (by omega)
      have hcap := H.out.cap
      obtain ⟨c0, c1, c2, c3, c4, c5, c6, c7, c8⟩ := (H.out.below HB.out (fun _ h => h)).get k hki
      have HTK := Lib.hid (hashes_take hki)
      have hnm := HS.out ss[k] (List.getElem_mem hki)
      generalize ss[k] = s at *
      have HSE := Lib.hid (fun X => seen_any s X)
      have HBX := Lib.hid (HB.out.trans ((box_below wr s).mono HB.out.size))
      have HSX := Lib.hid (Sx.new wr s)
      have HOX := Lib.hid (own_alloc HO.out (.cells (symA s) 105))
      obtain ⟨x0, x1, x2, x3, x4, x5, x6, x7, x8⟩ := HSX.out.cells
      by_cases hse : seenB s = true
      · rw [hse] at HSE
        rw [if_pos hse] at HTK
        have HHA := Lib.hid (fun X => thash_any s.name X (by omega))
        clear hse
        go_upto_region 6 with (go_at_call 177; refine (HSE.out _).mono ?_; rintro e w2 ⟨rfl, hb2⟩; have HB2 := Lib.hid (HBX.out.trans (hb2.mono HBX.out.size)); have HO2 := Lib.hid (Siv.own_below HOX.out hb2); have HSX2 := Lib.hid (HSX.out.below hb2); clear hb2)
        clear x0 x1 x2 x3 x4 x5 x6 x7 x8 c0 c1 c2 c3 c4 c5 c6 c7 c8 HSE HSX HBX HOX
        obtain ⟨x0, -⟩ := HSX2.out.cells
        generalize hashS s.name = hh at *
        have HCN := Lib.hid ((Bx.new w2 #[hv hh] 80).c 0)
        have HO3 := Lib.hid (own_alloc HO2.out (.cells #[hv hh] 80))
        have HB3 := Lib.hid (HB2.out.alloc HB2.out.size (.cells #[hv hh] 80))
        have m1 : m + 1 ≤ maxLen := by simp only [maxLen]; omega
        have m2 : (m + 1) * 4 ≤ 140737488355328 := by omega
        go_wp2_with (first
          | (go_at_call 178; refine (HHA.out _).mono ?_; rintro e w3 ⟨rfl, rfl⟩)
          | (at_builtin; refine append_one rfl (.tmp 14) (.tmp 18) 79 80 (.int .u32 0) 4 rfl Tryz.underlying79 Tryz.info_u32 rfl w.heap.size A' m c' (Siv.hsh hs) rfl HO3.out w2.heap.size (hv hh) rfl HCN.out rfl m1 m2 HB3.out.size ?_; intro A2 c2 w4 hown hg; have HO4 := Lib.hid hown; have HB4 := Lib.hid (below_grown HB3.out hg (fun q hq => (HO3.out.lt q hq).1)); clear hown hg))
        go_roundw
        case rel => exact ⟨k + 1, A2, m + 1, c2, hs ++ [hh], by omega, by go_num, rfl, by rw [HTK.out, HHS.out], by simp [HM.out], by omega, by rw [hsh_app]; exact HO4.out, HB4.out⟩
        case measure => simp [intOf]; omega
      · have hsf : seenB s = false := by simpa using hse
        rw [hsf] at HSE
        rw [if_neg hse, List.append_nil] at HTK
        clear hse hsf
        go_upto_region 7 with (go_at_call 177; refine (HSE.out _).mono ?_; rintro e w2 ⟨rfl, hb2⟩; have HB2 := Lib.hid (HBX.out.trans (hb2.mono HBX.out.size)); have HO2 := Lib.hid (Siv.own_below HOX.out hb2); clear hb2)
        clear x0 x1 x2 x3 x4 x5 x6 x7 x8 c0 c1 c2 c3 c4 c5 c6 c7 c8 HSE HSX HBX HOX
        go_wp2_with fail
        go_roundw
        case rel => exact ⟨k + 1, A', m, c', hs, by omega, by go_num, rfl, by rw [HTK.out, HHS.out], HM.out, by omega, HO2.out, HB2.out⟩
        case measure => simp [intOf]; omega
    · obtain rfl : k = n := by omega
      have htk : ss.take k = ss := by rw [← hl]; exact List.take_length
      rw [htk] at HHS
      obtain rfl : hs = hashesS ss := HHS.out
      obtain rfl : (hashesS ss).length = m := HM.out
      clear htk
      go_wp2_with fail
      first | go_ret | skip
      exact ⟨A', c', rfl, HO.out, HB.out⟩
end Go.Proofs.YtfljignkjmabpaaGreat
