/-
  Where libraries are searched for, plainly; boxes, structs in a row; whether a name has a slash.
-/
import Derived.Test.YtkpmfahmhmdccaaDoorTH
import Derived.Test.YtkpmfahmhmdccaaDoorLQ
namespace Go.Proofs.YtkpmfahmhmdccaaDoor
open Go.RowKit

/-- A path, cleaned, if it is one. -/
def addP (p : Str) : List Str := if (Fil.clean p).2 = 0 then [(Fil.clean p).1] else []
def inOne (o nm d : Str) : List Str := if (expE o d).2 = 0 then addP ((expE o d).1 ++ 47 :: nm) else []
def inD (o nm : Str) (ds : List Str) : List Str := ds.flatMap (inOne o nm)
def cacheP (nm : Str) : List (Str × Str) → List Str
  | [] => []
  | (a, p) :: r => if a = nm then addP p else cacheP nm r
abbrev libS : Str := [47, 108, 105, 98]
abbrev usrS : Str := [47, 117, 115, 114, 47, 108, 105, 98]
def candL (o nm : Str) (rp ps : List Str) (kn : List (Str × Str)) : List Str := inD o nm rp ++ inD o nm ps ++ cacheP nm kn ++ inD o nm [libS, usrS]
def onlyL (o nm : Str) : List Str × Int := if (expE o nm).2 = 0 then (if (Fil.clean (expE o nm).1).2 = 0 then ([(Fil.clean (expE o nm).1).1], 0) else ([], (Fil.clean (expE o nm).1).2)) else ([], (expE o nm).2)
/-- The candidates, and the error beside them. -/
def candE (o nm : Str) (rp ps : List Str) (kn : List (Str × Str)) : List Str × Int :=
  if nm = [] ∨ 200 < nm.length then ([], 120) else if 47 ∈ nm then onlyL o nm else (candL o nm rp ps kn, 0)
theorem inD_snoc (o nm d : Str) (ds : List Str) : inD o nm (ds ++ [d]) = inD o nm ds ++ inOne o nm d := by simp [inD]
theorem inD_take (o nm : Str) (ds : List Str) (k : Nat) (hk : k < ds.length) : inD o nm (ds.take (k + 1)) = inD o nm (ds.take k) ++ inOne o nm ds[k] := by
  rw [List.take_succ_eq_append_getElem hk, inD_snoc]
theorem addP_len (p : Str) : (addP p).length ≤ 1 := by unfold addP; split <;> simp
theorem inOne_len (o nm d : Str) : (inOne o nm d).length ≤ 1 := by
  unfold inOne
  split
  · exact addP_len _
  · simp
theorem inD_len (o nm : Str) : ∀ ds, (inD o nm ds).length ≤ ds.length
  | [] => by simp [inD]
  | d :: ds => by
    have := inD_len o nm ds
    have := inOne_len o nm d
    simp [inD] at *
    omega
theorem cacheP_len (nm : Str) : ∀ kn, (cacheP nm kn).length ≤ 1
  | [] => by simp [cacheP]
  | (a, p) :: r => by
    rw [cacheP]
    split
    · exact addP_len _
    · exact cacheP_len nm r
theorem candL_len (o nm : Str) (rp ps : List Str) (kn : List (Str × Str)) : (candL o nm rp ps kn).length ≤ rp.length + ps.length + 3 := by
  have := inD_len o nm rp
  have := inD_len o nm ps
  have := cacheP_len nm kn
  have := inD_len o nm [libS, usrS]
  simp [candL] at *
  omega
theorem expE_len (o t : Str) : (expE o t).1.length ≤ 200 := by
  unfold expE
  split
  · simp
  · split
    · simp
    · split <;> simp; omega
theorem addP_yes {p : Str} (h : (Fil.clean p).2 = 0) : addP p = [(Fil.clean p).1] := if_pos h
theorem addP_no {p : Str} (h : ¬ (Fil.clean p).2 = 0) : addP p = [] := if_neg h
theorem clean_zero (p : Str) : (Fil.clean p).2 = 0 ∨ (Fil.clean p).2 = 30 := by
  unfold Fil.clean
  split
  · exact .inr rfl
  · exact .inl rfl
theorem Ml.pos' {w : World} (h : Ml w) : 0 < w.heap.size := by
  obtain ⟨m, h⟩ := h
  exact Nat.lt_of_le_of_lt (Nat.zero_le _) (World.block_lt_of_cell? w _ h)
theorem Fil.own_below_sz {w w' : World} {B : Nat} {e : TypeId} {sz : Nat} {v : Value} {n : Nat} {xs : List Value} (h : w.ownsRow B e sz v n xs) (hb : Below w.heap.size w w') : w'.ownsRow B e sz v n xs :=
  h.kept (row := none) ⟨hb.os, hb.tape, hb.output, hb.size, fun k hk _ => hb.block k hk⟩ (by cases v.ownBlock <;> simp)
theorem Ml.fil {w : World} (h : Ml w) : Fil.Ml w := h
theorem clean_any (l : Str) (w : World) (hs : l.length ≤ 9223372036854775807) (hm : Ml w) :
    Calls Tryd.prog 12 #[str l] w fun e w' => e = .returned (.tuple #[str (Fil.clean l).1, .int .i64 (Fil.clean l).2]) ∧ Below w.heap.size w w' := Fil.clean_any l w hs hm
theorem rclean_any (l : Str) (w : World) (hs : l.length ≤ 9223372036854775807) :
    Calls Tryd.prog 18 #[str l] w fun e w' => e = .returned (.tuple #[str (Fil.clean l).1, .int .i64 (Fil.clean l).2]) ∧ Below w.heap.size w w' := Fil.rclean_any l w hs

/-! Boxes. -/
theorem plainAdd (b o k : Nat) : (⟨b, o, none⟩ : Addr).add k = ⟨b, o + k, none⟩ := by unfold Addr.add; split <;> simp_all
/-- A block that holds just these cells. -/
def Bx (w : World) (g : Nat) (cs : Array Value) (t : TypeId) : Prop := w.heap[g]? = some (.cells cs t (0, 0))
section
variable {w w' : World} {g : Nat} {cs : Array Value} {t : TypeId}
theorem Bx.new (w : World) (cs : Array Value) (t : TypeId) : Bx (w.alloc (.cells cs t)) w.heap.size cs t := heap_alloc_new _ _
theorem Bx.c (h : Bx w g cs t) (j : Nat) : w.cell? ⟨g, j, none⟩ = cs[j]? := cell_of_row w g j _ _ _ h
theorem Bx.f (h : Bx w g cs t) (j : Nat) : w.frozen? ⟨g, j, none⟩ = false := frozen_of_row w g j _ _ h
theorem Bx.lt (h : Bx w g cs t) : g < w.heap.size := by
  rcases Nat.lt_or_ge g w.heap.size with hlt | hge
  · exact hlt
  · have h' : w.heap[g]? = _ := h
    rw [Array.getElem?_eq_none hge] at h'; cases h'
theorem Bx.below (h : Bx w g cs t) (hb : Below w.heap.size w w') : Bx w' g cs t := (hb.block g h.lt).trans h
theorem Bx.below' {B : Nat} (h : Bx w g cs t) (hb : Below B w w') (hg : g < B) : Bx w' g cs t := (hb.block g hg).trans h
theorem Bx.alloc (h : Bx w g cs t) (o : Obj) : Bx (w.alloc o) g cs t := (Below.heap_alloc w o g h.lt).trans h
theorem Bx.keep (h : Bx w g cs t) (hk : w'.heap[g]? = w.heap[g]?) : Bx w' g cs t := hk.trans h
end
/-- Elements of sz cells in memory, one behind the other. -/
structure Els (w : World) (P : Nat → Prop) (A : Option Addr) (n c sz : Nat) (E : Nat → Array Value) : Prop where
  nil : A = none → n = 0 ∧ c = 0
  cap : n ≤ c
  blk : ∀ ad, A = some ad → 0 < n → P ad.block
  at_ : ∀ ad, A = some ad → ∀ k, k < n → ∀ j u, (E k)[j]? = some u → w.cell? (ad.add (k * sz + j)) = some u
section
variable {w w' : World} {P Q : Nat → Prop} {A : Option Addr} {n c sz : Nat} {E : Nat → Array Value}
theorem Els.keep (h : Els w P A n c sz E) (hk : ∀ k, P k → k < w.heap.size → w'.heap[k]? = w.heap[k]?) : Els w' P A n c sz E :=
  ⟨h.nil, h.cap, h.blk, fun ad hA k hk' j u hu => by
    have h0 := h.at_ ad hA k hk' j u hu
    have hb := h.blk ad hA (by omega)
    have hh := World.block_lt_of_cell? w _ h0
    rw [addBlock] at hh
    exact (World.cell?_of_block (w := w) (w' := w') (by rw [addBlock]; exact hk _ hb hh)).trans h0⟩
theorem Els.weak (h : Els w P A n c sz E) (hk : ∀ k, P k → Q k) : Els w Q A n c sz E := ⟨h.nil, h.cap, fun ad hA hn => hk _ (h.blk ad hA hn), h.at_⟩
theorem Els.below {B : Nat} (h : Els w P A n c sz E) (hb : Below B w w') (hP : ∀ k, P k → k < B) : Els w' P A n c sz E :=
  h.keep fun k hk _ => hb.block k (hP k hk)
theorem Els.plain {ad : Addr} (h : Els w P (some ad) n c sz E) (h0 : 0 < n) {u : Value} (hu : (E 0)[0]? = some u) : ∃ b o, ad = ⟨b, o, none⟩ := by
  obtain ⟨b, o, spot⟩ := ad
  have hs : spot = none := by
    have h0 := World.cell?_spot (h.at_ _ rfl 0 h0 0 _ hu)
    simpa [Addr.add] using h0
  subst hs
  exact ⟨b, o, rfl⟩
theorem Els.get {b o : Nat} (h : Els w P (some ⟨b, o, none⟩) n c sz E) (k : Nat) (hk : k < n) (j : Nat) (u : Value) (hu : (E k)[j]? = some u) : w.cell? ⟨b, o + k * sz + j, none⟩ = some u := by
  have := h.at_ _ rfl k hk j u hu
  rwa [plainAdd, ← Nat.add_assoc] at this
end
/-- What is known: names and paths. -/
def noKn : Str × Str := ([], [])
abbrev knA (x : Str × Str) : Array Value := #[str x.1, str x.2]
def Kns (w : World) (P : Nat → Prop) (A : Option Addr) (n c : Nat) (kn : List (Str × Str)) : Prop := kn.length = n ∧ Els w P A n c 2 (fun k => knA (kn.getD k noKn))

/-! Blocks that are kept. -/
structure Kept (P : Nat → Prop) (w w' : World) : Prop where
  os : w'.os = w.os
  tape : w'.tape = w.tape
  output : w'.output = w.output
  size : w.heap.size ≤ w'.heap.size
  block : ∀ k, P k → w'.heap[k]? = w.heap[k]?
section
variable {P Q : Nat → Prop} {a w w' : World}
theorem Kept.refl (P : Nat → Prop) (w : World) : Kept P w w := ⟨rfl, rfl, rfl, Nat.le_refl _, fun _ _ => rfl⟩
theorem Kept.trans (h : Kept P a w) (k : Kept P w w') : Kept P a w' := ⟨k.os.trans h.os, k.tape.trans h.tape, k.output.trans h.output, Nat.le_trans h.size k.size, fun j hj => (k.block j hj).trans (h.block j hj)⟩
theorem Kept.weak (h : Kept P w w') (hk : ∀ k, Q k → P k) : Kept Q w w' := ⟨h.os, h.tape, h.output, h.size, fun j hj => h.block j (hk j hj)⟩
theorem Kept.below (h : Kept P a w) (hb : Below w.heap.size w w') (hP : ∀ k, P k → k < w.heap.size) : Kept P a w' := ⟨hb.os.trans h.os, hb.tape.trans h.tape, hb.output.trans h.output, Nat.le_trans h.size hb.size, fun j hj => (hb.block j (hP j hj)).trans (h.block j hj)⟩
theorem kept_of (hb : Below w.heap.size w w') (hP : ∀ k, P k → k < w.heap.size) : Kept P w w' := (Kept.refl P w).below hb hP
end
theorem Kept.to_below {B : Nat} {w w' : World} (h : Kept (fun k => k < B) w w') : Below B w w' := ⟨h.os, h.tape, h.output, h.size, h.block⟩

/-! Slashes. -/
theorem slash_iff (l : Str) : decide (0 ≤ Lib.indexByte l 47) = decide (47 ∈ l) := by
  rw [Bool.eq_iff_iff, decide_eq_true_eq, decide_eq_true_eq]
  rw [← Lib.index_one]
  induction l with
  | nil => simp [Lib.index]
  | cons c l ih =>
    by_cases h : c = 47
    · subst h
      have hix : Lib.index (47 :: l) [47] = 0 := by rw [Lib.index]; simp [List.isPrefixOf]
      rw [hix]
      simp
    · have hp : ([47] : List UInt8).isPrefixOf (c :: l) = false := by simp [List.isPrefixOf, Ne.symm h]
      have hix : Lib.index (c :: l) [47] = if Lib.index l [47] == -1 then -1 else Lib.index l [47] + 1 := by rw [Lib.index, hp]; simp
      have hge := Lib.indexByte_ge l 47
      rw [← Lib.index_one] at hge
      rw [hix, List.mem_cons, ← ih]
      have hne : ¬ 47 = c := fun e => h e.symm
      by_cases hm : Lib.index l [47] = -1
      · rw [if_pos (by simpa using hm)]
        simp [hne, hm]
      · rw [if_neg (by simpa using hm)]
        constructor
        · intro _; right; omega
        · intro _; omega
theorem contains_any (l : Str) (w : World) : Calls Tryd.prog 13 #[str l, .string ⟨#[47]⟩] w fun e w' => e = .returned (.bool (decide (47 ∈ l))) ∧ w' = w := by
  have h := Tryd.strings_Contains_one ⟨l.toArray⟩ 47 w
  rw [slash_iff] at h
  exact h
set_option maxRecDepth 100000 in
theorem slashed_any (l : Str) (w : World) (hs : l.length ≤ 9223372036854775807) : Calls Tryd.prog 16 #[str l] w fun e w' => e = .returned (.bool (decide (47 ∈ l))) ∧ w' = w := by
  have hz : (ByteArray.mk l.toArray).size = l.length := str_size l
  go_enter Tryd.func16, Tryd.ntmps16
  go_wp2_with fail
  go_loop [3] (fun i => ∃ k : Nat, k ≤ l.length ∧ i = .int .i64 (k : Int) ∧ 47 ∉ l.take k) (fun i => l.length - (intOf i).toNat)
  case atStart => exact ⟨0, Nat.zero_le _, rfl, by simp⟩
  case round =>
    obtain ⟨k, hk, rfl, hn⟩ := hrel
    by_cases hlt : k < l.length
    · have htk : l.take (k + 1) = l.take k ++ [l[k]] := List.take_succ_eq_append_getElem hlt
      have hget : ({ data := l.toArray } : ByteArray)[k]'(by rw [hz]; exact hlt) = l[k] := rfl
      by_cases h47 : l[k] = 47
      · have HM := Lib.hid (show 47 ∈ l by rw [← h47]; exact List.getElem_mem _)
        have hb : (((({ data := l.toArray } : ByteArray)[k]'(by rw [hz]; exact hlt)).toNat : Int) == 47) = true := by rw [hget, h47]; rfl
        clear htk hn h47 hget
        go_wp2
        go_ret
        exact ⟨by simp [HM.out], rfl⟩
      · have HN := Lib.hid (show 47 ∉ l.take (k + 1) by
          rw [htk, List.mem_append, List.mem_singleton]
          rintro (h | h)
          · exact hn h
          · exact h47 h.symm)
        have hb : (((({ data := l.toArray } : ByteArray)[k]'(by rw [hz]; exact hlt)).toNat : Int) == 47) = false := by
          rw [hget, beq_eq_false_iff_ne]
          intro e
          apply h47
          apply UInt8.toNat_inj.1
          show l[k].toNat = 47
          omega
        clear htk hn h47 hget
        go_wp2
        go_round
        case rel => exact ⟨k + 1, by omega, by go_num, HN.out⟩
        case measure => simp [intOf]; omega
    · obtain rfl : k = l.length := by omega
      rw [List.take_length] at hn
      go_wp2
      go_ret
      exact ⟨by simp, rfl⟩
end Go.Proofs.YtkpmfahmhmdccaaDoor
