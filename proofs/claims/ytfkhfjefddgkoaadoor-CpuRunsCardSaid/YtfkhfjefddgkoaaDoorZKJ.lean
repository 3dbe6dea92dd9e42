/-
  The document's reading of eight bytes.
  Decode: the program's and the document's.
-/
import Derived.Test.YtfkhfjefddgkoaaDoorZKI
import Derived.Laws.Slices
namespace Go.Proofs.YtfkhfjefddgkoaaDoor.Cod
open Go.RowKit

theorem set5_bx {w : World} {g : Nat} {t : TypeId} {u0 u1 u2 u3 u4 : Value} (h : Bx w g #[u0, u1, u2, u3, u4] t) (v0 v1 v2 v3 v4 : Value) : Bx (((((w.setCell ⟨g, 0, none⟩ v0).setCell ⟨g, 1, none⟩ v1).setCell ⟨g, 2, none⟩ v2).setCell ⟨g, 3, none⟩ v3).setCell ⟨g, 4, none⟩ v4) g #[v0, v1, v2, v3, v4] t := by
  have h0 := heap_setCell_same w g 0 _ _ v0 h
  have h1 := heap_setCell_same _ g 1 _ _ v1 h0
  have h2 := heap_setCell_same _ g 2 _ _ v2 h1
  have h3 := heap_setCell_same _ g 3 _ _ v3 h2
  exact heap_setCell_same _ g 4 _ _ v4 h3
/-- Where a reading stands: its result's block, and the instruction's. -/
structure ReadAt (w0 w : World) (i : Ins) : Prop where
  below : Below w0.heap.size w0 w
  box : Bx w (w0.heap.size + 1) #[.int .i64 i.op, .int .i64 i.a, .int .i64 i.b, .int .i64 i.c, .int .i64 i.n] 51
  res : Bx w w0.heap.size #[.int .i64 0, .int .i64 0, .int .i64 0, .int .i64 0, .int .i64 0] 51
theorem ReadAt.on {w0 w w' : World} {i : Ins} (h : ReadAt w0 w i) (hb : Below w.heap.size w w') : ReadAt w0 w' i :=
  ⟨h.below.trans (hb.mono h.below.size), h.box.below hb, h.res.below hb⟩
theorem ReadAt.cells {w0 w : World} {i : Ins} (h : ReadAt w0 w i) :
    w.cell? ⟨w0.heap.size + 1, 0, none⟩ = some (.int .i64 i.op) ∧ w.cell? ⟨w0.heap.size + 1, 1, none⟩ = some (.int .i64 i.a) ∧ w.cell? ⟨w0.heap.size + 1, 2, none⟩ = some (.int .i64 i.b) ∧ w.cell? ⟨w0.heap.size + 1, 3, none⟩ = some (.int .i64 i.c) ∧ w.cell? ⟨w0.heap.size + 1, 4, none⟩ = some (.int .i64 i.n) ∧
    w.cell? ⟨w0.heap.size, 0, none⟩ = some (.int .i64 0) ∧ w.cell? ⟨w0.heap.size, 1, none⟩ = some (.int .i64 0) ∧ w.cell? ⟨w0.heap.size, 2, none⟩ = some (.int .i64 0) ∧ w.cell? ⟨w0.heap.size, 3, none⟩ = some (.int .i64 0) ∧ w.cell? ⟨w0.heap.size, 4, none⟩ = some (.int .i64 0) ∧
    w.frozen? ⟨w0.heap.size, 0, none⟩ = false ∧ w.frozen? ⟨w0.heap.size, 1, none⟩ = false ∧ w.frozen? ⟨w0.heap.size, 2, none⟩ = false ∧ w.frozen? ⟨w0.heap.size, 3, none⟩ = false ∧ w.frozen? ⟨w0.heap.size, 4, none⟩ = false :=
  ⟨h.box.c 0, h.box.c 1, h.box.c 2, h.box.c 3, h.box.c 4, h.res.c 0, h.res.c 1, h.res.c 2, h.res.c 3, h.res.c 4, h.res.f 0, h.res.f 1, h.res.f 2, h.res.f 3, h.res.f 4⟩

set_option maxRecDepth 100000 in
set_option maxHeartbeats 2000000 in
theorem rread_any (P : Nat → Prop) (A : Option Addr) (n c : Nat) (x0 x1 x2 x3 x4 x5 x6 x7 : UInt8) (l : Str) (w : World) (h : Src w P A n c (cells (x0 :: x1 :: x2 :: x3 :: x4 :: x5 :: x6 :: x7 :: l))) :
    Calls Tryd.prog 67 #[.slice A n c] w fun e w' => e = .returned (.tuple #[insV (insOf x0 x1 x2 x3 x4 x5 x6 x7), .bool (mayB (insOf x0 x1 x2 x3 x4 x5 x6 x7))]) ∧ Below w.heap.size w w' := by
  obtain ⟨b, o, rfl, c0, c1, c2, c3, c4, c5, c6, c7, hl⟩ := eight h
  have b0 := x0.toNat_lt
  have b1 := x1.toNat_lt
  have b2 := x2.toNat_lt
  have b3 := x3.toNat_lt
  have b4 := x4.toNat_lt
  have b5 := x5.toNat_lt
  have b6 := x6.toNat_lt
  have b7 := x7.toNat_lt
  have n0 : (0 : Int) < (n : Int) := by omega
  have n1 : (1 : Int) < (n : Int) := by omega
  have n2 : (2 : Int) < (n : Int) := by omega
  have n3 : (3 : Int) < (n : Int) := by omega
  have n4' : (4 : Int) < (n : Int) := by omega
  have n5 : (5 : Int) < (n : Int) := by omega
  have n6 : (6 : Int) < (n : Int) := by omega
  have n7 : (7 : Int) < (n : Int) := by omega
  have d0 := cell_alloc c0 (.cells #[.int .i64 0, .int .i64 0, .int .i64 0, .int .i64 0, .int .i64 0] 51)
  have d1 := cell_alloc c1 (.cells #[.int .i64 0, .int .i64 0, .int .i64 0, .int .i64 0, .int .i64 0] 51)
  have d2 := cell_alloc c2 (.cells #[.int .i64 0, .int .i64 0, .int .i64 0, .int .i64 0, .int .i64 0] 51)
  have d3 := cell_alloc c3 (.cells #[.int .i64 0, .int .i64 0, .int .i64 0, .int .i64 0, .int .i64 0] 51)
  have d4 := cell_alloc c4 (.cells #[.int .i64 0, .int .i64 0, .int .i64 0, .int .i64 0, .int .i64 0] 51)
  have d5 := cell_alloc c5 (.cells #[.int .i64 0, .int .i64 0, .int .i64 0, .int .i64 0, .int .i64 0] 51)
  have d6 := cell_alloc c6 (.cells #[.int .i64 0, .int .i64 0, .int .i64 0, .int .i64 0, .int .i64 0] 51)
  have d7 := cell_alloc c7 (.cells #[.int .i64 0, .int .i64 0, .int .i64 0, .int .i64 0, .int .i64 0] 51)
  have HRD := Lib.hid (fun (w1 : World) (h : ReadAt w w1 ⟨x0.toNat, x1.toNat, x2.toNat, x3.toNat, n4 x4 x5 x6 x7⟩) => (rmay_any ⟨x0.toNat, x1.toNat, x2.toNat, x3.toNat, n4 x4 x5 x6 x7⟩ w1).mono (R' := fun e w' => e = .returned (.bool (mayB ⟨x0.toNat, x1.toNat, x2.toNat, x3.toNat, n4 x4 x5 x6 x7⟩)) ∧ ReadAt w w' ⟨x0.toNat, x1.toNat, x2.toNat, x3.toNat, n4 x4 x5 x6 x7⟩ ∧ _) (fun e w' h2 => ⟨h2.1, h.on h2.2, (h.on h2.2).cells⟩))
  simp only at HRD
  rw [show insOf x0 x1 x2 x3 x4 x5 x6 x7 = ⟨x0.toNat, x1.toNat, x2.toNat, x3.toNat, n4 x4 x5 x6 x7⟩ from rfl]
  generalize mayB ⟨x0.toNat, x1.toNat, x2.toNat, x3.toNat, n4 x4 x5 x6 x7⟩ = M at *
  clear h
  go_enter Tryd.func67, Tryd.ntmps67
  go_wp2_with fail
  go_quiet (fail)
  rw [show ((x4.toNat : Int) + 256 * x5.toNat + 65536 * x6.toNat + 16777216 * x7.toNat) = (m4 x4 x5 x6 x7 : Int) by unfold m4; omega]
  have hm : m4 x4 x5 x6 x7 < 4294967296 := by unfold m4; omega
  have hn4 : n4 x4 x5 x6 x7 = if 2147483648 ≤ m4 x4 x5 x6 x7 then (m4 x4 x5 x6 x7 : Int) - 4294967296 else m4 x4 x5 x6 x7 := rfl
  generalize m4 x4 x5 x6 x7 = m at *
  have HN := Lib.hid hn4
  clear hn4
  have n00 : 0 < n := by omega
  clear d4 d5 d6 d7 c4 c5 c6 c7 b4 b5 b6 b7 n4' n5 n6 n7
  have hmi : (m : Int) < 4294967296 := by omega
  by_cases hg : 2147483648 ≤ m
  all_goals
    first
      | (have hgi : (2147483648 : Int) ≤ (m : Int) := by omega
         have HN := Lib.hid (show n4 x4 x5 x6 x7 = (m : Int) - 4294967296 by rw [HN.out, if_pos hg]))
      | (have hgi : decide ((2147483648 : Int) ≤ (m : Int)) = false := decide_eq_false (by omega)
         have HN := Lib.hid (show n4 x4 x5 x6 x7 = (m : Int) by rw [HN.out, if_neg hg]))
    clear hg hm
    go_wp2_with (fail)
    rw [← HN.out]
    clear HN hmi hgi
    go_region_held3 (fun w' => w'.cell? ⟨b, o, none⟩ = some (.int .u8 x0.toNat) ∧ w'.cell? ⟨b, o + 1, none⟩ = some (.int .u8 x1.toNat) ∧ w'.cell? ⟨b, o + 2, none⟩ = some (.int .u8 x2.toNat) ∧ w'.cell? ⟨b, o + 3, none⟩ = some (.int .u8 x3.toNat)) (go_keep) (fail)
    simp only [wrap_u8]
    have hb4 : Below w.heap.size w (((w.alloc (.cells #[.int .i64 0, .int .i64 0, .int .i64 0, .int .i64 0, .int .i64 0] 51)).drewN (nq + 1)).alloc (.cells #[.int .i64 x0.toNat, .int .i64 x1.toNat, .int .i64 x2.toNat, .int .i64 x3.toNat, .int .i64 (n4 x4 x5 x6 x7)] 51)) := (below_drewN ((Below.refl _ _).alloc (Nat.le_refl _) _) _).alloc (by simp [World.drewN]) _
    have hx4 : Bx (((w.alloc (.cells #[.int .i64 0, .int .i64 0, .int .i64 0, .int .i64 0, .int .i64 0] 51)).drewN (nq + 1)).alloc (.cells #[.int .i64 x0.toNat, .int .i64 x1.toNat, .int .i64 x2.toNat, .int .i64 x3.toNat, .int .i64 (n4 x4 x5 x6 x7)] 51)) (w.heap.size + 1) #[.int .i64 x0.toNat, .int .i64 x1.toNat, .int .i64 x2.toNat, .int .i64 x3.toNat, .int .i64 (n4 x4 x5 x6 x7)] 51 := by
      have := Bx.new ((w.alloc (.cells #[.int .i64 0, .int .i64 0, .int .i64 0, .int .i64 0, .int .i64 0] 51)).drewN (nq + 1)) #[.int .i64 x0.toNat, .int .i64 x1.toNat, .int .i64 x2.toNat, .int .i64 x3.toNat, .int .i64 (n4 x4 x5 x6 x7)] 51
      simpa [World.drewN] using this
    have hr4 : Bx (((w.alloc (.cells #[.int .i64 0, .int .i64 0, .int .i64 0, .int .i64 0, .int .i64 0] 51)).drewN (nq + 1)).alloc (.cells #[.int .i64 x0.toNat, .int .i64 x1.toNat, .int .i64 x2.toNat, .int .i64 x3.toNat, .int .i64 (n4 x4 x5 x6 x7)] 51)) w.heap.size #[.int .i64 0, .int .i64 0, .int .i64 0, .int .i64 0, .int .i64 0] 51 :=
      Bx.alloc (show Bx ((w.alloc (.cells #[.int .i64 0, .int .i64 0, .int .i64 0, .int .i64 0, .int .i64 0] 51)).drewN (nq + 1)) w.heap.size #[.int .i64 0, .int .i64 0, .int .i64 0, .int .i64 0, .int .i64 0] 51 from Bx.new w _ _) _
    generalize (((w.alloc (.cells #[.int .i64 0, .int .i64 0, .int .i64 0, .int .i64 0, .int .i64 0] 51)).drewN (nq + 1)).alloc (.cells #[.int .i64 x0.toNat, .int .i64 x1.toNat, .int .i64 x2.toNat, .int .i64 x3.toNat, .int .i64 (n4 x4 x5 x6 x7)] 51)) = w4 at *
    have HAT := Lib.hid (show ReadAt w w4.drew ⟨x0.toNat, x1.toNat, x2.toNat, x3.toNat, n4 x4 x5 x6 x7⟩ from (⟨hb4, hx4, hr4⟩ : ReadAt w w4 ⟨x0.toNat, x1.toNat, x2.toNat, x3.toNat, n4 x4 x5 x6 x7⟩).on (drew_below _))
    obtain ⟨q0, q1, q2, q3, q4, q5, q6, q7, q8, q9, q10, q11, q12, q13, q14⟩ := HAT.out.cells
    clear c0 c1 c2 c3 d0 d1 d2 d3 hb4 hx4 hr4 n0 n1 n2 n3 n00
    rename_i hheld
    clear hheld b0 b1 b2 b3 hl
    go_wp2_with fail
    first | (go_region_with (first
      | (go_at_call 19; with_reducible refine (HRD.out _ HAT.out).mono ?_; rintro e w5 ⟨rfl, ht5, r0, r1, r2, r3, r4, r5, r6, r7, r8, r9, r10, r11, r12, r13, r14⟩; have HT5 := Lib.hid ht5; clear ht5; clear q0 q1 q2 q3 q4 q5 q6 q7 q8 q9 q10 q11 q12 q13 q14))) | fail
    all_goals
      clear r0 r1 r2 r3 r4 r5 r6 r7 r8 r9 r10 r11 r12 r13 r14 HRD HAT
      have hq := set5_bx HT5.out.res (.int .i64 x0.toNat) (.int .i64 x1.toNat) (.int .i64 x2.toNat) (.int .i64 x3.toNat) (.int .i64 (n4 x4 x5 x6 x7))
      have hbq := Lib.hid (below_set5 HT5.out.below (Nat.le_refl _) (.int .i64 x0.toNat) (.int .i64 x1.toNat) (.int .i64 x2.toNat) (.int .i64 x3.toNat) (.int .i64 (n4 x4 x5 x6 x7)))
      generalize ((((w5.setCell ⟨w.heap.size, 0, none⟩ (.int .i64 x0.toNat)).setCell ⟨w.heap.size, 1, none⟩ (.int .i64 x1.toNat)).setCell ⟨w.heap.size, 2, none⟩ (.int .i64 x2.toNat)).setCell ⟨w.heap.size, 3, none⟩ (.int .i64 x3.toNat)).setCell ⟨w.heap.size, 4, none⟩ (.int .i64 (n4 x4 x5 x6 x7)) = w6 at *
      have q0 := hq.c 0
      have q1 := hq.c 1
      have q2 := hq.c 2
      have q3 := hq.c 3
      have q4 := hq.c 4
      clear hq HT5
      go_wp2_with fail
      exact bodyPost_ret (v := .tuple #[insV ⟨x0.toNat, x1.toNat, x2.toNat, x3.toNat, n4 x4 x5 x6 x7⟩, .bool M]) (by simp [results, Tryd.results67, go_sem, q0, q1, q2, q3, q4]) rfl ⟨rfl, hbq.out⟩
end Go.Proofs.YtfkhfjefddgkoaaDoor.Cod

namespace Go.Proofs.YtfkhfjefddgkoaaDoor.Cod
open Go.RowKit

/-! Parts of a slice. -/
def dropA (A : Option Addr) (c k : Nat) : Option Addr := if c = k then A else A.map (·.add k)
theorem addAdd (a : Addr) (i j : Nat) : (a.add i).add j = a.add (i + j) := by
  unfold Addr.add
  by_cases hi : i = 0 <;> by_cases hj : j = 0 <;> simp [hi, hj, Nat.add_assoc]
theorem _root_.Go.Proofs.YtfkhfjefddgkoaaDoor.Src.sub {w : World} {P : Nat → Prop} {A : Option Addr} {n c : Nat} {xs : List Value} (h : Src w P A n c xs) (k m : Nat) (hk : k + m ≤ n) : Src w P (dropA A c k) m (c - k) ((xs.drop k).take m) := by
  have hl := h.len
  have hc := h.cap
  refine ⟨by simp; omega, fun hA => ?_, by omega, fun ad hA hm => ?_, fun ad hA j u hu => ?_⟩
  · unfold dropA at hA
    split at hA
    · have := h.nil hA; omega
    · have : A = none := by cases A with
        | none => rfl
        | some a => simp at hA
      have := h.nil this
      omega
  · unfold dropA at hA
    split at hA
    · omega
    · cases A with
      | none => simp at hA
      | some a =>
        simp at hA
        subst hA
        rw [addBlock]
        exact h.blk a rfl (by omega)
  · have hj := (List.getElem?_eq_some_iff.1 hu).1
    simp at hj
    unfold dropA at hA
    split at hA
    · omega
    · cases A with
      | none => simp at hA
      | some a =>
        simp at hA
        subst hA
        rw [addAdd]
        refine h.at_ a rfl _ u ?_
        rw [← hu, List.getElem?_take_of_lt (by omega), List.getElem?_drop]
theorem slice_low (A : Option Addr) (n c k : Nat) (hk : k ≤ n) (w' : World) : (Instr.slice 55 (.slice A n c) (some (.int .i64 (k : Int))) none none).run Tryd.prog w' = .ok (.slice (dropA A c k) (n - k) (c - k)) w' := by
  have hz : (sizeOf (Tryd.prog.elem 55)).run Tryd.prog w' = .ok 1 w' := by kernel_rfl
  rw [run_slice_l (w := w') 55 A n c (by kernel_rfl) .i64 k (by omega) (by omega), hz]
  simp [Result.andThen, sliced, dropA]
theorem slice_mid (A : Option Addr) (n c k m : Nat) (hk : k + m ≤ c) (w' : World) : (Instr.slice 55 (.slice A n c) (some (.int .i64 (k : Int))) (some (.int .i64 ((k + m : Nat) : Int))) none).run Tryd.prog w' = .ok (.slice (dropA A c k) m (c - k)) w' := by
  have hz : (sizeOf (Tryd.prog.elem 55)).run Tryd.prog w' = .ok 1 w' := by kernel_rfl
  rw [run_slice_lh (w := w') 55 A n c (by kernel_rfl) .i64 .i64 k ((k + m : Nat) : Int) (by omega) (by omega) (by omega), hz]
  simp [Result.andThen, sliced, dropA]
  omega

/-- The instructions of bytes, eight by eight. -/
def decI : Str → List Ins
  | x0 :: x1 :: x2 :: x3 :: x4 :: x5 :: x6 :: x7 :: l => insOf x0 x1 x2 x3 x4 x5 x6 x7 :: decI l
  | _ => []
theorem decI_len : ∀ (f : Nat) (l : Str), l.length ≤ f → (decI l).length = l.length / 8
  | 0, l, h => by
    have : l = [] := List.eq_nil_of_length_eq_zero (by omega)
    subst this; rfl
  | f + 1, l, h => by
    match l with
    | x0 :: x1 :: x2 :: x3 :: x4 :: x5 :: x6 :: x7 :: l =>
      simp only [List.length_cons] at h
      simp only [decI, List.length_cons]
      rw [decI_len f l (by omega)]
      omega
    | [] => rfl
    | [_] => simp [decI]
    | [_, _] => simp [decI]
    | [_, _, _] => simp [decI]
    | [_, _, _, _] => simp [decI]
    | [_, _, _, _, _] => simp [decI]
    | [_, _, _, _, _, _] => simp [decI]
    | [_, _, _, _, _, _, _] => simp [decI]
theorem eight_of (l : Str) (h : 8 ≤ l.length) : ∃ x0 x1 x2 x3 x4 x5 x6 x7 r, l = x0 :: x1 :: x2 :: x3 :: x4 :: x5 :: x6 :: x7 :: r := by
  match l, h with
  | x0 :: x1 :: x2 :: x3 :: x4 :: x5 :: x6 :: x7 :: r, _ => exact ⟨_, _, _, _, _, _, _, _, _, rfl⟩
  | [], h => simp at h
  | [_], h => simp at h
  | [_, _], h => simp at h
  | [_, _, _], h => simp at h
  | [_, _, _, _], h => simp at h
  | [_, _, _, _, _], h => simp at h
  | [_, _, _, _, _, _], h => simp at h
  | [_, _, _, _, _, _, _], h => simp at h
theorem cells_drop (l : Str) (k : Nat) : (cells l).drop k = cells (l.drop k) := by simp [cells]
theorem cells_take (l : Str) (k : Nat) : (cells l).take k = cells (l.take k) := by simp [cells]
/-- Whether bytes are those of instructions. -/
def decB (b : Str) : Bool := decide (b.length % 8 = 0) && (decI b).all mayB
/-- Behind a Decode. -/
def Decoded (w : World) (b : Str) (e : Ending) (w' : World) : Prop :=
  Below w.heap.size w w' ∧ ((decB b = false ∧ e = .returned (.tuple #[.slice none 0 0, .int .i64 40])) ∨
    (decB b = true ∧ ∃ A c, e = .returned (.tuple #[.slice A (decI b).length c, .int .i64 0]) ∧ w'.ownsRow w.heap.size 51 5 (.slice A (decI b).length c) (decI b).length (icells (decI b))))
theorem Tryd.info_inst : (Tryd.prog.info? 51).map (fun i => (i.zero, i.size, i.bytes)) = some (some (.agg #[.int .i64 0, .int .i64 0, .int .i64 0, .int .i64 0, .int .i64 0]), 5, 40) := by kernel_rfl
theorem insC_one (i : Ins) : ∀ u ∈ insC i, u.oneCell' = true := by
  intro u hu
  simp at hu
  rcases hu with rfl | rfl | rfl | rfl | rfl <;> rfl

theorem own_slice5 {w : World} {base : Nat} {e : TypeId} {v : Value} {n : Nat} {xs : List Value} (h : w.ownsRow base e 5 v n xs) : ∃ A c, v = .slice A n c := by
  rcases h.2 with ⟨rfl, rfl⟩ | ⟨g, cap, cur, rfl, _⟩
  · exact ⟨_, _, rfl⟩
  · exact ⟨_, _, rfl⟩
set_option maxRecDepth 100000 in
set_option maxHeartbeats 1000000 in
theorem decode_any (P : Nat → Prop) (A : Option Addr) (n c : Nat) (b : Str) (w : World) (h : Src w P A n c (cells b)) (hn : n * 5 ≤ 140737488355328) (hs : Shps w) :
    Calls Tryd.prog 85 #[.slice A n c] w (Decoded w b) := by
  obtain ⟨i0, hi, hz0, hz1, hz2⟩ := info_parts Tryd.info_inst
  have H := Lib.hid h.lt
  have hl : b.length = n := by simpa [cells_len] using h.len
  have hc := h.cap
  have hr : (n : Int).tmod 8 = ((n % 8 : Nat) : Int) := by
    rw [Int.tmod_eq_emod_of_nonneg (by omega)]; omega
  by_cases h8 : n % 8 = 0
  · have hq : (n : Int).tdiv 8 = ((n / 8 : Nat) : Int) := by
      rw [Int.tdiv_eq_ediv_of_nonneg (by omega)]; omega
    have hw8 : wrap64 ((n : Int) / 8) = ((n / 8 : Nat) : Int) := by
      rw [IntWalk.wrap64_in _ (by omega)]; omega
    have HD := Lib.hid (show decB b = (decI b).all mayB by simp [decB, hl, h8])
    have HL := Lib.hid (decI_len _ b (Nat.le_refl _))
    rw [h8] at hr
    have hm3 : n / 8 ≤ maxLen := by simp only [maxLen]; omega
    have HS := Lib.hid hs
    clear h hs
    go_enter Tryd.func85, Tryd.ntmps85
    go_wp2_with (at_make; refine wpList_make_own _ rfl _ _ _ rfl w.heap.size 51 i0 _ 5 Tryd.underlying23 hi hz0 hz1 .i64 .i64 _ (n / 8) rfl rfl (by first | exact hw8 | (rw [hq]; exact hw8) | rfl | omega) (by rw [hz2]; omega) hm3 (Nat.le_refl _) ?_; intro w2 hown hg; have HO := Lib.hid hown; have HG := Lib.hid hg; clear hown hg)
    have HB2 := Lib.hid (((Below.refl w.heap.size w).grown HG.out (Nat.le_refl _) (fun k hk => by cases hk)))
    clear hq hw8 hr HG
    go_loopw [0, 4] (fun t v wr => ∃ (done : List Ins) (rest : Str) (A0 : Option Addr) (c0 : Nat) (A' : Option Addr) (c' : Nat), decI b = done ++ decI rest ∧ rest.length % 8 = 0 ∧ done.length * 8 + rest.length = n ∧ t = .slice A0 rest.length c0 ∧ Src w (fun k => k < w.heap.size) A0 rest.length c0 (cells rest) ∧ v = .slice A' done.length c' ∧ Below w.heap.size w wr ∧ wr.ownsRow w.heap.size 51 5 (.slice A' done.length c') done.length (icells done)) (fun t _ _ => match t with | .slice _ m _ => m | _ => 0)
    case atStart => exact ⟨[], b, A, c, _, _, rfl, by omega, by simp; omega, by rw [hl], by rw [hl]; exact H.out, rfl, HB2.out, HO.out⟩
    case round =>
      obtain ⟨done, rest, A0, c0, A', c', hde, hr8, hsum, rfl, hsrc, rfl, hb, ho⟩ := hrel
      have HDE := Lib.hid hde
      have HB := Lib.hid hb
      have HOW := Lib.hid ho
      have HSR := Lib.hid hsrc
      clear hde hb ho hsrc HB2 HO H
      by_cases hre : rest.length = 0
      · have hrn : rest = [] := List.eq_nil_of_length_eq_zero hre
        subst hrn
        have HDD := Lib.hid (show decI b = done by rw [HDE.out]; exact List.append_nil _)
        have HV := Lib.hid (areValid_any _ A' done.length c' done wr (Isl.of_own HOW.out) (by omega) (HS.out.below HB.out))
        have HDB := Lib.hid (show decB b = done.all mayB by rw [HD.out, HDD.out])
        clear hre HDE
        cases hv : done.all mayB
        · rw [hv] at HV HDB
          clear hv
          go_wp2_with fail
          refine HV.out.mono ?_
          rintro e w3 ⟨rfl, hb3⟩
          have HB3 := Lib.hid (HB.out.trans (hb3.mono HB.out.size))
          clear hb3
          go_wp2
          go_ret2
          exact ⟨HB3.out, .inl ⟨HDB.out, rfl⟩⟩
        · rw [hv] at HV HDB
          clear hv
          go_wp2_with fail
          refine HV.out.mono ?_
          rintro e w3 ⟨rfl, hb3⟩
          have HB3 := Lib.hid (HB.out.trans (hb3.mono HB.out.size))
          have HO3 := Lib.hid (HOW.out.kept (row := none) ⟨hb3.os, hb3.tape, hb3.output, hb3.size, fun k hk _ => hb3.block k hk⟩ (by cases A' <;> simp [Value.ownBlock]))
          clear hb3
          go_wp2
          go_ret2
          refine ⟨HB3.out, .inr ⟨HDB.out, A', c', ?_, ?_⟩⟩
          · rw [HDD.out]; rfl
          · rw [HDD.out]; exact HO3.out
      · obtain ⟨x0, x1, x2, x3, x4, x5, x6, x7, r, rfl⟩ := eight_of rest (by omega)
        have HF := Lib.hid (fromBytes_any _ A0 _ c0 x0 x1 x2 x3 x4 x5 x6 x7 r wr (HSR.out.below HB.out (fun _ h => h)))
        have hdd : decI b = (done ++ [insOf x0 x1 x2 x3 x4 x5 x6 x7]) ++ decI r := by
          rw [HDE.out, List.append_assoc]
          rfl
        have HDD := Lib.hid hdd
        have hlen : (x0 :: x1 :: x2 :: x3 :: x4 :: x5 :: x6 :: x7 :: r).length = r.length + 8 := rfl
        rw [hlen] at HF HSR hsum hr8 ⊢
        have hsub : Src w (fun k => k < w.heap.size) (dropA A0 c0 8) r.length (c0 - 8) (cells r) := by
          have := HSR.out.sub 8 r.length (by omega)
          have e : ((cells (x0 :: x1 :: x2 :: x3 :: x4 :: x5 :: x6 :: x7 :: r)).drop 8).take r.length = cells r := by
            rw [cells_drop, cells_take]
            simp
          rw [e] at this
          exact this
        have HSUB := Lib.hid hsub
        have hsl := fun w' => slice_low A0 (r.length + 8) c0 8 (by omega) w'
        simp only [Nat.add_sub_cancel] at hsl
        generalize insOf x0 x1 x2 x3 x4 x5 x6 x7 = i at *
        have m1 : done.length + 1 ≤ maxLen := by simp only [maxLen]; omega
        have m2 : (done.length + 1) * 40 ≤ 140737488355328 := by omega
        have H1 := Lib.hid (insC_one i)
        obtain ⟨op, a, b', c'', n'⟩ := i
        clear hre hdd hsub hlen HDE HD
        have g0 : (0 : Int) < ((r.length + 8 : Nat) : Int) := by omega
        go_wp2_with fail
        refine HF.out.mono ?_
        rintro e w3 ⟨rfl, hb3⟩
        have HB3 := Lib.hid (HB.out.trans (hb3.mono HB.out.size))
        have HO3 := Lib.hid ((HOW.out.kept (row := none) ⟨hb3.os, hb3.tape, hb3.output, hb3.size, fun k hk _ => hb3.block k hk⟩ (by cases A' <;> simp [Value.ownBlock])).alloc (.cells (insC ⟨op, a, b', c'', n'⟩).toArray 51))
        have HB4 := Lib.hid (HB3.out.alloc HB3.out.size (.cells (insC ⟨op, a, b', c'', n'⟩).toArray 51))
        have HR := Lib.hid HO3.out.lt
        have HN := Lib.hid (cells_new w3 (insC ⟨op, a, b', c'', n'⟩) 51)
        clear hb3 HOW HB HF
        go_wp2_with (at_builtin; refine wpList_append_own_at _ rfl _ _ _ rfl w.heap.size 51 i0 _ 5 40 Tryd.underlying23 hi hz0 hz1 hz2 rfl (by decide) (.slice A' done.length c') done.length _ rfl HO3.out ⟨w3.heap.size, 0, none⟩ 1 1 (insC ⟨op, a, b', c'', n'⟩) rfl rfl HN.out H1.out m1 m2 HB4.out.size ?_; intro v' w4 hown' hg hnil hat; obtain ⟨A4, c4, rfl⟩ := own_slice5 hown')
        refine ⟨⟨done ++ [⟨op, a, b', c'', n'⟩], r, _, c0 - 8, A4, c4, HDD.out, by omega, by simp; omega, rfl, by simpa [dropA, Addr.add] using HSUB.out, by simp, HB4.out.grown hg HB4.out.size (fun k hk => (HR.out k hk).1), ?_⟩, by simp⟩
        rw [icells_app, List.length_append]
        exact hown'
  · have hr' : (((n % 8 : Nat) : Int) != 0) = true := by simp; omega
    have HD := Lib.hid (show decB b = false by simp [decB, hl, h8])
    clear h hs
    go_enter Tryd.func85, Tryd.ntmps85
    go_wp2
    go_ret2
    exact ⟨Below.refl _ _, .inl ⟨HD.out, rfl⟩⟩

end Go.Proofs.YtfkhfjefddgkoaaDoor.Cod
