/-
  The bytes of a range that a block holds: load.
  Noughts appended to a row of bytes: within its room, or onto a new one.
-/
import Derived.Test.YtfkhfjefddgkoaaDoorZSF
import Derived.Laws.CopyOwn
import Derived.Lib.AppendZerosOnto
import Derived.Laws.AppendOwn
namespace Go.Proofs.YtfkhfjefddgkoaaDoor
open Go.RowKit

def zeros (n : Nat) : Str := List.replicate n 0
theorem cells_one (l : Str) : ∀ u ∈ cells l, u.oneCell' = true := by
  intro u hu
  obtain ⟨b, _, rfl⟩ := List.mem_map.1 hu
  rfl
theorem cells_app (l m : Str) : cells (l ++ m) = cells l ++ cells m := by simp [cells]
theorem Tryd.info_u8 : (Tryd.prog.info? 5).map (fun i => (i.zero, i.size, i.bytes)) = some (some (.int .u8 0), 1, 1) := by kernel_rfl
theorem Tryd.one_byte : (Tryd.prog.info? 5).map (·.size) = some 1 := by kernel_rfl
theorem made_zeros (n : Nat) : (madeCells (Value.int .u8 0).cells (n * 1)).toList = cells (zeros n) := by
  apply List.ext_getElem
  · simp [madeCells, cells, zeros]
  · intro i h1 h2
    simp [madeCells, cells, zeros, Value.cells, Nat.mod_one]
/-- What n bytes from a place on read, noughts behind the last one that is kept. -/
def readM (l : Str) (from_ n : Nat) : Str := (l.drop from_ ++ zeros n).take n
theorem readM_len (l : Str) (f n : Nat) : (readM l f n).length = n := by simp [readM, zeros]
theorem readM_out (l : Str) (f n : Nat) (h : l.length ≤ f) : readM l f n = zeros n := by
  unfold readM
  rw [List.drop_of_length_le h, List.nil_append]
  simp [zeros]
theorem cells_drop (l : Str) (k : Nat) : (cells l).drop k = cells (l.drop k) := by simp [cells]
theorem cells_take (l : Str) (k : Nat) : (cells l).take k = cells (l.take k) := by simp [cells]
theorem readM_splice (l : Str) (f n : Nat) : splice (cells (zeros n)) 0 (cells ((l.drop f).take n)) = cells (readM l f n) := by
  unfold splice readM
  rw [List.take_zero, List.nil_append, Nat.zero_add, cells_len, cells_drop, ← cells_app, List.take_append]
  congr 2
  unfold zeros
  rw [List.drop_replicate, List.take_replicate, List.length_take]
  congr 1
  omega
def dropA (A : Option Addr) (c k : Nat) : Option Addr := if c = k then A else A.map (·.add k)
theorem slice_low (A : Option Addr) (n c k : Nat) (hk : k ≤ n) (w' : World) : (Instr.slice 55 (.slice A n c) (some (.int .i64 (k : Int))) none none).run Tryd.prog w' = .ok (.slice (dropA A c k) (n - k) (c - k)) w' := by
  have hz : (sizeOf (Tryd.prog.elem 55)).run Tryd.prog w' = .ok 1 w' := by kernel_rfl
  rw [run_slice_l (w := w') 55 A n c (by kernel_rfl) .i64 k (by omega) (by omega), hz]
  simp [Result.andThen, sliced, dropA]
theorem addAdd (a : Addr) (i j : Nat) : (a.add i).add j = a.add (i + j) := by
  unfold Addr.add
  by_cases hi : i = 0 <;> by_cases hj : j = 0 <;> simp [hi, hj, Nat.add_assoc]
theorem own_made {w : World} {B g n : Nat} {l : List Value} (hB : B ≤ g) (h : w.heap[g]? = some (.cells l.toArray 5 (0, 0))) (hl : l.length = n) (hm : n ≤ maxLen) : w.ownsRow B 5 1 (.slice (some ⟨g, 0, none⟩) n n) n l :=
  ⟨by rw [hl, Nat.mul_one], .inr ⟨g, n, l.toArray, rfl, hB, h, Nat.le_refl _, hm, by simp [hl], by simp [← hl]⟩⟩

theorem made_heap {w : World} {B g n : Nat} {l : List Value} (h : w.ownsRow B 5 1 (.slice (some ⟨g, 0, none⟩) n n) n l) : w.heap[g]? = some (.cells l.toArray 5 (0, 0)) := by
  rcases h.2 with ⟨h1, _⟩ | ⟨g', cap, cur, hv, _, hh, _, _, hs, ht⟩
  · cases h1
  · injection hv with h1 _ h3
    injection h1 with h1
    injection h1 with h1
    subst h1 h3
    have e : l = cur.toList := by
      rw [← ht, List.take_of_length_le]
      have : cur.toList.length = cur.size := by simp
      rw [this, hs]
      exact Nat.le_refl _
    rw [hh, e]
set_option maxRecDepth 100000 in
set_option maxHeartbeats 2000000 in
theorem load_any (b o : Nat) (a0 a : Int) (n : Nat) (P : Nat → Prop) (A : Option Addr) (c : Nat) (bs : Str) (ha : 0 ≤ a0 ∧ a0 ≤ a ∧ a ≤ 4294967296) (hn : 1 ≤ n ∧ n ≤ 1048576) (w : World)
    (h0 : w.cell? ⟨b, o, none⟩ = some (.int .i64 a0)) (h3 : w.cell? ⟨b, o + 3, none⟩ = some (.slice A bs.length c)) (h : Src w P A bs.length c (cells bs)) :
    Calls Tryd.prog 88 #[.pointer (some ⟨b, o, none⟩), .int .i64 a, .int .i64 n] w fun e w' => ∃ gn, e = .returned (.slice (some ⟨gn, 0, none⟩) n n) ∧ w'.ownsRow w.heap.size 5 1 (.slice (some ⟨gn, 0, none⟩) n n) n (cells (readM bs (a - a0).toNat n)) ∧ Below w.heap.size w w' := by
  obtain ⟨i0, hi, hz0, hz1, hz2⟩ := info_parts Tryd.info_u8
  obtain ⟨f, rfl⟩ : ∃ f : Nat, a = a0 + f := ⟨(a - a0).toNat, by omega⟩
  have e1 : wrap64 (a0 + (f : Int) - a0) = (f : Int) := by rw [IntWalk.wrap64_in _ (by omega)]; omega
  have e2 : a0 + (f : Int) - a0 = (f : Int) := by omega
  have HFN := Lib.hid (show (a0 + (f : Int) - a0).toNat = f by omega)
  have m1 : i0.bytes * n ≤ 281474976710656 := by rw [hz2]; omega
  have m2 : n ≤ maxLen := by simp only [maxLen]; omega
  have HX := Lib.hid h.lt
  have hcap := h.cap
  have HL := Lib.hid (show Bls w none 0 0 [] from ⟨rfl, fun _ => ⟨rfl, rfl⟩, Nat.le_refl _, (by intro b o j hA; cases hA), (by intro ad hA; cases hA)⟩)
  rw [HFN.out]
  clear h HL
  by_cases hfl : f < bs.length
  · have hlt : (f : Int) < (bs.length : Int) := by omega
    have hsl := fun w' => slice_low A bs.length c f (by omega) w'
    have HCS := Lib.hid (readM_splice bs f n)
    have HLN := Lib.hid (show (cells ((bs.drop f).take n)).length = Nat.min (bs.length - f) n by rw [cells_len, List.length_take, List.length_drop]; exact Nat.min_comm _ _)
    have HON := Lib.hid (cells_one ((bs.drop f).take n))
    obtain ⟨ad, rfl⟩ : ∃ ad, A = some ad := by
      cases A with
      | none => have := (HX.out.nil rfl).1; omega
      | some ad => exact ⟨ad, rfl⟩
    obtain ⟨ad2, hd2⟩ : ∃ ad2, dropA (some ad) c f = some ad2 := by
      unfold dropA
      split
      · exact ⟨_, rfl⟩
      · exact ⟨_, rfl⟩
    have HSR := Lib.hid (show ∀ w1, Below w.heap.size w w1 → ∀ j v, (cells ((bs.drop f).take n))[j]? = some v → w1.cell? (ad2.add j) = some v from fun w1 hb j v hj => by
      have hj1 : j < (cells ((bs.drop f).take n)).length := (List.getElem?_eq_some_iff.1 hj).1
      rw [cells_len, List.length_take, List.length_drop] at hj1
      unfold dropA at hd2
      split at hd2
      · omega
      · have hd3 : ad.add f = ad2 := by simpa using hd2
        rw [← hd3, addAdd]
        refine (HX.out.below hb (fun _ h => h)).at_ ad rfl (f + j) v ?_
        rw [← hj, ← cells_take, List.getElem?_take_of_lt (by omega), ← cells_drop, List.getElem?_drop])
    rw [hd2] at hsl
    have HCL := Lib.hid (show (cells (zeros n)).length = n by rw [cells_len]; simp [zeros])
    generalize hcs : cells ((bs.drop f).take n) = cs at *
    clear hfl hd2 hcs
    go_enter Tryd.func88, Tryd.ntmps88
    go_wp2_with (first
      | (at_make; refine wpList_make_full _ rfl (.tmp 9) (.tmp 9) 55 rfl w.heap.size 5 i0 (.int .u8 0) 1 Tryd.underlying55 hi hz0 hz1 .i64 .i64 _ _ n rfl rfl rfl rfl m1 m2 (Nat.le_refl _) ?_; intro w1 hown hg1; rw [made_zeros] at hown; have HO1 := Lib.hid hown; have HB1 := Lib.hid ((Below.refl w.heap.size w).grown hg1 (Nat.le_refl _) (fun k hk => by cases hk)); have k0 := cell_below HB1.out h0; have k3 := cell_below HB1.out h3; have HH1 := Lib.hid (made_heap hown); clear hown hg1)
      | (refine wpList_copy_splice rfl (.tmp 25) (.tmp 31) 55 55 rfl 5 Tryd.underlying55 Tryd.one_byte _ _ n n (bs.length - f) (c - f) rfl rfl w.heap.size 0 (cells (zeros n)) 5 HH1.out cs HLN.out (fun _ => ⟨rfl, ad2, rfl, HSR.out _ HB1.out⟩) (by rw [HLN.out, HCL.out, Nat.zero_add]; exact Nat.min_le_right _ _) HON.out w.heap.size w HB1.out (Nat.le_refl _) ?_; intro w2 hh2 hb2; have HB2 := Lib.hid hb2; have HH2 := Lib.hid hh2.out; clear hb2 hh2))
    go_ret
    have hh := HH2.out
    rw [HCS.out] at hh
    exact ⟨w.heap.size, rfl, own_made (Nat.le_refl _) hh (by rw [cells_len, readM_len]) m2, HB2.out⟩
  · have hlt : ¬ (f : Int) < (bs.length : Int) := by omega
    have HR := Lib.hid (readM_out bs f n (by omega))
    clear hfl
    go_enter Tryd.func88, Tryd.ntmps88
    go_wp2_with (at_make; refine wpList_make_full _ rfl (.tmp 9) (.tmp 9) 55 rfl w.heap.size 5 i0 (.int .u8 0) 1 Tryd.underlying55 hi hz0 hz1 .i64 .i64 _ _ n rfl rfl rfl rfl m1 m2 (Nat.le_refl _) ?_; intro w1 hown hg1; rw [made_zeros] at hown; have HO1 := Lib.hid hown; have HB1 := Lib.hid ((Below.refl w.heap.size w).grown hg1 (Nat.le_refl _) (fun k hk => by cases hk)); have k0 := cell_below HB1.out h0; have k3 := cell_below HB1.out h3; clear hown hg1)
    go_ret
    exact ⟨w.heap.size, rfl, by rw [HR.out]; exact HO1.out, HB1.out⟩
end Go.Proofs.YtfkhfjefddgkoaaDoor

namespace Go.Proofs.YtfkhfjefddgkoaaDoor
open Go.RowKit

theorem zero_cells (k : Nat) : (Builtin.zeroCells (Value.int .u8 0).cells k).toList = cells (zeros k) := by
  apply List.ext_getElem
  · simp [Builtin.zeroCells, cells, zeros, Value.cells]
  · intro i h1 h2
    simp [Builtin.zeroCells, cells, zeros, Value.cells, Nat.mod_one]
theorem zeros_len (k : Nat) : (zeros k).length = k := by simp [zeros]
theorem run_room_zeros {P : Program} (w : World) (t tn ty e : TypeId) (i : TypeInfo) (kn : IntKind) (ht : P.underlying t = some (.slice e)) (htn : P.underlying tn = some (.int kn)) (hi : P.info? e = some i) (hz : i.zero = some (.int .u8 0)) (h1 : i.size = 1) (hb : i.bytes = 1)
    (g n c k : Nat) (cur : Array Value) (hg : w.heap[g]? = some (.cells cur e (0, 0))) (hk : 0 < k) (hk2 : k ≤ 1048576) (hroom : n + k ≤ c) (hfit : n + k ≤ cur.size) :
    (Builtin.append_ #[t, tn] ty #[.slice (some ⟨g, 0, none⟩) n c, .int .i64 k]).run P w =
      .ok (.slice (some ⟨g, 0, none⟩) (n + k) c) (w.setRow g (cur.toList.take n ++ cells (zeros k) ++ cur.toList.drop (n + k)).toArray) := by
  have hw : IntKind.i64.wrap (k : Int) = k := by rw [IntKind.wrap_i64]; omega
  have hneg : ¬ ((k : Int) < 0) := by omega
  have h48 : ¬ (281474976710656 < (k : Int) * ((1 : Nat) : Int)) := by omega
  have h48' : ¬ (281474976710656 < (k : Int)) := by omega
  have hk0 : ¬ k = 0 := by omega
  have hst := run_storeCells_at P g n e (cells (zeros k)) 0 cur w hg (by rw [cells_len, zeros_len]; omega) (cells_one _)
  simp only [Nat.add_zero, cells_len, zeros_len] at hst
  have hzc := zero_cells k
  simp [Builtin.append_, run_underlying ht, run_underlying htn, sizeOf, typeInfo, zeroValue, hi, hz, h1, hb, asInt, asIntOf, hw, hneg, h48', hk0, hroom, Addr.add_lit, hzc, hst]
theorem append_zeros {w : World} (B : Nat) (A : Option Addr) (n c : Nat) (xs : Str) (k : Nat) (ty : TypeId) (hown : w.ownsRow B 5 1 (.slice A n c) n (cells xs)) (hk : 0 < k) (hn : n + k ≤ 1048576) (hB : B ≤ w.heap.size) :
    ∃ A' c' w', (Builtin.append_ #[55, 3] ty #[.slice A n c, .int .i64 (k : Nat)]).run Tryd.prog w = .ok (.slice A' (n + k) c') w' ∧ w'.ownsRow B 5 1 (.slice A' (n + k) c') (n + k) (cells (xs ++ zeros k)) ∧
      w.grownBy w' (Value.slice A n c).ownBlock ∧ (row A' = row A ∨ ∃ q, w.heap.size ≤ q ∧ row A' = some q) := by
  obtain ⟨i0, hi, hz0, hz1, hz2⟩ := info_parts Tryd.info_u8
  have hxl : xs.length = n := by have := hown.1; rw [cells_len] at this; omega
  have hlen : (cells (xs ++ zeros k)).length = (n + k) * 1 := by rw [cells_len, List.length_append, zeros_len, hxl, Nat.mul_one]
  have grown : ∀ (old : Nat), old < n + k →
      (w.drew.alloc (.cells ((cells xs).toArray ++ Builtin.zeroCells (Value.int .u8 0).cells k ++ Builtin.zeroCells (Value.int .u8 0).cells (grownCap w (n + k) old 5 - (n + k))) 5)).ownsRow B 5 1 (.slice (some ⟨w.heap.size, 0, none⟩) (n + k) (grownCap w (n + k) old 5)) (n + k) (cells (xs ++ zeros k)) := by
    intro old ho
    have hge := grownCap_ge w (n + k) old 5
    have hcm : grownCap w (n + k) old 5 ≤ maxLen := grownCap_le_maxLen w (n + k) old 5 (by simp only [maxLen]; omega)
    refine ⟨hlen, .inr ⟨w.heap.size, _, _, rfl, hB, heap_alloc_new w.drew _, hge, hcm, ?_, ?_⟩⟩
    · simp only [Array.size_append, List.size_toArray, cells_len, hxl, Builtin.zeroCells, Array.size_map, Array.size_range, Value.cells]
      simp
      omega
    · rw [Nat.mul_one]
      simp only [Array.toList_append, zero_cells, List.append_assoc]
      rw [← List.append_assoc, ← cells_app]
      exact List.take_left' (by rw [hlen, Nat.mul_one])
  have hgrw : ∀ (old : Nat) (rw_ : Option Nat), w.grownBy (w.drew.alloc (.cells ((cells xs).toArray ++ Builtin.zeroCells (Value.int .u8 0).cells k ++ Builtin.zeroCells (Value.int .u8 0).cells (grownCap w (n + k) old 5 - (n + k))) 5)) rw_ :=
    fun old rw_ => ⟨rfl, rfl, rfl, by simp, fun q hq _ => heap_alloc_old w.drew _ hq⟩
  rcases hown.2 with ⟨hv, h0⟩ | ⟨g, cap, cur, hv, hbg, hg, hnc, hcm, hcs, htake⟩
  · injection hv with h1 h2 h3
    subst h1 h3
    have hr := Lib.run_append_grow_zeros (P := Tryd.prog) w 55 3 ty 5 i0 (.int .u8 0) .i64 .i64 Tryd.underlying55 Tryd.underlying3 hi hz0 none n 0 (cells xs) (by
      have : xs = [] := List.eq_nil_of_length_eq_zero (by omega)
      subst this
      subst h0
      rfl) k hk (by omega) (by omega) (by omega) (by rw [hz2]; omega) (by rw [hz2]; exact growslice_fits (by omega) (by omega))
    exact ⟨_, _, _, hr, grown 0 (by omega), hgrw 0 _, .inr ⟨w.heap.size, Nat.le_refl _, rfl⟩⟩
  · injection hv with h1 h2 h3
    subst h1 h3
    by_cases hroom : n + k ≤ c
    · have hr := run_room_zeros (P := Tryd.prog) w 55 3 ty 5 i0 .i64 Tryd.underlying55 Tryd.underlying3 hi hz0 hz1 hz2 g n c k cur hg hk (by omega) hroom (by omega)
      refine ⟨_, _, _, hr, ⟨hlen, .inr ⟨g, c, _, rfl, hbg, setRow_heap w g cur _ 5 _ hg, hroom, hcm, ?_, ?_⟩⟩, ⟨rfl, rfl, rfl, by simp, fun q _ hq => setRow_other w g q _ (fun e => hq (by simp [Value.ownBlock, e]))⟩, .inl rfl⟩
      · simp only [List.size_toArray, List.length_append, List.length_take, List.length_drop, Array.length_toList, cells_len, zeros_len]
        omega
      · rw [Nat.mul_one] at htake
        rw [htake, ← cells_app]
        exact List.take_left' hlen
    · have holds : ∀ j u, (cells xs)[j]? = some u → w.cell? ((⟨g, 0, none⟩ : Addr).add j) = some u := hown.cells (g := g) rfl
      have hr := Lib.run_append_grow_zeros (P := Tryd.prog) w 55 3 ty 5 i0 (.int .u8 0) .i64 .i64 Tryd.underlying55 Tryd.underlying3 hi hz0 (some ⟨g, 0, none⟩) n c (cells xs)
        (by rw [hz1]; exact run_firstCells_some w.drew 1 n ⟨g, 0, none⟩ n c (cells xs) (by rw [cells_len]; omega) holds) k hk (by omega) (by omega) (by omega) (by rw [hz2]; omega) (by rw [hz2]; exact growslice_fits (by omega) (by omega))
      exact ⟨_, _, _, hr, grown c (by omega), hgrw c _, .inr ⟨w.heap.size, Nat.le_refl _, rfl⟩⟩
end Go.Proofs.YtfkhfjefddgkoaaDoor
