/-
  Words put into a space.
-/
import Derived.Test.YthbdncojekpanaaN
namespace Go.Proofs.Ythbdncojekpanaa
open Go.RowKit

/-- The byte of a number at place i, the lowest first. -/
def dig (n : Int) (i : Nat) : UInt8 := UInt8.ofNat (n / 2 ^ (8 * i) % 256).toNat
def digs (n : Int) (k : Nat) : List UInt8 := (List.range k).map (dig n)
theorem digs_succ (n : Int) (k : Nat) : digs n (k + 1) = digs n k ++ [dig n k] := by simp [digs, List.range_succ]
theorem digs_len (n : Int) (k : Nat) : (digs n k).length = k := by simp [digs]
theorem dig_val (n : Int) (i : Nat) : n / 2 ^ (8 * i) % 256 = ((dig n i).toNat : Int) := by
  unfold dig
  rw [UInt8.toNat_ofNat']
  omega
/-- The word's bytes in their block, k of them laid. -/
def wcells (n : Int) (k : Nat) : Array Value := (cells (digs n k ++ zeros (8 - k))).toArray
theorem wcells_0 (n : Int) : wcells n 0 = #[.int .u8 0, .int .u8 0, .int .u8 0, .int .u8 0, .int .u8 0, .int .u8 0, .int .u8 0, .int .u8 0] := rfl
theorem wcells_set (n : Int) (k : Nat) (hk : k < 8) : (wcells n k).setIfInBounds k (.int .u8 (n / 2 ^ (8 * k) % 256)) = wcells n (k + 1) := by
  unfold wcells
  apply Array.toList_inj.1
  rw [Array.toList_setIfInBounds]
  simp only []
  rw [cells_app, cells_app, digs_succ, cells_app]
  rw [show zeros (8 - k) = 0 :: zeros (8 - (k + 1)) by rw [show 8 - k = (8 - (k + 1)) + 1 by omega]; rfl]
  rw [List.set_append_right _ _ (by rw [cells_len, digs_len]; exact Nat.le_refl _), cells_len, digs_len, Nat.sub_self, dig_val]
  simp [cells]
theorem wcells_at (n : Int) (k : Nat) (hk : k < 8) : ∃ v, (wcells n k)[k]? = some v := by
  refine ⟨_, Array.getElem?_eq_getElem (show k < (wcells n k).size from ?_)⟩
  unfold wcells
  rw [List.size_toArray, cells_len, List.length_append, digs_len, zeros_len]
  omega
theorem wcells_8 (n : Int) : wcells n 8 = (cells (digs n 8)).toArray := by
  unfold wcells
  rw [Nat.sub_self, show zeros 0 = [] from rfl, List.append_nil]
theorem slice_word (g : Nat) (w' : World) : (Instr.sliceAt 98 (.pointer (some ⟨g, 0, none⟩)) none none none).run Try.prog w' = .ok (.slice (some ⟨g, 0, none⟩) 8 8) w' := by
  have hz : (sizeOf (Try.prog.elem 98)).run Try.prog w' = .ok 1 w' := by kernel_rfl
  have hl : Try.prog.arrayLen 98 = 8 := by kernel_rfl
  rw [run_sliceAt_array_all (w := w') 98 ⟨g, 0, none⟩ (by kernel_rfl), hz]
  simp [Result.andThen, slicedAt, hl, Addr.add]
theorem src_bx {w : World} {g : Nat} {l : Str} {t : TypeId} (h : Bx w g (cells l).toArray t) (hl : l.length = 8) : Src w (fun k => k = g) (some ⟨g, 0, none⟩) 8 8 (cells l) := by
  refine ⟨by rw [cells_len, hl], (by intro h; cases h), Nat.le_refl _, (by intro ad hA _; cases hA; rfl), ?_⟩
  intro ad hA j u hu
  cases hA
  rw [plainAdd, Nat.zero_add, h.c j]
  simpa using hu
theorem Beside.into {w wr w2 : World} (hb : Beside w wr (fun q => q = w.heap.size)) (h : Below wr.heap.size wr w2) : Below w.heap.size w w2 :=
  ⟨h.os.trans hb.os, h.tape.trans hb.tape, h.output.trans hb.output, Nat.le_trans hb.size h.size, fun k hk => (h.block k (Nat.lt_of_lt_of_le hk hb.size)).trans (hb.block k hk (by omega))⟩
theorem Beside.through {w wr w2 : World} {p : Nat → Prop} (hb : Beside w wr (fun q => q = w.heap.size)) (h : Beside wr w2 p) : Beside w w2 p :=
  ⟨h.os.trans hb.os, h.tape.trans hb.tape, h.output.trans hb.output, Nat.le_trans hb.size h.size, fun k hk hn => (h.block k (Nat.lt_of_lt_of_le hk hb.size) hn).trans (hb.block k hk (by omega))⟩
theorem word_step {w wr : World} {g k : Nat} {cs cs' : Array Value} {t : TypeId} {v : Value} (hx : Bx wr g cs t) (hb : Beside w wr (fun q => q = g)) (he : cs.setIfInBounds k v = cs') : Bx (wr.setCell ⟨g, k, none⟩ v) g cs' t ∧ Beside w (wr.setCell ⟨g, k, none⟩ v) (fun q => q = g) := by
  refine ⟨?_, hb.set _ _ rfl⟩
  show (World.setCell _ _ _).heap[g]? = _
  rw [setCell_eq_setRow wr g k cs t _ v hx, ← he]
  exact setRow_heap wr g _ _ t _ hx
set_option maxRecDepth 100000 in
set_option maxHeartbeats 2000000 in
theorem putWord_any (B g : Nat) (A : Option Addr) (c : Nat) (rs : List Raw) (a n need : Int) (ha : I64 a) (w : World) (h : Sp w B g A c rs) :
    Calls Try.prog 58 #[.pointer (some ⟨g, 0, none⟩), .int .i64 a, .int .i64 n, .int .i64 need] w (Putted w B g A c rs a (digs n 8) need) := by
  have HS := Lib.hid h
  have H0 := Lib.hid (show Bx (w.alloc (.cells #[.int .u8 0, .int .u8 0, .int .u8 0, .int .u8 0, .int .u8 0, .int .u8 0, .int .u8 0, .int .u8 0] 98)) w.heap.size (wcells n 0) 98 from Bx.new w _ _)
  have HB0 := Lib.hid (show Beside w (w.alloc (.cells #[.int .u8 0, .int .u8 0, .int .u8 0, .int .u8 0, .int .u8 0, .int .u8 0, .int .u8 0, .int .u8 0] 98)) (fun k => k = w.heap.size) from ⟨rfl, rfl, rfl, by simp, fun k hk _ => heap_alloc_old w _ hk⟩)
  clear h
  generalize hL : Putted w B g A c rs a (digs n 8) need = L
  have HL := Lib.hid hL
  clear hL
  go_enter Try.func58, Try.ntmps58
  go_wp2_with fail
  go_loopw [10, 11] (fun _ t wr => ∃ k : Nat, k ≤ 8 ∧ t = .int .i64 k ∧ Bx wr w.heap.size (wcells n k) 98 ∧ Beside w wr (fun q => q = w.heap.size)) (fun _ t _ => 8 - (intOf t).toNat)
  case atStart => exact ⟨0, by omega, rfl, H0.out, HB0.out⟩
  case round =>
    obtain ⟨k, hk, rfl, hx, hb⟩ := hrel
    have HX := Lib.hid hx
    have HB := Lib.hid hb
    clear H0 HB0 hb
    by_cases hlt : k < 8
    · obtain ⟨v, hv⟩ := wcells_at n k hlt
      have hcv := (hx.c k).trans hv
      have hcf := hx.f k
      have HN := Lib.hid (word_step (v := .int .u8 (n / 2 ^ (8 * k) % 256)) HX.out HB.out (wcells_set n k hlt))
      clear hx hv HX HB
      go_wp2
      exact ⟨⟨k + 1, by omega, by go_num, HN.out⟩, by simp [intOf]; omega⟩
    · obtain rfl : k = 8 := by omega
      rw [wcells_8] at hx
      have HSW := slice_word w.heap.size
      have HP := Lib.hid (put_any B g A c rs a need (fun q => q = w.heap.size) (some ⟨w.heap.size, 0, none⟩) 8 8 (digs n 8) ha wr (HS.out.beside HB.out fun q hq e => by have := (HS.out.lt hq).2; omega) (src_bx hx (digs_len n 8))
        (fun q hq => ⟨fun hf => by have := (HS.out.lt hf).2; omega, by rw [hq]; exact hx.lt⟩))
      clear hx HX
      go_wp2_with fail
      refine HP.out.mono ?_
      intro e w2 hp
      have HPU := Lib.hid hp
      clear hp HP
      have HEND : ∃ E, e = .returned (.int .i64 E) ∧ Putted w B g A c rs a (digs n 8) need (.returned (.int .i64 E)) w2 := by
        rcases HPU.out with ⟨h1, rfl, h3⟩ | ⟨h1, rfl, k, hk, A', c', p1, p2, p3, p4, p5⟩
        · exact ⟨_, rfl, .inl ⟨h1, rfl, HB.out.into h3⟩⟩
        · exact ⟨_, rfl, .inr ⟨h1, rfl, k, hk, A', c', p1, p2, p3, HB.out.through p4, p5.imp (fun h => h) fun ⟨q, hq, e⟩ => ⟨q, Nat.le_trans HB.out.size hq, e⟩⟩⟩
      obtain ⟨E, rfl, hend⟩ := HEND
      have HE := Lib.hid hend
      clear hend HPU
      go_wp2_with fail
      first | go_ret | skip
      rw [← HL.out]
      exact HE.out
end Go.Proofs.Ythbdncojekpanaa
