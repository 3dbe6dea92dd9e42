/-
  Words put into a space.
  The nine ways of access.
  New, Gap, Protect.
  Protect.
-/
import Derived.Test.YtfkhfjefddgkoaaDoorZSN
namespace Go.Proofs.YtfkhfjefddgkoaaDoor
open Go.RowKit

/-- The byte of a number at place i, the lowest first. -/
def dig (n : Int) (i : Nat) : UInt8 := UInt8.ofNat (n / 2 ^ (8 * i) % 256).toNat
def digs (n : Int) (k : Nat) : List UInt8 := (List.range k).map (dig n)
theorem digs_succ (n : Int) (k : Nat) : digs n (k + 1) = digs n k ++ [dig n k] := by simp [digs, List.range_succ]
theorem digs_len (n : Int) (k : Nat) : (digs n k).length = k := by simp [digs]
theorem dig_val (n : Int) (i : Nat) : n / 2 ^ (8 * i) % 256 = ((dig n i).toNat : Int) := by
  unfold dig
  rw [UInt8.toNat_ofNat']
  omega
/-- The word's bytes in their block, k of them laid. -/
def wcells (n : Int) (k : Nat) : Array Value := (cells (digs n k ++ zeros (8 - k))).toArray
theorem wcells_0 (n : Int) : wcells n 0 = #[.int .u8 0, .int .u8 0, .int .u8 0, .int .u8 0, .int .u8 0, .int .u8 0, .int .u8 0, .int .u8 0] := rfl
theorem wcells_set (n : Int) (k : Nat) (hk : k < 8) : (wcells n k).setIfInBounds k (.int .u8 (n / 2 ^ (8 * k) % 256)) = wcells n (k + 1) := by
  unfold wcells
  apply Array.toList_inj.1
  rw [Array.toList_setIfInBounds]
  simp only []
  rw [cells_app, cells_app, digs_succ, cells_app]
  rw [show zeros (8 - k) = 0 :: zeros (8 - (k + 1)) by rw [show 8 - k = (8 - (k + 1)) + 1 by omega]; rfl]
  rw [List.set_append_right _ _ (by rw [cells_len, digs_len]; exact Nat.le_refl _), cells_len, digs_len, Nat.sub_self, dig_val]
  simp [cells]
theorem wcells_at (n : Int) (k : Nat) (hk : k < 8) : ∃ v, (wcells n k)[k]? = some v := by
  refine ⟨_, Array.getElem?_eq_getElem (show k < (wcells n k).size from ?_)⟩
  unfold wcells
  rw [List.size_toArray, cells_len, List.length_append, digs_len, zeros_len]
  omega
theorem wcells_8 (n : Int) : wcells n 8 = (cells (digs n 8)).toArray := by
  unfold wcells
  rw [Nat.sub_self, show zeros 0 = [] from rfl, List.append_nil]
theorem slice_word (g : Nat) (w' : World) : (Instr.sliceAt 146 (.pointer (some ⟨g, 0, none⟩)) none none none).run Tryd.prog w' = .ok (.slice (some ⟨g, 0, none⟩) 8 8) w' := by
  have hz : (sizeOf (Tryd.prog.elem 146)).run Tryd.prog w' = .ok 1 w' := by kernel_rfl
  have hl : Tryd.prog.arrayLen 146 = 8 := by kernel_rfl
  rw [run_sliceAt_array_all (w := w') 146 ⟨g, 0, none⟩ (by kernel_rfl), hz]
  simp [Result.andThen, slicedAt, hl, Addr.add]
theorem src_bx {w : World} {g : Nat} {l : Str} {t : TypeId} (h : Bx w g (cells l).toArray t) (hl : l.length = 8) : Src w (fun k => k = g) (some ⟨g, 0, none⟩) 8 8 (cells l) := by
  refine ⟨by rw [cells_len, hl], (by intro h; cases h), Nat.le_refl _, (by intro ad hA _; cases hA; rfl), ?_⟩
  intro ad hA j u hu
  cases hA
  rw [plainAdd, Nat.zero_add, h.c j]
  simpa using hu
theorem Beside.into {w wr w2 : World} (hb : Beside w wr (fun q => q = w.heap.size)) (h : Below wr.heap.size wr w2) : Below w.heap.size w w2 :=
  ⟨h.os.trans hb.os, h.tape.trans hb.tape, h.output.trans hb.output, Nat.le_trans hb.size h.size, fun k hk => (h.block k (Nat.lt_of_lt_of_le hk hb.size)).trans (hb.block k hk (by omega))⟩
theorem Beside.through {w wr w2 : World} {p : Nat → Prop} (hb : Beside w wr (fun q => q = w.heap.size)) (h : Beside wr w2 p) : Beside w w2 p :=
  ⟨h.os.trans hb.os, h.tape.trans hb.tape, h.output.trans hb.output, Nat.le_trans hb.size h.size, fun k hk hn => (h.block k (Nat.lt_of_lt_of_le hk hb.size) hn).trans (hb.block k hk (by omega))⟩
theorem word_step {w wr : World} {g k : Nat} {cs cs' : Array Value} {t : TypeId} {v : Value} (hx : Bx wr g cs t) (hb : Beside w wr (fun q => q = g)) (he : cs.setIfInBounds k v = cs') : Bx (wr.setCell ⟨g, k, none⟩ v) g cs' t ∧ Beside w (wr.setCell ⟨g, k, none⟩ v) (fun q => q = g) := by
  refine ⟨?_, hb.set _ _ rfl⟩
  show (World.setCell _ _ _).heap[g]? = _
  rw [setCell_eq_setRow wr g k cs t _ v hx, ← he]
  exact setRow_heap wr g _ _ t _ hx
set_option maxRecDepth 100000 in
set_option maxHeartbeats 2000000 in
theorem putWord_any (B g : Nat) (A : Option Addr) (c : Nat) (rs : List Raw) (a n need : Int) (ha : I64 a) (w : World) (h : Sp w B g A c rs) :
    Calls Tryd.prog 81 #[.pointer (some ⟨g, 0, none⟩), .int .i64 a, .int .i64 n, .int .i64 need] w (Putted w B g A c rs a (digs n 8) need) := by
  have HS := Lib.hid h
  have H0 := Lib.hid (show Bx (w.alloc (.cells #[.int .u8 0, .int .u8 0, .int .u8 0, .int .u8 0, .int .u8 0, .int .u8 0, .int .u8 0, .int .u8 0] 146)) w.heap.size (wcells n 0) 146 from Bx.new w _ _)
  have HB0 := Lib.hid (show Beside w (w.alloc (.cells #[.int .u8 0, .int .u8 0, .int .u8 0, .int .u8 0, .int .u8 0, .int .u8 0, .int .u8 0, .int .u8 0] 146)) (fun k => k = w.heap.size) from ⟨rfl, rfl, rfl, by simp, fun k hk _ => heap_alloc_old w _ hk⟩)
  clear h
  generalize hL : Putted w B g A c rs a (digs n 8) need = L
  have HL := Lib.hid hL
  clear hL
  go_enter Tryd.func81, Tryd.ntmps81
  go_wp2_with fail
  go_loopw [10, 11] (fun _ t wr => ∃ k : Nat, k ≤ 8 ∧ t = .int .i64 k ∧ Bx wr w.heap.size (wcells n k) 146 ∧ Beside w wr (fun q => q = w.heap.size)) (fun _ t _ => 8 - (intOf t).toNat)
  case atStart => exact ⟨0, by omega, rfl, H0.out, HB0.out⟩
  case round =>
    obtain ⟨k, hk, rfl, hx, hb⟩ := hrel
    have HX := Lib.hid hx
    have HB := Lib.hid hb
    clear H0 HB0 hb
    by_cases hlt : k < 8
    · obtain ⟨v, hv⟩ := wcells_at n k hlt
      have hcv := (hx.c k).trans hv
      have hcf := hx.f k
      have HN := Lib.hid (word_step (v := .int .u8 (n / 2 ^ (8 * k) % 256)) HX.out HB.out (wcells_set n k hlt))
      clear hx hv HX HB
      go_wp2
      exact ⟨⟨k + 1, by omega, by go_num, HN.out⟩, by simp [intOf]; omega⟩
    · obtain rfl : k = 8 := by omega
      rw [wcells_8] at hx
      have HSW := slice_word w.heap.size
      have HP := Lib.hid (put_any B g A c rs a need (fun q => q = w.heap.size) (some ⟨w.heap.size, 0, none⟩) 8 8 (digs n 8) ha wr (HS.out.beside HB.out fun q hq e => by have := (HS.out.lt hq).2; omega) (src_bx hx (digs_len n 8))
        (fun q hq => ⟨fun hf => by have := (HS.out.lt hf).2; omega, by rw [hq]; exact hx.lt⟩))
      clear hx HX
      go_wp2_with fail
      refine HP.out.mono ?_
      intro e w2 hp
      have HPU := Lib.hid hp
      clear hp HP
      have HEND : ∃ E, e = .returned (.int .i64 E) ∧ Putted w B g A c rs a (digs n 8) need (.returned (.int .i64 E)) w2 := by
        rcases HPU.out with ⟨h1, rfl, h3⟩ | ⟨h1, rfl, k, hk, A', c', p1, p2, p3, p4, p5⟩
        · exact ⟨_, rfl, .inl ⟨h1, rfl, HB.out.into h3⟩⟩
        · exact ⟨_, rfl, .inr ⟨h1, rfl, k, hk, A', c', p1, p2, p3, HB.out.through p4, p5.imp (fun h => h) fun ⟨q, hq, e⟩ => ⟨q, Nat.le_trans HB.out.size hq, e⟩⟩⟩
      obtain ⟨E, rfl, hend⟩ := HEND
      have HE := Lib.hid hend
      clear hend HPU
      go_wp2_with fail
      first | go_ret | skip
      rw [← HL.out]
      exact HE.out
end Go.Proofs.YtfkhfjefddgkoaaDoor

namespace Go.Proofs.YtfkhfjefddgkoaaDoor
open Go.RowKit

theorem Taken.two {w w' : World} {bs : List Blk} {a n need : Int} {e : Ending} (h : Taken w bs a n need e w') : ∃ v E, e = .returned (.tuple #[v, .int .i64 E]) ∧ Taken w bs a n need (.returned (.tuple #[v, .int .i64 E])) w' := by
  have h0 := h
  obtain ⟨_, ⟨_, rfl⟩ | ⟨_, gn, rfl, _⟩⟩ := h
  · exact ⟨_, _, rfl, h0⟩
  · exact ⟨_, _, rfl, h0⟩
theorem Putted.one {w w' : World} {B g : Nat} {A : Option Addr} {c : Nat} {rs : List Raw} {a : Int} {ms : Str} {need : Int} {e : Ending} (h : Putted w B g A c rs a ms need e w') : ∃ E, e = .returned (.int .i64 E) ∧ Putted w B g A c rs a ms need (.returned (.int .i64 E)) w' := by
  have h0 := h
  rcases h with ⟨_, rfl, _⟩ | ⟨_, rfl, _⟩
  · exact ⟨_, rfl, h0⟩
  · exact ⟨_, rfl, h0⟩
set_option maxRecDepth 100000 in
theorem Peek_any (B g : Nat) (A : Option Addr) (c : Nat) (rs : List Raw) (a n : Int) (ha : I64 a) (w : World) (h : Sp w B g A c rs) :
    Calls Tryd.prog 37 #[.pointer (some ⟨g, 0, none⟩), .int .i64 a, .int .i64 n] w (Taken w (blks rs) a n 0) := by
  have HT := Lib.hid (take_any B g A c rs a n 0 ha w h)
  clear h
  generalize hL : Taken w (blks rs) a n 0 = L at *
  have HL := Lib.hid hL
  clear hL
  go_enter Tryd.func37, Tryd.ntmps37
  go_wp2_with fail
  refine HT.out.mono ?_
  intro e w1 ht
  rw [← HL.out] at ht
  obtain ⟨v, E, rfl, hend⟩ := ht.two
  have HE := Lib.hid hend
  clear ht hend HT
  go_wp2_with fail
  first | go_ret2 | skip
  rw [← HL.out]
  exact HE.out
set_option maxRecDepth 100000 in
theorem Fetch_any (B g : Nat) (A : Option Addr) (c : Nat) (rs : List Raw) (a : Int) (ha : I64 a) (w : World) (h : Sp w B g A c rs) :
    Calls Tryd.prog 84 #[.pointer (some ⟨g, 0, none⟩), .int .i64 a] w (Taken w (blks rs) a 8 4) := by
  have HT := Lib.hid (take_any B g A c rs a 8 4 ha w h)
  clear h
  generalize hL : Taken w (blks rs) a 8 4 = L at *
  have HL := Lib.hid hL
  clear hL
  go_enter Tryd.func84, Tryd.ntmps84
  go_wp2_with fail
  refine HT.out.mono ?_
  intro e w1 ht
  rw [← HL.out] at ht
  obtain ⟨v, E, rfl, hend⟩ := ht.two
  have HE := Lib.hid hend
  clear ht hend HT
  go_wp2_with fail
  first | go_ret2 | skip
  rw [← HL.out]
  exact HE.out
set_option maxRecDepth 100000 in
theorem Word_any (B g : Nat) (A : Option Addr) (c : Nat) (rs : List Raw) (a : Int) (ha : I64 a) (w : World) (h : Sp w B g A c rs) :
    Calls Tryd.prog 98 #[.pointer (some ⟨g, 0, none⟩), .int .i64 a] w (fun e w' => Below w.heap.size w w' ∧ e = .returned (.tuple #[.int .i64 (wordAt (blks rs) a 1), .int .i64 (goes (blks rs) a 8 1)])) := by
  have HT := Lib.hid (takeWord_any B g A c rs a 1 ha w h)
  clear h
  generalize wordAt (blks rs) a 1 = V at *
  generalize goes (blks rs) a 8 1 = E at *
  go_enter Tryd.func98, Tryd.ntmps98
  go_wp2_with fail
  refine HT.out.mono ?_
  rintro e w1 ⟨hb, rfl⟩
  have HB := Lib.hid hb
  clear hb HT
  go_wp2_with fail
  first | go_ret2 | skip
  exact ⟨HB.out, rfl⟩
set_option maxRecDepth 100000 in
theorem Write_any (B g : Nat) (A : Option Addr) (c : Nat) (rs : List Raw) (a : Int) (P : Nat → Prop) (SA : Option Addr) (m sc : Nat) (ms : Str) (ha : I64 a) (w : World) (h : Sp w B g A c rs) (hs : Src w P SA m sc (cells ms)) (hP : ∀ q, P q → ¬ Foot g A rs q ∧ q < w.heap.size) :
    Calls Tryd.prog 58 #[.pointer (some ⟨g, 0, none⟩), .int .i64 a, .slice SA m sc] w (Putted w B g A c rs a ms 2) := by
  have HT := Lib.hid (put_any B g A c rs a 2 P SA m sc ms ha w h hs hP)
  clear h hs hP
  generalize hL : Putted w B g A c rs a ms 2 = L at *
  have HL := Lib.hid hL
  clear hL
  go_enter Tryd.func58, Tryd.ntmps58
  go_wp2_with fail
  refine HT.out.mono ?_
  intro e w1 ht
  rw [← HL.out] at ht
  obtain ⟨E, rfl, hend⟩ := ht.one
  have HE := Lib.hid hend
  clear ht hend HT
  go_wp2_with fail
  first | go_ret | skip
  rw [← HL.out]
  exact HE.out
set_option maxRecDepth 100000 in
theorem Poke_any (B g : Nat) (A : Option Addr) (c : Nat) (rs : List Raw) (a : Int) (P : Nat → Prop) (SA : Option Addr) (m sc : Nat) (ms : Str) (ha : I64 a) (w : World) (h : Sp w B g A c rs) (hs : Src w P SA m sc (cells ms)) (hP : ∀ q, P q → ¬ Foot g A rs q ∧ q < w.heap.size) :
    Calls Tryd.prog 21 #[.pointer (some ⟨g, 0, none⟩), .int .i64 a, .slice SA m sc] w (Putted w B g A c rs a ms 0) := by
  have HT := Lib.hid (put_any B g A c rs a 0 P SA m sc ms ha w h hs hP)
  clear h hs hP
  generalize hL : Putted w B g A c rs a ms 0 = L at *
  have HL := Lib.hid hL
  clear hL
  go_enter Tryd.func21, Tryd.ntmps21
  go_wp2_with fail
  refine HT.out.mono ?_
  intro e w1 ht
  rw [← HL.out] at ht
  obtain ⟨E, rfl, hend⟩ := ht.one
  have HE := Lib.hid hend
  clear ht hend HT
  go_wp2_with fail
  first | go_ret | skip
  rw [← HL.out]
  exact HE.out
set_option maxRecDepth 100000 in
theorem SetWord_any (B g : Nat) (A : Option Addr) (c : Nat) (rs : List Raw) (a n : Int) (ha : I64 a) (w : World) (h : Sp w B g A c rs) :
    Calls Tryd.prog 59 #[.pointer (some ⟨g, 0, none⟩), .int .i64 a, .int .i64 n] w (Putted w B g A c rs a (digs n 8) 2) := by
  have HT := Lib.hid (putWord_any B g A c rs a n 2 ha w h)
  clear h
  generalize hL : Putted w B g A c rs a (digs n 8) 2 = L at *
  have HL := Lib.hid hL
  clear hL
  go_enter Tryd.func59, Tryd.ntmps59
  go_wp2_with fail
  refine HT.out.mono ?_
  intro e w1 ht
  rw [← HL.out] at ht
  obtain ⟨E, rfl, hend⟩ := ht.one
  have HE := Lib.hid hend
  clear ht hend HT
  go_wp2_with fail
  first | go_ret | skip
  rw [← HL.out]
  exact HE.out
set_option maxRecDepth 100000 in
theorem PokeWord_any (B g : Nat) (A : Option Addr) (c : Nat) (rs : List Raw) (a n : Int) (ha : I64 a) (w : World) (h : Sp w B g A c rs) :
    Calls Tryd.prog 60 #[.pointer (some ⟨g, 0, none⟩), .int .i64 a, .int .i64 n] w (Putted w B g A c rs a (digs n 8) 0) := by
  have HT := Lib.hid (putWord_any B g A c rs a n 0 ha w h)
  clear h
  generalize hL : Putted w B g A c rs a (digs n 8) 0 = L at *
  have HL := Lib.hid hL
  clear hL
  go_enter Tryd.func60, Tryd.ntmps60
  go_wp2_with fail
  refine HT.out.mono ?_
  intro e w1 ht
  rw [← HL.out] at ht
  obtain ⟨E, rfl, hend⟩ := ht.one
  have HE := Lib.hid hend
  clear ht hend HT
  go_wp2_with fail
  first | go_ret | skip
  rw [← HL.out]
  exact HE.out
end Go.Proofs.YtfkhfjefddgkoaaDoor

namespace Go.Proofs.YtfkhfjefddgkoaaDoor
open Go.RowKit

theorem new_any (w : World) : Calls Tryd.prog 23 #[] w fun e w' => e = .returned (.pointer (some ⟨w.heap.size, 0, none⟩)) ∧ w' = w.alloc (.cells #[.slice none 0 0] 97) := by
  go_enter Tryd.func23, Tryd.ntmps23
  go_wp2_with fail
  first | go_ret | skip
  exact ⟨rfl, rfl⟩
theorem sp_new (w : World) (B : Nat) (hB : B ≤ w.heap.size) : Sp (w.alloc (.cells #[.slice none 0 0] 97)) B w.heap.size none 0 [] := by
  refine ⟨hB, Bx.new w _ _, World.ownsRow_nil _ _ _ _, ?_, ?_, (by intro h; cases h), ?_, List.Pairwise.nil, ⟨?_, ?_⟩⟩
  · intro r hr; cases hr
  · intro r hr; cases hr
  · intro r hr; cases hr
  · intro r hr; cases hr
  · intro j k hj; simp at hj
/-- What Gap answers. -/
def gapB (rs : List Raw) (s : Int) : Option Int := gapFrom s 4096 rs
def Gaps (w : World) (rs : List Raw) (s : Int) (e : Ending) (w' : World) : Prop := Below w.heap.size w w' ∧ e = .returned (if sizeB s = true then (match gapB rs s with
    | some a => .tuple #[.int .i64 a, .int .i64 0]
    | none => .tuple #[.int .i64 0, .int .i64 3]) else .tuple #[.int .i64 0, .int .i64 1])
end Go.Proofs.YtfkhfjefddgkoaaDoor

namespace Go.Proofs.YtfkhfjefddgkoaaDoor
open Go.RowKit

/-- The space, with one block's permission anew. -/
theorem Sp.perm {w w' : World} {B g b : Nat} {c : Nat} {rs : List Raw} {cur : Array Value} {k : Nat} {p : Int} (h : Sp w B g (some ⟨b, 0, none⟩) c rs) (hnc : rs.length ≤ c) (hcm : c ≤ maxLen) (hcs : cur.size = c * 4) (ht : cur.toList.take (rs.length * 4) = rcells rs) (hk : k < rs.length)
    (hx : Bx w' b (cur.setIfInBounds (k * 4 + 2) (.int .i64 p)) 122) (hb : Beside w w' (fun q => q = b)) :
    Sp w' B g (some ⟨b, 0, none⟩) c (rs.set k ⟨⟨rs[k].b.at_, rs[k].b.size, p, rs[k].b.bytes⟩, rs[k].A, rs[k].c⟩) := by
  have hmem := List.getElem_mem hk
  have hgb : g ≠ b := fun e => h.ne (by rw [e]; rfl)
  have hbB : B ≤ b := (h.lt (k := b) (.inr (.inl rfl))).1
  have hall : ∀ j (hj : j < rs.length), j ≠ k → ∀ q, row rs[k].A = some q → row rs[j].A ≠ some q := by
    intro j hj hne q hq e
    have hp := List.pairwise_iff_getElem.1 h.pair
    rcases Nat.lt_or_gt_of_ne hne with hl | hl
    · exact hp j k hj hk hl q e hq
    · exact hp k j hk hj hl q hq e
  have hold : ∀ r ∈ rs, w'.ownsRow B 5 1 (.slice r.A r.b.bytes.length r.c) r.b.bytes.length (cells r.b.bytes) := by
    intro r hr
    refine own_beside (h.bytes r hr) hb fun q hq e => ?_
    rw [row_own] at hq
    exact (h.apart r hr q hq).2 (by rw [e]; rfl)
  have hat : ∀ (r : Raw), r ∈ rs.set k ⟨⟨rs[k].b.at_, rs[k].b.size, p, rs[k].b.bytes⟩, rs[k].A, rs[k].c⟩ → ∃ r0 ∈ rs, r.A = r0.A ∧ r.c = r0.c ∧ r.b.bytes = r0.b.bytes ∧ r.b.size = r0.b.size := by
    intro r hr
    obtain ⟨j, hj, rfl⟩ := List.getElem_of_mem hr
    rw [List.length_set] at hj
    rw [List.getElem_set]
    by_cases e : k = j
    · rw [if_pos e]
      exact ⟨_, hmem, rfl, rfl, rfl, rfl⟩
    · rw [if_neg e]
      exact ⟨_, List.getElem_mem hj, rfl, rfl, rfl, rfl⟩
  refine ⟨h.hg, ?_, row_set hbB hnc hcm hcs ht hk rfl (by omega) hx, ?_, ?_, h.ne, ?_, pair_set h.pair hall, ?_⟩
  · rw [List.length_set]
    exact h.box.beside hb hgb
  · intro r hr
    obtain ⟨r0, hr0, e1, e2, e3, _⟩ := hat r hr
    rw [e1, e2, e3]
    exact hold r0 hr0
  · intro r hr
    obtain ⟨r0, hr0, _, _, e3, e4⟩ := hat r hr
    rw [e3, e4]
    exact h.short r0 hr0
  · intro r hr
    obtain ⟨r0, hr0, e1, _⟩ := hat r hr
    rw [e1]
    exact h.apart r0 hr0
  · exact ord_same h.ord (by rw [List.length_set]) fun j hj => by
      rw [List.getElem_set]
      split
      · rename_i e; subst e; exact ⟨rfl, rfl⟩
      · exact ⟨rfl, rfl⟩
/-- Behind a Protect. -/
def Guarded (w : World) (B g : Nat) (A : Option Addr) (c : Nat) (rs : List Raw) (a p : Int) (e : Ending) (w' : World) : Prop :=
  (permB p = false ∧ e = .returned (.int .i64 1) ∧ Below w.heap.size w w') ∨
  (permB p = true ∧ (∀ (k : Nat) (hk : k < rs.length), rs[k].b.at_ ≠ a) ∧ e = .returned (.int .i64 50) ∧ Below w.heap.size w w') ∨
  (permB p = true ∧ ∃ (k : Nat) (hk : k < rs.length), rs[k].b.at_ = a ∧ e = .returned (.int .i64 0) ∧ Sp w' B g A c (rs.set k ⟨⟨rs[k].b.at_, rs[k].b.size, p, rs[k].b.bytes⟩, rs[k].A, rs[k].c⟩) ∧ Beside w w' (Foot g A rs))
theorem perm_in {w w1 : World} {B g b o k : Nat} {c : Nat} {rs : List Raw} {p a : Int} (h : Sp w B g (some ⟨b, o, none⟩) c rs) (hb : Below w.heap.size w w1) (hk : k < rs.length) (hp : permB p = true) (ha : rs[k].b.at_ = a) :
    w1.frozen? ⟨b, o + k * 4 + 2, none⟩ = false ∧ (∃ v, w1.cell? ⟨b, o + k * 4 + 2, none⟩ = some v) ∧ Guarded w B g (some ⟨b, o, none⟩) c rs a p (.returned (.int .i64 0)) (w1.setCell ⟨b, o + k * 4 + 2, none⟩ (.int .i64 p)) := by
  have h1 := h.beside (Beside.of_below hb (fun _ => False)) fun _ _ e => e
  obtain ⟨rfl, hbB, hnc, hcm, cur, hx, hcs, ht⟩ := h1.cur
  rw [Nat.zero_add]
  refine ⟨hx.f _, ⟨_, (hx.c _).trans (cur_at ht hk (j := 2) (by omega))⟩, .inr (.inr ⟨hp, k, hk, ha, rfl, h1.perm hnc hcm hcs ht hk ?_ ((Beside.refl w1 _).set _ _ rfl), (Beside.of_below hb _).set _ _ (.inr (.inl rfl))⟩)⟩
  show (World.setCell _ _ _).heap[b]? = _
  rw [setCell_eq_setRow w1 b _ cur 122 _ _ hx]
  exact setRow_heap w1 b _ _ 122 _ hx
set_option maxRecDepth 100000 in
set_option maxHeartbeats 2000000 in
theorem Protect_any (B g : Nat) (A : Option Addr) (c : Nat) (rs : List Raw) (a p : Int) (w : World) (h : Sp w B g A c rs) :
    Calls Tryd.prog 57 #[.pointer (some ⟨g, 0, none⟩), .int .i64 a, .int .i64 p] w (Guarded w B g A c rs a p) := by
  have HS := Lib.hid h
  have hc : w.cell? ⟨g, 0, none⟩ = some (.slice A rs.length c) := h.box.c 0
  have HZ := Lib.hid (isPerm_any p w)
  have HPO := Lib.hid (position_any A rs.length c g rs a w hc h.bls h.ord.asc (by have := ord_few h.ord; omega))
  clear h
  cases hpb : permB p with
  | false =>
    have HW := Lib.hid (show ∀ w', Below w.heap.size w w' → Guarded w B g A c rs a p (.returned (.int .i64 1)) w' from fun w' hb => .inl ⟨hpb, rfl, hb⟩)
    rw [hpb] at HZ
    generalize Guarded w B g A c rs a p = L at *
    go_enter Tryd.func57, Tryd.ntmps57
    go_wp2_with fail
    refine HZ.out.mono ?_
    rintro e w1 ⟨rfl, rfl⟩
    clear HZ
    go_wp2_with fail
    exact HW.out _ (Below.refl _ _)
  | true =>
    have HPI := Lib.hid (fun (w1 : World) (b o k : Nat) (hA : A = some ⟨b, o, none⟩) hb (hk : k < rs.length) (ha : rs[k].b.at_ = a) => perm_in (w1 := w1) (hA ▸ HS.out) hb hk hpb ha)
    have HN := Lib.hid (show ∀ w', Below w.heap.size w w' → (∀ (k : Nat) (hk : k < rs.length), rs[k].b.at_ ≠ a) → Guarded w B g A c rs a p (.returned (.int .i64 50)) w' from fun w' hb hn => .inr (.inl ⟨hpb, hn, rfl, hb⟩))
    rw [hpb] at HZ
    generalize hL : Guarded w B g A c rs a p = L at *
    have HL := Lib.hid hL
    clear hL hpb
    go_enter Tryd.func57, Tryd.ntmps57
    go_wp2_with fail
    refine HZ.out.mono ?_
    rintro e w1 ⟨rfl, rfl⟩
    clear HZ
    go_wp2_with fail
    refine HPO.out.mono ?_
    rintro e w1 ⟨i, f, rfl, hb, hp⟩
    have HB := Lib.hid hb
    have hc1 := cell_below hb hc
    clear hb HPO hc
    cases f with
    | false =>
      have HNO := Lib.hid (show ∀ (k : Nat) (hk : k < rs.length), rs[k].b.at_ ≠ a from fun k hk e => by
        by_cases h1 : k < i
        · have := hp.lo k hk h1; omega
        · have h2 := hp.hi k hk (by omega)
          by_cases h3 : k = i
          · subst h3
            have := hp.hit.2 ⟨hk, e⟩
            cases this
          · have hi2 : i < rs.length := by omega
            have h4 := hp.hi i hi2 (Nat.le_refl _)
            have h5 := HS.out.ord.asc i k hi2 hk (by omega)
            omega)
      clear hp
      go_wp2_with fail
      exact HN.out _ HB.out HNO.out
    | true =>
      obtain ⟨hi, hat⟩ := hp.hit.1 rfl
      obtain ⟨ad, rfl⟩ : ∃ ad, A = some ad := by
        cases A with
        | none => have := (HS.out.bls.nil rfl).1; omega
        | some ad => exact ⟨ad, rfl⟩
      obtain ⟨b, o, rfl⟩ := HS.out.bls.plain ad rfl
      obtain ⟨hf, ⟨v, hv⟩, hG⟩ := HPI.out w1 b o i rfl HB.out hi hat
      have HG := Lib.hid hG
      clear hG hp hat HPI HN
      go_wp2_with fail
      rw [← HL.out]
      exact HG.out
end Go.Proofs.YtfkhfjefddgkoaaDoor
