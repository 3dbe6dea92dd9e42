/-
  A new walk; nodes are entered.
-/
import Derived.Test.YtkaejcpnlphdpaaD
namespace Go.Proofs.Ytkaejcpnlphdpaa
open Go.RowKit

/-- A walk at the block g: its edges, the nodes that are closed (at the block gc), its order. -/
structure Wk (w : World) (B g gc n : Nat) (E : Option Addr) (ce : Nat) (C o : List Int) (O : Option Addr) (co : Nat) : Prop where
  box : Bx w g #[.slice E n ce, .slice (some ⟨gc, 0, none⟩) n n, .slice O o.length co] 44
  clo : w.ownsRow B 4 1 (.slice (some ⟨gc, 0, none⟩) n n) n (bools n C)
  ord : w.ownsRow B 3 1 (.slice O o.length co) o.length (ints o)
  lo : B ≤ g ∧ B ≤ gc
  ne : g ≠ gc
  nc : row O ≠ some gc
  ng : row O ≠ some g
theorem alloc_size (w : World) (o : Obj) : (w.alloc o).heap.size = w.heap.size + 1 := by simp
theorem cells_new (w : World) (l : List Value) (e : TypeId) : ∀ j u, l[j]? = some u → (w.alloc (.cells l.toArray e)).cell? ((⟨w.heap.size, 0, none⟩ : Addr).add j) = some u := by
  intro j u hu
  have h := (Bx.new w l.toArray e).c j
  rw [List.getElem?_toArray, hu] at h
  have e : ((⟨w.heap.size, 0, none⟩ : Addr).add j) = ⟨w.heap.size, j, none⟩ := by unfold Addr.add; split <;> simp_all
  rw [e]
  exact h
theorem src_lit (w : World) (l : List Value) (e : TypeId) (Q : Nat → Prop) (hQ : Q w.heap.size) : Src (w.alloc (.cells l.toArray e)) Q (some ⟨w.heap.size, 0, none⟩) l.length l.length l :=
  ⟨rfl, (by intro h; cases h), Nat.le_refl _, (by intro ad h _; cases h; exact hQ), (by intro ad h; cases h; exact cells_new w l e)⟩
section
variable {w w2 : World} {B g gc n ce co : Nat} {E O : Option Addr} {C o : List Int}
theorem Wk.alloc (h : Wk w B g gc n E ce C o O co) (obj : Obj) : Wk (w.alloc obj) B g gc n E ce C o O co :=
  ⟨h.box.keep (Below.heap_alloc w obj g h.box.lt), own_kept h.clo fun k hk => Below.heap_alloc w obj k (h.clo.lt k hk).2, own_kept h.ord fun k hk => Below.heap_alloc w obj k (h.ord.lt k hk).2, h.lo, h.ne, h.nc, h.ng⟩
theorem Wk.below (h : Wk w B g gc n E ce C o O co) (hb : Below w.heap.size w w2) : Wk w2 B g gc n E ce C o O co :=
  ⟨h.box.keep (hb.block g h.box.lt), own_kept h.clo fun k hk => hb.block k (h.clo.lt k hk).2, own_kept h.ord fun k hk => hb.block k (h.ord.lt k hk).2, h.lo, h.ne, h.nc, h.ng⟩
theorem Wk.only {C2 : List Int} (h : Wk w B g gc n E ce C o O co) (ho : Only gc w w2) (hc : w2.ownsRow B 4 1 (.slice (some ⟨gc, 0, none⟩) n n) n (bools n C2)) : Wk w2 B g gc n E ce C2 o O co :=
  ⟨h.box.keep (ho.block g h.ne), hc, own_kept h.ord fun k hk => ho.block k fun e => h.nc (by rw [row_own] at hk; rw [hk, e]), h.lo, h.ne, h.nc, h.ng⟩
theorem Wk.push {obj : Obj} {w4 : World} {O4 : Option Addr} {c4 : Nat} {m : Int} (h : Wk w B g gc n E ce C o O co) (hB : B ≤ w.heap.size) (hg4 : (w.alloc obj).grownBy w4 (row O))
    (hown : w4.ownsRow B 3 1 (.slice O4 (o.length + 1) c4) (o.length + 1) (ints o ++ [.int .i64 m])) (hat : row O4 = row O ∨ row O4 = some (w.alloc obj).heap.size) :
    Wk (w4.setCell ⟨g, 2, none⟩ (.slice O4 (o.length + 1) c4)) B g gc n E ce C (o ++ [m]) O4 c4 ∧ Below B w (w4.setCell ⟨g, 2, none⟩ (.slice O4 (o.length + 1) c4)) := by
  have hs : (w.alloc obj).heap.size = w.heap.size + 1 := alloc_size w obj
  have hr : ∀ k, row O = some k → B ≤ k ∧ k < w.heap.size := fun k hk => h.ord.lt k (by rw [row_own]; exact hk)
  have hk4 : ∀ k, k < w.heap.size → row O ≠ some k → w4.heap[k]? = w.heap[k]? := fun k h1 h2 => (hg4.block k (by omega) (Ne.symm h2)).trans (Below.heap_alloc w obj k h1)
  have hk5 : ∀ k, k < w.heap.size → k ≠ g → row O ≠ some k → (w4.setCell ⟨g, 2, none⟩ (.slice O4 (o.length + 1) c4)).heap[k]? = w.heap[k]? := fun k h1 h0 h2 => (heap_setCell_other w4 ⟨g, 2, none⟩ k _ h0).trans (hk4 k h1 h2)
  have hgl := h.box.lt
  have hcl := (h.clo.lt gc rfl).2
  have hlo := h.lo
  have hng : row O4 ≠ some g := by
    rcases hat with e | e
    · rw [e]; exact h.ng
    · rw [e]; intro e2; injection e2 with e2; omega
  have hnc : row O4 ≠ some gc := by
    rcases hat with e | e
    · rw [e]; exact h.nc
    · rw [e]; intro e2; injection e2 with e2; omega
  have hlen : (o ++ [m]).length = o.length + 1 := by simp
  have hbx := (h.box.keep (w' := w4) (hk4 g hgl h.ng)).set 2 (.slice O4 (o.length + 1) c4)
  refine ⟨⟨by rw [hlen]; exact hbx, own_kept h.clo fun k hk => ?_, ?_, h.lo, h.ne, hnc, hng⟩, ⟨hg4.os, hg4.tape, hg4.output, ?_, fun k hk => ?_⟩⟩
  · obtain rfl : gc = k := by simpa [Value.ownBlock] using hk
    exact hk5 gc hcl (Ne.symm h.ne) h.nc
  · rw [hlen, show ints (o ++ [m]) = ints o ++ [.int .i64 m] by simp]
    exact own_kept hown fun k hk => heap_setCell_other w4 ⟨g, 2, none⟩ k _ fun e => hng (by rw [row_own] at hk; rw [hk, e])
  · simp only [World.setCell]
    have := hg4.size
    simp
    omega
  · exact hk5 k (by omega) (by omega) fun e => by have := (hr k e).1; omega
end
set_option maxRecDepth 100000 in
set_option maxHeartbeats 1000000 in
theorem newWalk_any (E : Option Addr) (n ce : Nat) (w : World) (hn : n ≤ 256) :
    Calls Try.prog 25 #[.slice E n ce] w fun e w' => ∃ g gc, e = .returned (.pointer (some ⟨g, 0, none⟩)) ∧ Wk w' w.heap.size g gc n E ce [] [] none 0 ∧ Below w.heap.size w w' := by
  obtain ⟨i0, hi, hz0, hz1, hz2⟩ := info3 (show (Try.prog.info? 4).map (fun i => (i.zero, i.size, i.bytes)) = some (some (.bool false), 1, 1) by kernel_rfl)
  go_enter Try.func25, Try.ntmps25
  go_wp2_with (at_make; refine wpList_make_full _ rfl _ _ 29 rfl w.heap.size 4 i0 _ 1 Try.underlying29 hi hz0 hz1 .i64 .i64 _ _ n rfl rfl rfl rfl (by rw [hz2]; omega) (by simp only [maxLen]; omega) (Nat.le_refl _) ?_; intro w1 hown hg1; rw [bools_nil] at hown; have HO1 := Lib.hid hown; have HB1 := Lib.hid ((Below.refl w.heap.size w).grown hg1 (Nat.le_refl _) (fun k hk => by cases hk)); clear hown hg1)
  go_ret
  have hlt := (HO1.out.lt w.heap.size rfl).2
  refine ⟨w1.heap.size, w.heap.size, rfl, ⟨Bx.new _ _ _, own_kept HO1.out fun k hk => Below.heap_alloc w1 _ k (HO1.out.lt k hk).2, World.ownsRow_nil _ _ _ _, ⟨by omega, Nat.le_refl _⟩, by omega, by simp [row], by simp [row]⟩, HB1.out.trans ((Below.refl _ w1).alloc (by omega) _)⟩
set_option maxRecDepth 100000 in
set_option maxHeartbeats 2000000 in
theorem enter_any (B g gc n : Nat) (E : Option Addr) (ce : Nat) (o : List Int) (O : Option Addr) (co : Nat) (A : Option Addr) (c : Nat) (l : List Int) (w : World) (hw : Wk w B g gc n E ce o o O co) (hB : B ≤ w.heap.size)
    (h : Src w (fun k => k < B) A l.length c (ints l)) (hl : nodesB n l = true) (hf : Full n o) (hn : n ≤ 256) (hn2 : l.length ≤ 4611686018427387904) :
    Calls Try.prog 28 #[.pointer (some ⟨g, 0, none⟩), .slice A l.length c] w fun e w' => e = .returned (.tuple #[]) ∧ (∃ O' co', Wk w' B g gc n E ce (once o l) (once o l) O' co') ∧ Below B w w' := by
  have HW := Lib.hid hw
  have HS := Lib.hid h
  have HL := Lib.hid hl
  have HBS := Lib.hid hB
  have HF := Lib.hid hf
  clear hw h hl hB hf
  obtain ⟨i0, hi0, hz0, hz1, hz2⟩ := info3 (show (Try.prog.info? 3).map (fun i => (i.zero, i.size, i.bytes)) = some (some (.int .i64 0), 1, 8) by kernel_rfl)
  go_enter Try.func28, Try.ntmps28
  go_wp2_with fail
  go_loopw [8] (fun i wr => ∃ (k : Nat) (O' : Option Addr) (co' : Nat), k ≤ l.length ∧ i = .int .i64 (k : Int) ∧ Wk wr B g gc n E ce (once o (l.take k)) (once o (l.take k)) O' co' ∧ Full n (once o (l.take k)) ∧ Below B w wr) (fun i _ => l.length - (intOf i).toNat)
  case atStart => exact ⟨0, O, co, Nat.zero_le _, rfl, by simpa [once] using HW.out, by simpa [once] using HF.out, Below.refl _ _⟩
  case round =>
    obtain ⟨k, O', co', hk, rfl, hwk, hfu, hB⟩ := hrel
    have HB := Lib.hid hB
    have HK := Lib.hid hwk
    have HFU := Lib.hid hfu
    clear hB hwk hfu
    by_cases hlt : k < l.length
    · cases A with
      | none => have := (HS.out.nil rfl).1; omega
      | some ad =>
        have hc := (HS.out.keep (fun j hj _ => HB.out.block j hj)).at_ ad rfl k _ (ints_get l k hlt)
        obtain ⟨m, hm, hmn⟩ := node_nat (nodes_mem HL.out (List.getElem_mem hlt))
        have HT := Lib.hid (show once o (l.take (k + 1)) = _ by rw [List.take_succ_eq_append_getElem hlt, once_snoc, hm])
        rw [hm] at hc
        generalize once o (l.take k) = p at *
        have k1 : wr.cell? ⟨g, 1, none⟩ = some (.slice (some ⟨gc, 0, none⟩) n n) := HK.out.box.c 1
        obtain ⟨cur, hbc, hsz, hcu⟩ := own_bx HK.out.clo
        have k2 : wr.cell? ⟨gc, m, none⟩ = some (.bool (decide ((m : Int) ∈ p))) := (hbc.c m).trans (by
          have := bools_get n p m hmn
          rw [← hcu, List.getElem?_take_of_lt (by omega), Array.getElem?_toList] at this
          exact this)
        clear hm hsz hbc hcu
        by_cases hp : (m : Int) ∈ p
        · rw [decide_eq_true hp] at k2
          rw [if_pos hp] at HT
          go_wp2_with fail
          go_roundw
          case rel => exact ⟨k + 1, O', co', by omega, by go_num, by rw [HT.out]; exact HK.out, by rw [HT.out]; exact HFU.out, HB.out⟩
          case measure => simp [intOf]; omega
        · rw [decide_eq_false hp] at k2
          rw [if_neg hp] at HT
          have HW1 := Lib.hid (HK.out.alloc (.cells #[.int .i64 (m : Int)] 3))
          have HCL := Lib.hid (close_any B g gc n E O' (some ⟨wr.heap.size, 0, none⟩) n ce p.length co' 1 p [(m : Int)] _ HW1.out.box HW1.out.ne HW1.out.clo (src_lit wr [.int .i64 (m : Int)] 3 _ (by have := (HK.out.clo.lt gc rfl).2; omega)) (by simp [nodesB, isNode]; omega) (by simp))
          have HFU2 := Lib.hid (HFU.out.snoc hp (decide_eq_true (by omega)))
          have HBA := Lib.hid ((Below.refl B wr).alloc (Nat.le_trans HBS.out HB.out.size) (.cells #[.int .i64 (m : Int)] 3))
          have hB2 : B ≤ wr.heap.size := Nat.le_trans HBS.out HB.out.size
          have hpl := HFU2.out.le
          rw [List.length_append] at hpl
          simp only [List.length_cons, List.length_nil] at hpl
          go_wp2_with fail
          refine HCL.out.mono ?_
          rintro e w2 ⟨rfl, hclo, honly⟩
          have HW2 := Lib.hid (HW1.out.only honly hclo)
          have HBB := Lib.hid ((HB.out.trans HBA.out).trans (honly.below HW1.out.lo.2))
          have hB3 : B ≤ w2.heap.size := Nat.le_trans HBS.out HBB.out.size
          have q2 : w2.cell? ⟨g, 2, none⟩ = some (.slice O' p.length co') := HW2.out.box.c 2
          have HOA := Lib.hid (HW2.out.ord.alloc (.cells #[.int .i64 (m : Int)] 3))
          have HSL := Lib.hid (src_lit w2 [.int .i64 (m : Int)] 3 (fun _ => True) trivial)
          have HPU := Lib.hid (fun (w4 : World) (O4 : Option Addr) (c4 : Nat) => Wk.push (obj := .cells #[.int .i64 (m : Int)] 3) (w4 := w4) (O4 := O4) (c4 := c4) (m := (m : Int)) HW2.out hB3)
          have HKG := Lib.hid (fun (w4 : World) (h4 : (w2.alloc (.cells #[.int .i64 (m : Int)] 3)).grownBy w4 (row O')) => HW2.out.box.keep (w' := w4) ((h4.block g (by rw [alloc_size]; have := HW2.out.box.lt; omega) (Ne.symm HW2.out.ng)).trans (Below.heap_alloc w2 _ g HW2.out.box.lt)))
          clear hclo honly HCL HW1 HBA
          go_wp2_with (at_builtin; refine wpList_append_src rfl (.tmp 28) (.tmp 30) 23 rfl B 3 i0 (.int .i64 0) 8 Try.underlying23 hi0 hz0 hz1 hz2 rfl (.slice O' p.length co') p.length (ints p) rfl HOA.out (fun _ => True) _ 1 1 [.int .i64 (m : Int)] rfl HSL.out (by intro u hu; simp at hu; subst hu; rfl) (by simp only [maxLen]; omega) (by omega) (by rw [alloc_size]; omega) ?_; intro v' w4 hown hg hat; obtain ⟨A', c', rfl⟩ := own_slice hown; rw [row_own] at hg hat; rw [row_own] at hat; have HFIN := Lib.hid (HPU.out w4 A' c' hg hown hat); have q4 : w4.cell? ⟨g, 2, none⟩ = some (.slice O' p.length co') := (HKG.out w4 hg).c 2; have q5 : w4.frozen? ⟨g, 2, none⟩ = false := (HKG.out w4 hg).f 2; clear hown hg hat)
          go_roundw
          case rel => exact ⟨k + 1, A', c', by omega, by go_num, by rw [HT.out]; exact HFIN.out.1, by rw [HT.out]; exact HFU2.out, HBB.out.trans HFIN.out.2⟩
          case measure => simp [intOf]; omega
    · obtain rfl : k = l.length := by omega
      have hy := HK.out
      rw [List.take_length] at hy
      go_wp2_with fail
      first | go_ret | go_end0
      exact ⟨rfl, ⟨_, _, hy⟩, HB.out⟩
end Go.Proofs.Ytkaejcpnlphdpaa
