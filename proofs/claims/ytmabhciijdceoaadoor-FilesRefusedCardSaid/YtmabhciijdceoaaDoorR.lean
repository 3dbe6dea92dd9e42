/-
  The names in a directory.
-/
import Derived.Test.YtmabhciijdceoaaDoorK
import Derived.Test.YtmabhciijdceoaaDoorSh2
import Derived.Maps.RangeWalk
import Derived.Sort.KeysCollected
import Derived.Sort.OwnSorted
namespace Go.Proofs.YtmabhciijdceoaaDoor
open Go.RowKit Go.Maps Go.Sort

def inDir (dir k : Str) : Bool := k != rootS && above k == dir
def namesIn (D : Dt) (dir : Str) : List Str := (((strKeys D).filter (inDir dir)).map lastOf).mergeSort leB
/-- Every place in use has a name, and none is longer than a way can be. -/
def Good (D : Dt) : Prop := ∀ k : Str, has D (.string k) = true → 1 ≤ k.length ∧ k.length ≤ 1000000
theorem inDir_snoc (dir : Str) (ss : List Str) (x : Str) : ((ss ++ [x]).filter (inDir dir)).map lastOf = (ss.filter (inDir dir)).map lastOf ++ (if inDir dir x then [lastOf x] else []) := by
  rw [List.filter_append, List.map_append]
  cases h : inDir dir x <;> simp [h]
theorem strs_enc (l : List Str) : strs l = l.map encStr := rfl

set_option maxRecDepth 100000 in
set_option maxHeartbeats 2000000 in
theorem namesIn_any (sb mb : Nat) (s : St) (dir : Str) (w : World) (h : Sto w sb mb s) (hg : Good s.d) :
    Calls Tryd.prog 40 #[.pointer (some ⟨sb, 0, none⟩), str dir] w fun e w' => ∃ A c, e = .returned (.slice A (namesIn s.d dir).length c) ∧ w'.ownsRow w.heap.size 9 1 (.slice A (namesIn s.d dir).length c) (namesIn s.d dir).length (strs (namesIn s.d dir)) ∧ Below w.heap.size w w' := by
  obtain ⟨i0, hi, hz0, hz1, hz2⟩ := info_parts Tryd.info_string
  have HOWN := Lib.hid h.own
  have HG := Lib.hid hg
  have hbl := h.lt.2
  have hc0 := h.c0
  have HSZ := Lib.hid h.size
  have HD := Lib.hid (show namesIn s.d dir = (((strKeys s.d).filter (inDir dir)).map lastOf).mergeSort leB from rfl)
  generalize namesIn s.d dir = nm at *
  obtain ⟨D, puts⟩ := s
  simp only at *
  clear h hg
  go_enter Tryd.func40, Tryd.ntmps40
  go_wp2_with (at_range; refine wpList_range_own _ rfl _ 62 rfl 9 59 keyLaw Tryd.underlying62 _ mb _ _ rfl HOWN.out ?_; intro w0 hrg0 hg0 hs0; have HRG0 := Lib.hid hrg0; have HG0 := Lib.hid hg0; have HS0 := Lib.hid hs0; clear hrg0 hg0 hs0)
  go_frame
  go_loopw [5] (fun v wr => ∃ (left : Lit → Bool) (cnt : Nat) (ss : List Str) (A : Option Addr) (c : Nat), wr.ranges Tryd.prog 9 thElem mb w.heap.size (Maps.size D) D left cnt ∧ ss.length + cnt ≤ Maps.size D ∧
      v = .slice A ((ss.filter (inDir dir)).map lastOf).length c ∧ wr.ownsRow (w.heap.size + 1) 9 1 (.slice A ((ss.filter (inDir dir)).map lastOf).length c) ((ss.filter (inDir dir)).map lastOf).length (strs ((ss.filter (inDir dir)).map lastOf)) ∧ Collected D left ss ∧ Below w.heap.size w wr ∧ w.heap.size + 1 ≤ wr.heap.size)
    (fun _ wr => wr.rangeLeft mb w.heap.size)
  case atStart => exact ⟨_, _, [], none, 0, HRG0.out, by simp, rfl, World.ownsRow_nil _ _ _ _, Collected.start D, (Below.refl _ _).grown HG0.out (Nat.le_refl _) (fun j hj => by cases hj), by rw [HS0.out]; exact Nat.le_refl _⟩
  case round =>
    obtain ⟨left, cnt, ss, A, c, hrg, hcs, rfl, hrow, hC, hnx, hge⟩ := hrel
    have HRG := Lib.hid hrg
    have HROW := Lib.hid hrow
    have HC := Lib.hid hC
    have HNX := Lib.hid hnx
    have HCS := Lib.hid hcs
    have HGE := Lib.hid hge
    have hLl : ((ss.filter (inDir dir)).map lastOf).length ≤ 501 := by
      have h1 : (ss.filter (inDir dir)).length ≤ ss.length := List.length_filter_le _ _
      have := HCS.out
      have := HSZ.out
      rw [List.length_map]
      omega
    generalize hLL : (ss.filter (inDir dir)).map lastOf = L at *
    have HLL := Lib.hid hLL
    clear hrg hrow hC hnx hcs hge hLL
    go_wp2_with (at_next; refine wpList_next_ranges _ rfl _ rfl 9 keyLaw thElem encStr thv (fun key kl hk => by obtain ⟨x, hx, _⟩ := Maps.keyOf_str Tryd.underlying9 hk; exact ⟨x, hx⟩) (fun v y hv => by obtain ⟨t, rfl, _⟩ := thElem_inv hv; exact ⟨t, rfl⟩) mb w.heap.size (Maps.size D) D left cnt rfl HRG.out ?_ ?_)
    · intro hc0' hl0
      have hperm := HC.out.perm HOWN.out keyLaw Tryd.underlying9 hl0
      have hnm : nm = ((ss.filter (inDir dir)).map lastOf).mergeSort leB := by
        rw [HD.out]
        exact mergeSort_of_perm (((hperm.filter _).map _).symm)
      rw [HLL.out] at hnm
      have hnl : nm.length = L.length := by rw [hnm, List.length_mergeSort]
      have HNM := Lib.hid hnm
      have HNL := Lib.hid hnl
      clear hperm hnm hnl hl0 hc0'
      rcases HROW.out.2 with ⟨hnil, hz⟩ | ⟨g, cap, cur, hv, hbase, hb, h1, h2, h3, h4⟩
      · injection hnil with e1 e2 e3
        subst e1
        subst e3
        have hL : L = [] := List.eq_nil_of_length_eq_zero hz
        subst hL
        have hn0 : nm = [] := by rw [HNM.out, List.mergeSort_nil]
        have HS := Lib.hid (Tryd.slices_Sort_string_none none 0 wr)
        subst hn0
        clear hz e2
        go_wp2_with (go_at_call 53; refine HS.out.mono ?_; rintro e w' ⟨rfl, rfl⟩)
        go_ret
        exact ⟨none, 0, rfl, World.ownsRow_nil _ _ _ _, HNX.out⟩
      · injection hv with e1 e2 e3
        subst e1
        subst e3
        have hH : Holds encStr wr g 0 L.toArray := holds_of_block hb (by have h5 := h4; simp only [Nat.mul_one] at h5; exact h5)
        have hgl : g < wr.heap.size := (Array.getElem?_eq_some_iff.1 hb).1
        have HS := Lib.hid (Tryd.slices_Sort_string g 0 c L wr hH hgl (by omega))
        have HSRT := Lib.hid (fun (n : Nat) (os : Array Obj) => ownsRow_sorted (n := n) (os := os) (ss := L) (ts := L.mergeSort leB) (by simp) hbase hb h1 h2 h3)
        have HBA := Lib.hid hbase
        clear hH hb h1 h2 h3 h4
        go_wp2_with (go_at_call 53; refine HS.out.mono ?_; rintro e w' ⟨rfl, nn, os, rfl⟩)
        go_ret
        refine ⟨some ⟨g, 0, none⟩, c, by rw [HNL.out]; rfl, ?_, HNX.out.grown (grownBy_sorted _) HNX.out.size (fun j hj => by cases hj; have := HBA.out; omega)⟩
        rw [HNL.out, HNM.out]
        exact own_more (HSRT.out nn os) (by omega)
    · intro x t kl yd yp w2 cnt2 hkey hlk hv hat hrg2 hlt hg2 hs2 hen
      obtain ⟨x', ex, rfl, _⟩ := Maps.keyOf_str Tryd.underlying9 hkey
      obtain rfl : x = x' := encStr_inj ex
      have hrow2 := HROW.out.kept hg2 (Or.inr (row_ne_iter HROW.out HRG.out).symm)
      have hgood := HG.out x (has_true_of_atKey hat)
      have hsn := inDir_snoc dir ss x
      rw [HLL.out] at hsn
      have HR2 := Lib.hid hrow2
      have HRG2 := Lib.hid hrg2
      have HG2 := Lib.hid hg2
      have HST := Lib.hid (HC.out.step hlk hat)
      have HSN := Lib.hid hsn
      have HLT := Lib.hid hlt
      have HBX := Lib.hid (HNX.out.grown hg2 HNX.out.size (fun j hj => by cases hj; exact Nat.le_refl _))
      have HS2 := Lib.hid (show w.heap.size + 1 ≤ w2.heap.size from Nat.le_trans HGE.out hg2.size)
      have HAB := Lib.hid (fun w => above_any x w (by omega) hgood.1)
      have HLA := Lib.hid (fun w => lastOf_any x w (by omega))
      have HCN := Lib.hid (show (ss ++ [x]).length + cnt2 ≤ Maps.size D by have := HCS.out; simp; omega)
      clear hkey hlk hv hat hrg2 hlt hg2 hs2 ex hrow2 hgood hsn
      change (Instr.entry (.pointer (some ⟨w.heap.size, 0, none⟩))).run Tryd.prog w2 = .ok (.tuple #[str x, thv t]) w2 at hen
      rw [show encStr x = str x from rfl]
      have hno : inDir dir x = false → ((ss ++ [x]).filter (inDir dir)).map lastOf = L := fun h => by rw [HSN.out, h]; simp
      have HNO := Lib.hid hno
      clear hno
      by_cases hr : x = rootS
      · have hx : (x == [47]) = true := by simpa using hr
        have hin : inDir dir x = false := by simp [inDir, hr]
        clear hr
        go_wp2
        go_roundw
        case rel => exact ⟨_, cnt2, ss ++ [x], A, c, HRG2.out, HCN.out, by rw [HNO.out hin], by rw [HNO.out hin]; exact HR2.out, HST.out, HBX.out, HS2.out⟩
        case measure => rw [HRG2.out.left_eq, HRG.out.left_eq]; exact HLT.out
      · have hx : (x == [47]) = false := by simpa using hr
        by_cases hd : above x = dir
        · have hd' : (above x == dir) = true := by simpa using hd
          have hin : inDir dir x = true := by simp [inDir, hr, hd]
          have HSN := Lib.hid (show ((ss ++ [x]).filter (inDir dir)).map lastOf = L ++ [lastOf x] by rw [HSN.out, hin]; rfl)
          generalize lastOf x = q at *
          have HRA := Lib.hid (HR2.out.alloc (.cells #[str q] 9))
          have HCE := Lib.hid (cell_one_new w2 (str q) 9)
          have HSZA := Lib.hid (show (w2.alloc (.cells #[str q] 9)).heap.size = w2.heap.size + 1 by simp)
          clear hr hd hin
          go_wp2_with (first
            | (go_at_call 29; refine (HAB.out _).mono ?_; rintro e w3 ⟨rfl, rfl⟩)
            | (go_at_call 52; refine (HLA.out _).mono ?_; rintro e w3 ⟨rfl, rfl⟩)
            | (at_builtin; refine wpList_append_src rfl (.tmp 24) (.tmp 27) 41 rfl (w.heap.size + 1) 9 i0 (.string ⟨#[]⟩) 16 Tryd.underlying41 hi hz0 hz1 hz2 rfl (.slice A L.length c) L.length (strs L) rfl HRA.out (fun _ => True) _ 1 1 [str q] rfl ⟨rfl, (by intro h; cases h), Nat.le_refl _, (by intro _ _ _; trivial), (by intro ad h; cases h; exact HCE.out)⟩ (by intro u hu; simp at hu; subst hu; rfl) (by simp only [maxLen]; omega) (by omega) (by have := HSZA.out; have := HS2.out; omega) ?_; intro v' w3 hown hg hat; obtain ⟨A', c', rfl⟩ := own_slice hown; have HO3 := Lib.hid hown; have HG3 := Lib.hid hg; clear hown hg hat))
          have hrg3 := (HRG2.out.alloc (.cells #[str q] 9)).kept HG3.out (row_ne_low HRA.out (by omega)) (row_ne_iter HRA.out (HRG2.out.alloc (.cells #[str q] 9)))
          have HRG3 := Lib.hid hrg3
          clear hrg3
          go_roundw
          case rel =>
            refine ⟨_, cnt2, ss ++ [x], A', c', HRG3.out, HCN.out, by rw [HSN.out]; simp, ?_, HST.out, (HBX.out.alloc HBX.out.size (.cells #[str q] 9)).grown HG3.out (by have := HSZA.out; have := HS2.out; omega) (fun j hj => by have := (HRA.out.lt j hj).1; omega), by have := HG3.out.size; have := HSZA.out; have := HS2.out; omega⟩
            rw [HSN.out]
            simpa [strs] using HO3.out
          case measure => rw [HRG3.out.left_eq, HRG.out.left_eq]; exact HLT.out
        · have hd' : (above x == dir) = false := by simpa using hd
          have hin : inDir dir x = false := by simp [inDir, hd]
          clear hr hd
          go_wp2_with (first
            | (go_at_call 29; refine (HAB.out _).mono ?_; rintro e w3 ⟨rfl, rfl⟩))
          go_roundw
          case rel => exact ⟨_, cnt2, ss ++ [x], A, c, HRG2.out, HCN.out, by rw [HNO.out hin], by rw [HNO.out hin]; exact HR2.out, HST.out, HBX.out, HS2.out⟩
          case measure => rw [HRG2.out.left_eq, HRG.out.left_eq]; exact HLT.out
end Go.Proofs.YtmabhciijdceoaaDoor
