/-
  The document's model: a range's bytes anew.
  The document's model: another permission; a region gone.
-/
import Derived.Test.YtfkhfjefddgkoaaDoorZSDf
import Derived.StillTailTactics
namespace Go.Proofs.YtfkhfjefddgkoaaDoor
open Go.RowKit

theorem splice_step {bs ms : Str} {f i : Nat} (hf : f + ms.length ≤ bs.length) (hi : i < ms.length) : (splice bs f (ms.take i)).set (f + i) ms[i] = splice bs f (ms.take (i + 1)) := by
  have h1 : (bs.take f).length = f := by rw [List.length_take]; omega
  have h2 : (ms.take i).length = i := by rw [List.length_take]; omega
  unfold splice
  rw [List.set_append_right _ _ (by rw [h1]; omega), h1, show f + i - f = i by omega, List.set_append_right _ _ (by rw [h2]; exact Nat.le_refl _), h2, Nat.sub_self, List.drop_eq_getElem_cons (show f + i < bs.length by omega), List.set_cons_zero, List.take_succ_eq_append_getElem hi, List.length_append, h2, List.length_singleton]
  simp only [List.append_assoc]
  rfl
theorem splice_nil (bs : Str) (f : Nat) : splice bs f [] = bs := by
  unfold splice
  simp
theorem splice_len {bs ms : Str} {f : Nat} (hf : f + ms.length ≤ bs.length) : (splice bs f ms).length = bs.length := by
  unfold splice
  simp only [List.length_append, List.length_take, List.length_drop]
  omega
theorem splice_write {bs ms : Str} {f : Nat} (hf : f + ms.length ≤ bs.length) : splice bs f ms = writeM bs f ms := by
  have := writeM_pad bs f ms
  rwa [show f + ms.length - bs.length = 0 by omega, show zeros 0 = [] from rfl, List.append_nil] at this
abbrev withB (r : Raw) (bs : Str) : Raw := ⟨⟨r.b.at_, r.b.size, r.b.perm, bs⟩, r.A, r.c⟩
/-- One byte of one part's bytes anew. -/
theorem own_byte {w : World} {B q n c : Nat} {xs : Str} (h : w.ownsRow B 5 1 (.slice (some ⟨q, 0, none⟩) n c) n (cells xs)) {j : Nat} (hj : j < n) (b : UInt8) :
    w.frozen? ⟨q, j, none⟩ = false ∧ (∃ v, w.cell? ⟨q, j, none⟩ = some v) ∧ (w.setCell ⟨q, j, none⟩ (.int .u8 (b.toNat : Int))).ownsRow B 5 1 (.slice (some ⟨q, 0, none⟩) n c) n (cells (xs.set j b)) := by
  have hlen := h.1
  rcases h.2 with ⟨hv, _⟩ | ⟨g0, cap, cur, hv, hbg, hx, hnc, hcm, hcs, ht⟩
  · cases hv
  · injection hv with h1 _ h3
    injection h1 with h1
    injection h1 with h1 _
    subst h1 h3
    have hjc : j < cur.size := by omega
    refine ⟨Bx.f (t := 5) hx _, ⟨_, (Bx.c (t := 5) hx _).trans (Array.getElem?_eq_getElem hjc)⟩, by rw [cells_len, List.length_set]; rw [cells_len] at hlen; exact hlen, .inr ⟨q, c, cur.setIfInBounds j (.int .u8 (b.toNat : Int)), rfl, hbg, ?_, hnc, hcm, by simpa using hcs, ?_⟩⟩
    · show (World.setCell _ _ _).heap[q]? = _
      rw [setCell_eq_setRow w q j cur 5 _ _ hx]
      exact setRow_heap w q _ _ 5 _ hx
    · rw [Array.toList_setIfInBounds, Nat.mul_one, List.take_set]
      rw [Nat.mul_one] at ht
      rw [ht]
      unfold cells
      rw [List.map_set]
theorem own_drew {w : World} {B : Nat} {e : TypeId} {z : Nat} {v : Value} {n : Nat} {xs : List Value} (h : w.ownsRow B e z v n xs) : w.drew.ownsRow B e z v n xs := own_beside h (p := fun _ => False) ⟨rfl, rfl, rfl, Nat.le_refl _, fun _ _ _ => rfl⟩ fun _ _ e => e
theorem withB_same (r : Raw) : withB r r.b.bytes = r := rfl
/-- The whole, with one part's bytes anew in the row that they lie in. -/
theorem Dp.bytes_ {w w' : World} {B g c k : Nat} {A : Option Addr} {rs : List Raw} (h : Dp w B g A c rs) (hk : k < rs.length) {bs : Str} (hl : bs.length = rs[k].b.bytes.length) (ho : w'.ownsRow B 5 1 (.slice rs[k].A bs.length rs[k].c) bs.length (cells bs)) (hb : Beside w w' (fun q => some q = row rs[k].A)) :
    w'.cell? ⟨g, 0, none⟩ = some (.slice A rs.length c) ∧ Dp w' B g A c (rs.set k (withB rs[k] bs)) := by
  have hmem := List.getElem_mem hk
  have hbox := h.box.beside hb fun e => (h.apart _ hmem g e.symm).1 rfl
  have hat : ∀ (r : Raw), r ∈ rs.set k (withB rs[k] bs) → r = withB rs[k] bs ∨ ∃ j, ∃ hj : j < rs.length, j ≠ k ∧ r = rs[j] := by
    intro r hr
    obtain ⟨j, hj, rfl⟩ := List.getElem_of_mem hr
    rw [List.length_set] at hj
    rw [List.getElem_set]
    by_cases e : k = j
    · exact .inl (by rw [if_pos e])
    · exact .inr ⟨j, hj, fun e' => e e'.symm, by rw [if_neg e]⟩
  have hall : ∀ j (hj : j < rs.length), j ≠ k → ∀ q, row rs[j].A = some q → some q ≠ row rs[k].A := by
    intro j hj hne q hq e
    have hp := List.pairwise_iff_getElem.1 h.pair
    rcases Nat.lt_or_gt_of_ne hne with hl | hl
    · exact hp j k hj hk hl q hq e.symm
    · exact hp k j hk hj hl q e.symm hq
  have hrc : rcells (rs.set k (withB rs[k] bs)) = rcells rs := by
    have h2 : (rawC rs[k]).set 3 (.slice rs[k].A bs.length rs[k].c) = rawC (withB rs[k] bs) := rfl
    rw [← rcells_set rs k hk (withB rs[k] bs) 3 _ h2 (by omega)]
    apply List.ext_getElem?
    intro i
    rw [List.getElem?_set]
    split
    · rename_i e
      subst e
      have h3 := rcells_at rs k hk 3 (by omega)
      rw [if_pos (by rw [rcells_len]; omega), h3]
      show _ = some (Value.slice rs[k].A rs[k].b.bytes.length rs[k].c)
      rw [hl]
    · rfl
  refine ⟨hbox.c 0, h.hg, by rw [List.length_set]; exact hbox, ?_, ?_, ?_, h.ne, ?_, pair_set h.pair fun j hj hne q hq e => hall j hj hne q e hq.symm⟩
  · rw [hrc, List.length_set]
    exact own_beside h.own hb fun q hq e => by
      rw [row_own] at hq
      exact (h.apart _ hmem q e.symm).2 hq.symm
  · intro r hr
    rcases hat r hr with rfl | ⟨j, hj, hne, rfl⟩
    · exact ho
    · exact own_beside (h.bytes _ (List.getElem_mem hj)) hb fun q hq e => by
        rw [row_own] at hq
        exact hall j hj hne q hq e
  · intro r hr
    rcases hat r hr with rfl | ⟨j, hj, hne, rfl⟩
    · show ((bs.length : Nat) : Int) = rs[k].b.size
      rw [hl]
      exact h.full _ hmem
    · exact h.full _ (List.getElem_mem hj)
  · intro r hr
    rcases hat r hr with rfl | ⟨j, hj, hne, rfl⟩
    · exact fun q hq => h.apart rs[k] hmem q hq
    · exact h.apart _ (List.getElem_mem hj)
/-- Behind a Set: the range's bytes are these, or an error. -/
def SetD (w : World) (B g : Nat) (A : Option Addr) (c : Nat) (rs : List Raw) (a : Int) (ms : Str) (need : Int) (e : Ending) (w' : World) : Prop :=
  (goesS (segs rs) a ms.length need ≠ 0 ∧ e = .returned (.int .i64 (goesS (segs rs) a ms.length need)) ∧ Below w.heap.size w w') ∨
  (goesS (segs rs) a ms.length need = 0 ∧ e = .returned (.int .i64 0) ∧ ∃ rs', Dp w' B g A c rs' ∧ segs rs' = putS (segs rs) a ms ∧ (∀ k, Foot g A rs' k ↔ Foot g A rs k) ∧ Beside w w' (Foot g A rs))
theorem put_dis {rs : List Raw} (hd : Dis rs) {k : Nat} (hk : k < rs.length) {a : Int} {ms : Str} (hm : 1 ≤ ms.length) (h1 : rs[k].b.at_ ≤ a) (h2 : a + ms.length ≤ rs[k].b.at_ + rs[k].b.size) :
    segs (rs.set k (withB rs[k] (writeM rs[k].b.bytes (a - rs[k].b.at_).toNat ms))) = putS (segs rs) a ms := by
  refine set_segs hk _ _ ?_ fun j hj hne => ?_
  · show (if inS a ms.length (seg rs[k].b) = true then _ else _) = _
    rw [if_pos (by unfold inS; simpa using ⟨h1, h2⟩)]
    show Seg.mk _ _ _ _ = Seg.mk _ _ _ _
    rw [writeM_f]
    rfl
  · show (if inS a ms.length (seg rs[j].b) = true then _ else _) = _
    rw [if_neg]
    unfold inS
    simp only [decide_eq_true_eq]
    rintro ⟨h3, h4⟩
    have h3' : rs[j].b.at_ ≤ a := h3
    have h4' : a + ms.length ≤ rs[j].b.at_ + rs[j].b.size := h4
    exact hne (dis_one hd (a := a) hj hk ⟨h3', by omega⟩ ⟨h1, by omega⟩)
theorem foot_set {g : Nat} {A : Option Addr} {rs : List Raw} {k : Nat} (hk : k < rs.length) {r : Raw} (hr : r.A = rs[k].A) (q : Nat) : Foot g A (rs.set k r) q ↔ Foot g A rs q := by
  constructor
  · rintro (h | h | ⟨x, hx, e⟩)
    · exact .inl h
    · exact .inr (.inl h)
    · obtain ⟨j, hj, rfl⟩ := List.getElem_of_mem hx
      rw [List.length_set] at hj
      rw [List.getElem_set] at e
      split at e
      · exact .inr (.inr ⟨_, List.getElem_mem hk, hr ▸ e⟩)
      · exact .inr (.inr ⟨_, List.getElem_mem hj, e⟩)
  · rintro (h | h | ⟨x, hx, e⟩)
    · exact .inl h
    · exact .inr (.inl h)
    · obtain ⟨j, hj, rfl⟩ := List.getElem_of_mem hx
      by_cases ejk : k = j
      · subst ejk
        exact .inr (.inr ⟨r, List.mem_set hk r, by rw [hr]; exact e⟩)
      · refine .inr (.inr ⟨rs[j], ?_, e⟩)
        have h2 : (rs.set k r)[j]'(by rw [List.length_set]; exact hj) = rs[j] := by rw [List.getElem_set, if_neg ejk]
        rw [← h2]
        exact List.getElem_mem _
set_option maxRecDepth 100000 in
set_option maxHeartbeats 1000000 in
theorem rSet_any (B g : Nat) (A : Option Addr) (c : Nat) (rs : List Raw) (a p : Int) (P : Nat → Prop) (SA : Option Addr) (m sc : Nat) (ms : Str) (ha : I64 a) (hp : p = 0 ∨ p = 1 ∨ p = 2 ∨ p = 4) (hd : Dis rs) (w : World) (h : Seen w g A c rs) (hdp : Dp w B g A c rs)
    (hs : Src w P SA m sc (cells ms)) (hP : ∀ q, P q → ¬ Foot g A rs q ∧ q < w.heap.size) :
    Calls Tryd.prog 22 #[.pointer (some ⟨g, 0, none⟩), .int .i64 a, .slice SA m sc, .int .i64 p] w (SetD w B g A c rs a ms p) := by
  have hml : ms.length = m := by have := hs.len; rwa [cells_len] at this
  have H := Lib.hid h
  have HDP := Lib.hid hdp
  have HU := Lib.hid (ruse_any g A c rs a m p ha hp hd w h)
  have HD := Lib.hid hd
  have HSR := Lib.hid hs
  have HP := Lib.hid hP
  have HN : Hid (∀ E w', Below w.heap.size w w' → E = goesS (segs rs) a m p → E ≠ 0 → SetD w B g A c rs a ms p (.returned (.int .i64 E)) w') := Lib.hid fun E w' hb he h0 => by
    subst he
    exact .inl ⟨by rw [hml]; exact h0, by rw [hml], hb⟩
  have HY : Hid (∀ rs' w', goesS (segs rs) a m p = 0 → Dp w' B g A c rs' → segs rs' = putS (segs rs) a ms → (∀ k, Foot g A rs' k ↔ Foot g A rs k) → Beside w w' (Foot g A rs) → SetD w B g A c rs a ms p (.returned (.int .i64 0)) w') := Lib.hid fun rs' w' h0 h1 h2 h3 h4 => .inr ⟨by rw [hml]; exact h0, rfl, rs', h1, h2, h3, h4⟩
  generalize SetD w B g A c rs a ms p = L at *
  have HML := Lib.hid hml
  clear h hdp hd hs hP hp ha hml
  go_enter Tryd.func22, Tryd.ntmps22
  go_wp2_with fail
  refine HU.out.mono ?_
  rintro e w1 ⟨k, E, rfl, hr, hb1⟩
  have HR := Lib.hid hr
  have HB := Lib.hid hb1
  clear hr hb1 HU
  by_cases hE : E = 0
  · obtain ⟨hkr, h1, h2⟩ := HR.out.here hE
    have h0 : goesS (segs rs) a m p = 0 := HR.out.goes.symm.trans hE
    have hn := goes_len h0
    have hmem := List.getElem_mem hkr
    have hfu := HDP.out.full rs[k] hmem
    have hD1 := HDP.out.beside (Beside.of_below HB.out (fun _ => False)) fun _ _ e => e
    have hml := HML.out
    obtain ⟨f, hf⟩ : ∃ f : Nat, (a - rs[k].b.at_).toNat = f := ⟨_, rfl⟩
    have hft := H.out.fit rs[k] hmem
    obtain ⟨q, hq⟩ : ∃ q, rs[k].A = some ⟨q, 0, none⟩ := by
      rcases plainA (hD1.bytes _ hmem) with e | ⟨q, e⟩
      · exfalso
        have h3 := hD1.bytes _ hmem
        rw [e] at h3
        rcases h3.2 with ⟨_, h4⟩ | ⟨_, _, _, hv, _⟩
        · omega
        · cases hv
      · exact ⟨q, e⟩
    have HFIN := Lib.hid (show ∀ w', w'.ownsRow B 5 1 (.slice rs[k].A rs[k].b.bytes.length rs[k].c) rs[k].b.bytes.length (cells (splice rs[k].b.bytes f ms)) → Beside w1 w' (fun x => some x = row rs[k].A) → L (.returned (.int .i64 0)) w' from fun w' ho hbe => by
      have hsl := splice_len (bs := rs[k].b.bytes) (ms := ms) (f := f) (by omega)
      have ho' : w'.ownsRow B 5 1 (.slice rs[k].A (splice rs[k].b.bytes f ms).length rs[k].c) (splice rs[k].b.bytes f ms).length (cells (splice rs[k].b.bytes f ms)) := by rw [hsl]; exact ho
      have hdd := (hD1.bytes_ hkr hsl ho' hbe).2
      refine HY.out _ w' h0 hdd ?_ (foot_set hkr rfl) ((Beside.of_below HB.out _).then hbe fun x _ e => .inr (.inr ⟨_, hmem, e⟩))
      rw [splice_write (by omega), ← hf]
      exact put_dis HD.out hkr (by omega) h1 (by rw [hml]; exact h2))
    have HCELL := Lib.hid (show ∀ w', Beside w1 w' (fun x => some x = row rs[k].A) → Seen w' g A c rs from fun w' hbe => by
      have hbox := hD1.box.beside hbe fun e => (hD1.apart _ hmem g e.symm).1 rfl
      have hrow := own_beside hD1.own hbe fun x hx e => by
        rw [row_own] at hx
        exact (hD1.apart _ hmem x e.symm).2 hx.symm
      exact ⟨hbox.c 0, Bls.of_part hrow, H.out.fit, H.out.few⟩)
    have HSRC := Lib.hid (show ∀ w', Beside w1 w' (fun x => some x = row rs[k].A) → Src w' P SA m sc (cells ms) from fun w' hbe => (HSR.out.below HB.out fun x hx => (HP.out x hx).2).beside hbe fun x hx e => (HP.out x hx).1 (.inr (.inr ⟨_, hmem, e⟩)))
    have HO := Lib.hid (hD1.bytes _ hmem)
    subst hE
    clear HN HY HDP HSR HP hD1 HR
    go_wp2_with fail
    go_loopw [11] (fun t11 wr => ∃ i : Nat, i ≤ m ∧ t11 = .int .i64 i ∧ wr.ownsRow B 5 1 (.slice rs[k].A rs[k].b.bytes.length rs[k].c) rs[k].b.bytes.length (cells (splice rs[k].b.bytes f (ms.take i))) ∧ Beside w1 wr (fun x => some x = row rs[k].A)) (fun t11 _ => m - (intOf t11).toNat)
    case atStart => exact ⟨0, Nat.zero_le _, rfl, by rw [List.take_zero, splice_nil]; exact HO.out, Beside.refl _ _⟩
    case round =>
      obtain ⟨i, hi, rfl, ho, hbe⟩ := hrel
      by_cases hlt : i < m
      · obtain ⟨ad, rfl⟩ : ∃ ad, A = some ad := by
          cases A with
          | none => have := (H.out.bls.nil rfl).1; omega
          | some ad => exact ⟨ad, rfl⟩
        obtain ⟨b, o, rfl⟩ := H.out.bls.plain ad rfl
        have hse := HCELL.out wr hbe
        have hsr := HSRC.out wr hbe
        have hc := hse.box
        obtain ⟨c0, _, _, c3⟩ := hse.bls.at_ b o k rfl hkr
        obtain ⟨sad, rfl⟩ : ∃ sad, SA = some sad := by
          cases SA with
          | none => have := (hsr.nil rfl).1; omega
          | some sad => exact ⟨sad, rfl⟩
        have him : i < ms.length := by have := HML.out; omega
        have hsc : wr.cell? (sad.add i) = some (.int .u8 (ms[i].toNat : Int)) := hsr.at_ sad rfl i _ (by simp [cells, List.getElem?_eq_getElem him])
        have hcap := hse.bls.cap
        have hcap2 := hsr.cap
        rw [hq] at ho
        obtain ⟨w1f, ⟨v, w1c⟩, w1o⟩ := own_byte ho (j := f + i) (by omega) ms[i]
        rw [splice_step (by omega) him] at w1o
        have hcapk : rs[k].b.bytes.length ≤ rs[k].c := by
          rcases ho.2 with ⟨hv, _⟩ | ⟨g0, cap, cur, hv, _, _, hnc, _⟩
          · cases hv
          · injection hv with _ _ h3
            subst h3
            exact hnc
        rw [hq] at c3
        have HWO := Lib.hid (own_drew w1o)
        have hbs := hbe.set ⟨q, f + i, none⟩ (.int .u8 (ms[i].toNat : Int)) (by rw [hq]; rfl)
        have HBE := Lib.hid (show Beside w1 (wr.setCell ⟨q, f + i, none⟩ (.int .u8 (ms[i].toNat : Int))).drew (fun x => some x = row rs[k].A) from ⟨hbs.os, hbs.tape, hbs.output, hbs.size, hbs.block⟩)
        clear hbs
        have hww1 : IntKind.i64.wrap (a - rs[k].b.at_) = (f : Int) := by rw [IntKind.wrap_i64]; omega
        have hww2 : IntKind.i64.wrap ((f : Int) + (i : Int)) = (f : Int) + (i : Int) := by rw [IntKind.wrap_i64]; omega
        have hww3 : (0 : Int) ≤ (f : Int) + (i : Int) := by omega
        have hww4 : ((f : Int) + (i : Int)).toNat = f + i := by omega
        have hww5 : (f : Int) + (i : Int) < (rs[k].b.bytes.length : Int) := by omega
        have hm20 : m ≤ 1048576 := by omega
        have hii : (0 : Int) ≤ (i : Int) := by omega
        have hii2 : (i : Int) < (m : Int) := by omega
        have hii3 : ((i : Int)).toNat = i := by omega
        generalize ms[i].toNat = bv at *
        have HQ := Lib.hid hq
        clear ho hbe hse hsr him hq w1o hml hn h1 h2 hf hfu hft h0 hmem
        go_wp2_with fail
        go_still_tail 26, (by kernel_rfl)
        change wpList _ _ _ _ _ wr.drew
        clear hww1 hww2 hww3 hww4 hww5 hii3
        go_wp2_with fail
        have HW2 := HWO.out
        rw [← HQ.out] at HW2
        refine ⟨⟨i + 1, hlt, by go_num, HW2, HBE.out⟩, ?_⟩
        simp [intOf]
        omega
      · obtain rfl : i = m := by omega
        have htk : ms.take i = ms := List.take_of_length_le (by have := HML.out; omega)
        rw [htk] at ho
        have HE := Lib.hid (HFIN.out wr ho hbe)
        clear ho hbe htk
        go_wp2_with fail
        first | go_ret | skip
        exact HE.out
  · have HE := Lib.hid (HN.out E w1 HB.out HR.out.goes hE)
    have b1 : (E == 0) = false := by simpa using hE
    have b2 : (E != 0) = true := by simpa using hE
    clear HN HY HR hE
    go_wp2_with fail
    first | go_ret | skip
    exact HE.out
end Go.Proofs.YtfkhfjefddgkoaaDoor

namespace Go.Proofs.YtfkhfjefddgkoaaDoor
open Go.RowKit

/-- Behind an act: the model's space is these parts now. -/
def Moved (w w' : World) (B g : Nat) (A : Option Addr) (rs : List Raw) (ds : List Seg) : Prop := ∃ A' c' rs', Dp w' B g A' c' rs' ∧ segs rs' = ds ∧ Beside w w' (Foot g A rs) ∧ ∀ k, Foot g A' rs' k → Foot g A rs k ∨ w.heap.size ≤ k
theorem row_set_t {w' : World} {B b : Nat} {t : TypeId} {c : Nat} {rs : List Raw} {cur : Array Value} {k j : Nat} {v : Value} {r : Raw} (hB : B ≤ b) (hnc : rs.length ≤ c) (hcm : c ≤ maxLen) (hcs : cur.size = c * 4) (ht : cur.toList.take (rs.length * 4) = rcells rs) (hk : k < rs.length) (hr : (rawC rs[k]).set j v = rawC r) (hj : j < 4)
    (hx : Bx w' b (cur.setIfInBounds (k * 4 + j) v) t) : w'.ownsRow B t 4 (.slice (some ⟨b, 0, none⟩) (rs.set k r).length c) (rs.set k r).length (rcells (rs.set k r)) := by
  refine ⟨rcells_len _, .inr ⟨b, c, _, rfl, hB, hx, by simpa using hnc, hcm, by simpa using hcs, ?_⟩⟩
  rw [← rcells_set rs k hk r j v hr hj, ← ht, Array.toList_setIfInBounds, List.length_set, List.take_set]
abbrev withP (r : Raw) (p : Int) : Raw := ⟨⟨r.b.at_, r.b.size, p, r.b.bytes⟩, r.A, r.c⟩
theorem Dp.perm_ {w : World} {B g c k b : Nat} {rs : List Raw} (h : Dp w B g (some ⟨b, 0, none⟩) c rs) (hk : k < rs.length) (p : Int) :
    w.frozen? ⟨b, k * 4 + 2, none⟩ = false ∧ (∃ v, w.cell? ⟨b, k * 4 + 2, none⟩ = some v) ∧ Dp (w.setCell ⟨b, k * 4 + 2, none⟩ (.int .i64 p)) B g (some ⟨b, 0, none⟩) c (rs.set k (withP rs[k] p)) := by
  have hmem := List.getElem_mem hk
  have hgb : g ≠ b := fun e => h.ne (by rw [e]; rfl)
  have hb : Beside w (w.setCell ⟨b, k * 4 + 2, none⟩ (.int .i64 p)) (fun q => q = b) := (Beside.refl w _).set _ _ rfl
  rcases h.own.2 with ⟨hv, _⟩ | ⟨g0, cap, cur, hv, hbg, hx, hnc, hcm, hcs, ht⟩
  · cases hv
  · injection hv with h1 _ h3
    injection h1 with h1
    injection h1 with h1 _
    subst h1 h3
    have hat : ∀ (r : Raw), r ∈ rs.set k (withP rs[k] p) → ∃ r0 ∈ rs, r.A = r0.A ∧ r.c = r0.c ∧ r.b.bytes = r0.b.bytes ∧ r.b.size = r0.b.size := by
      intro r hr
      obtain ⟨j, hj, rfl⟩ := List.getElem_of_mem hr
      rw [List.length_set] at hj
      rw [List.getElem_set]
      by_cases e : k = j
      · rw [if_pos e]
        exact ⟨_, hmem, rfl, rfl, rfl, rfl⟩
      · rw [if_neg e]
        exact ⟨_, List.getElem_mem hj, rfl, rfl, rfl, rfl⟩
    have hall : ∀ j (hj : j < rs.length), j ≠ k → ∀ q, row rs[k].A = some q → row rs[j].A ≠ some q := by
      intro j hj hne q hq e
      have hp := List.pairwise_iff_getElem.1 h.pair
      rcases Nat.lt_or_gt_of_ne hne with hl | hl
      · exact hp j k hj hk hl q e hq
      · exact hp k j hk hj hl q hq e
    have hx' : Bx (w.setCell ⟨b, k * 4 + 2, none⟩ (.int .i64 p)) b (cur.setIfInBounds (k * 4 + 2) (.int .i64 p)) 101 := by
      show (World.setCell _ _ _).heap[b]? = _
      rw [setCell_eq_setRow w b _ cur 101 _ _ hx]
      exact setRow_heap w b _ _ 101 _ hx
    refine ⟨Bx.f (t := 101) hx _, ⟨_, (Bx.c (t := 101) hx _).trans (cur_at ht hk (j := 2) (by omega))⟩, h.hg, ?_, row_set_t hbg hnc hcm hcs ht hk rfl (by omega) hx', ?_, ?_, h.ne, ?_, pair_set h.pair hall⟩
    · rw [List.length_set]
      exact h.box.beside hb hgb
    · intro r hr
      obtain ⟨r0, hr0, e1, e2, e3, _⟩ := hat r hr
      rw [e1, e2, e3]
      refine own_beside (h.bytes r0 hr0) hb fun q hq e => ?_
      rw [row_own] at hq
      exact (h.apart r0 hr0 q hq).2 (by rw [e]; rfl)
    · intro r hr
      obtain ⟨r0, hr0, _, _, e3, e4⟩ := hat r hr
      rw [e3, e4]
      exact h.full r0 hr0
    · intro r hr
      obtain ⟨r0, hr0, e1, _⟩ := hat r hr
      rw [e1]
      exact h.apart r0 hr0
theorem perm_dis {rs : List Raw} (hd : Dis rs) (hf : ∀ r ∈ rs, 64 ≤ r.b.size) {k : Nat} (hk : k < rs.length) {a p : Int} (ha : rs[k].b.at_ = a) : segs (rs.set k (withP rs[k] p)) = permS (segs rs) a p := by
  refine set_segs hk _ _ ?_ fun j hj hne => ?_
  · show (if rs[k].b.at_ = a then _ else _) = _
    rw [if_pos ha]
    rfl
  · show (if rs[j].b.at_ = a then _ else _) = _
    rw [if_neg fun e => ?_]
    have h1 := hf _ (List.getElem_mem hj)
    have h2 := hf _ (List.getElem_mem hk)
    exact hne (dis_one hd (a := a) hj hk (by omega) (by omega))
def ProtD (w : World) (B g : Nat) (A : Option Addr) (rs : List Raw) (a p : Int) (e : Ending) (w' : World) : Prop :=
  e = .returned (.int .i64 (protS (segs rs) a p).1) ∧ Moved w w' B g A rs (protS (segs rs) a p).2
theorem Moved.stay {w w' : World} {B g c : Nat} {A : Option Addr} {rs : List Raw} (h : Dp w B g A c rs) (hb : Below w.heap.size w w') : Moved w w' B g A rs (segs rs) :=
  ⟨A, c, rs, h.beside (Beside.of_below hb (fun _ => False)) (fun _ _ e => e), rfl, Beside.of_below hb _, fun _ hk => .inl hk⟩
set_option maxRecDepth 100000 in
set_option maxHeartbeats 2000000 in
theorem rProtect_any (B g : Nat) (A : Option Addr) (c : Nat) (rs : List Raw) (a p : Int) (hd : Dis rs) (w : World) (h : Seen w g A c rs) (hdp : Dp w B g A c rs) :
    Calls Tryd.prog 63 #[.pointer (some ⟨g, 0, none⟩), .int .i64 a, .int .i64 p] w (ProtD w B g A rs a p) := by
  have H := Lib.hid h
  have HZ := Lib.hid (rPerm_any p w)
  cases hpb : permB p with
  | false =>
    have HE := Lib.hid (show ProtD w B g A rs a p (.returned (.int .i64 1)) w from by
      unfold ProtD protS
      rw [if_neg (by rw [hpb]; decide)]
      exact ⟨rfl, Moved.stay hdp (Below.refl _ _)⟩)
    rw [hpb] at HZ
    generalize ProtD w B g A rs a p = L at *
    clear h hdp hd
    go_enter Tryd.func63, Tryd.ntmps63
    go_wp2_with fail
    refine HZ.out.mono ?_
    rintro e w1 ⟨rfl, rfl⟩
    clear HZ
    go_wp2_with fail
    first | go_ret | skip
    exact HE.out
  | true =>
    have HBG := Lib.hid (rBegins_any g A c rs a w h)
    have HN : Hid (∀ w', Below w.heap.size w w' → (∀ (k : Nat) (hk : k < rs.length), rs[k].b.at_ ≠ a) → ProtD w B g A rs a p (.returned (.int .i64 50)) w') := Lib.hid fun w' hb hno => by
      unfold ProtD protS
      rw [if_pos hpb, if_neg fun h => by obtain ⟨k, hk, e⟩ := (has_segs rs a).1 h; exact hno k hk e]
      exact ⟨rfl, Moved.stay hdp hb⟩
    have HY : Hid (∀ w1 w', Below w.heap.size w w1 → (k : Nat) → (hk : k < rs.length) → rs[k].b.at_ = a → Dp w' B g A c (rs.set k (withP rs[k] p)) → Beside w1 w' (fun q => some q = row A) → ProtD w B g A rs a p (.returned (.int .i64 0)) w') := Lib.hid fun w1 w' hb k hk ha hd' hbe => by
      unfold ProtD protS
      rw [if_pos hpb, if_pos ((has_segs rs a).2 ⟨k, hk, ha⟩)]
      refine ⟨rfl, A, c, _, hd', perm_dis hd (fun r hr => (H.out.fit r hr).2.2.1) hk ha, (Beside.of_below hb _).then hbe fun q _ e => .inr (.inl e), fun q hq => .inl ((foot_set hk (r := withP rs[k] p) rfl q).1 hq)⟩
    have HDP := Lib.hid hdp
    rw [hpb] at HZ
    generalize ProtD w B g A rs a p = L at *
    clear h hdp hd hpb
    go_enter Tryd.func63, Tryd.ntmps63
    go_wp2_with fail
    refine HZ.out.mono ?_
    rintro e w1 ⟨rfl, rfl⟩
    clear HZ
    go_wp2_with fail
    refine HBG.out.mono ?_
    rintro e w1 ⟨hb, ⟨hno, rfl⟩ | ⟨k, hk, ha, rfl⟩⟩
    · have HE := Lib.hid (HN.out w1 hb hno)
      clear hb hno HN HY HBG
      go_wp2_with fail
      first | go_ret | skip
      exact HE.out
    · have hD1 := HDP.out.beside (Beside.of_below hb (fun _ => False)) fun _ _ e => e
      obtain ⟨b, rfl⟩ : ∃ b, A = some ⟨b, 0, none⟩ := by
        rcases plainA hD1.own with e | ⟨b, e⟩
        · have := (hD1.bls.nil e).1; omega
        · exact ⟨b, e⟩
      obtain ⟨p1, ⟨v, p2⟩, p3⟩ := hD1.perm_ hk p
      have HE := Lib.hid (HY.out w1 _ hb k hk ha p3 ((Beside.refl w1 _).set _ _ rfl))
      have hc := cell_below hb H.out.box
      have hcap := H.out.bls.cap
      have hkk : (0 : Int) ≤ (k : Int) := by omega
      clear hb ha HN HY HBG hD1 p3
      go_wp2_with fail
      first | go_ret | skip
      exact HE.out
end Go.Proofs.YtfkhfjefddgkoaaDoor
