/-
  Copy: a space of its own with the same regions and bytes.
-/
import Derived.Test.YthbdncojekpanaaAb
import Derived.Deep.RegionHeld3
namespace Go.Proofs.Ythbdncojekpanaa
open Go.RowKit

/-- Behind k rounds of the copy: the first k blocks have bytes of their own, the others still share theirs. -/
structure Half (w wr : World) (gc b' c' n k : Nat) (rs rs1 : List Raw) : Prop where
  len : rs1.length = k
  same : blks rs1 = blks (rs.take k)
  below : Below w.heap.size w wr
  box : Bx wr gc #[.slice (some ⟨b', 0, none⟩) n c'] 66
  hg : w.heap.size ≤ gc
  ne : b' ≠ gc
  own : wr.ownsRow w.heap.size 69 4 (.slice (some ⟨b', 0, none⟩) n c') n (rcells (rs1 ++ rs.drop k))
  bytes : ∀ r ∈ rs1, wr.ownsRow w.heap.size 5 1 (.slice r.A r.b.bytes.length r.c) r.b.bytes.length (cells r.b.bytes)
  apart : ∀ r ∈ rs1, ∀ q, row r.A = some q → q ≠ gc ∧ q ≠ b'
  pair : rs1.Pairwise fun r r' => ∀ q, row r.A = some q → row r'.A ≠ some q
/-- Behind a copy. -/
def CopiedS (w : World) (bs : List Blk) (e : Ending) (w' : World) : Prop :=
  ∃ gc A' c' rs', e = .returned (.pointer (some ⟨gc, 0, none⟩)) ∧ Sp w' w.heap.size gc A' c' rs' ∧ blks rs' = bs ∧ Below w.heap.size w w'
theorem Half.start {w wr : World} {rs : List Raw} {gc b' c' n : Nat} (hb : Below w.heap.size w wr) (hbox : Bx wr gc #[.slice (some ⟨b', 0, none⟩) n c'] 66) (hg : w.heap.size ≤ gc) (hne : b' ≠ gc) (hown : wr.ownsRow w.heap.size 69 4 (.slice (some ⟨b', 0, none⟩) n c') n (rcells rs)) : Half w wr gc b' c' n 0 rs [] :=
  ⟨rfl, rfl, hb, hbox, hg, hne, hown, (by intro r hr; cases hr), (by intro r hr; cases hr), List.Pairwise.nil⟩
theorem ord_blks {rs rs' : List Raw} (h : Ord rs) (he : blks rs' = blks rs) : Ord rs' := by
  have hl : rs'.length = rs.length := by have := congrArg List.length he; simpa using this
  refine ord_same h hl fun j hj => ?_
  have : (blks rs')[j]'(by simp; omega) = (blks rs)[j]'(by simp; omega) := by simp only [he]
  simp only [List.getElem_map] at this
  rw [this]
  exact ⟨rfl, rfl⟩
theorem Half.done {w wr : World} {B g c : Nat} {A : Option Addr} {rs rs1 : List Raw} {gc b' c' : Nat} (h : Sp w B g A c rs) (hh : Half w wr gc b' c' rs.length rs.length rs rs1) : CopiedS w (blks rs) (.returned (.pointer (some ⟨gc, 0, none⟩))) wr := by
  have hs : blks rs1 = blks rs := by rw [hh.same, List.take_length]
  have hl := hh.len
  have ho := hh.own
  rw [List.drop_length, List.append_nil] at ho
  refine ⟨gc, some ⟨b', 0, none⟩, c', rs1, rfl, ⟨hh.hg, by rw [hl]; exact hh.box, by rw [hl]; exact ho, hh.bytes, ?_, (by intro e; cases e; exact hh.ne rfl), fun r hr q hq => ?_, hh.pair, ord_blks h.ord hs⟩, hs, hh.below⟩
  · intro r hr
    have : r.b ∈ blks rs := by rw [← hs]; exact List.mem_map_of_mem hr
    obtain ⟨r0, h0, e0⟩ := List.mem_map.1 this
    have := h.short r0 h0
    rw [← e0]
    exact this
  · obtain ⟨p1, p2⟩ := hh.apart r hr q hq
    exact ⟨p1, fun e => p2 (Option.some.inj e)⟩
/-- One block more has its bytes of its own. -/
theorem Half.step {w wr w1 : World} {gc b' c' n k : Nat} {rs rs1 : List Raw} (hh : Half w wr gc b' c' n k rs rs1) (hn : rs.length = n) (hk : k < n) {A' : Option Addr} {cc : Nat} (ho : w1.ownsRow wr.heap.size 5 1 (.slice A' (rs[k]'(by omega)).b.bytes.length cc) (rs[k]'(by omega)).b.bytes.length (cells (rs[k]'(by omega)).b.bytes)) (hb : Below wr.heap.size wr w1) :
    w1.cell? ⟨gc, 0, none⟩ = some (.slice (some ⟨b', 0, none⟩) n c') ∧ w1.frozen? ⟨b', k * 4 + 3, none⟩ = false ∧ (∃ v, w1.cell? ⟨b', k * 4 + 3, none⟩ = some v) ∧
    Half w (w1.setCell ⟨b', k * 4 + 3, none⟩ (.slice A' (rs[k]'(by omega)).b.bytes.length cc)) gc b' c' n (k + 1) rs (rs1 ++ [⟨(rs[k]'(by omega)).b, A', cc⟩]) := by
  have hkr : k < rs.length := by omega
  have hdrop : rs.drop k = rs[k] :: rs.drop (k + 1) := List.drop_eq_getElem_cons hkr
  have hfull : (rs1 ++ rs.drop k).length = n := by rw [List.length_append, hh.len, List.length_drop]; omega
  have hkf : k < (rs1 ++ rs.drop k).length := by omega
  have hatk : (rs1 ++ rs.drop k)[k]'hkf = rs[k] := by
    rw [List.getElem_append_right (by rw [hh.len]; exact Nat.le_refl _)]
    simp [hh.len]
  have hset : (rs1 ++ rs.drop k).set k ⟨rs[k].b, A', cc⟩ = rs1 ++ [(⟨rs[k].b, A', cc⟩ : Raw)] ++ rs.drop (k + 1) := by
    rw [List.set_append_right _ _ (by rw [hh.len]; exact Nat.le_refl _), hdrop, hh.len, Nat.sub_self, List.set_cons_zero, List.append_assoc]
    rfl
  have hbe := Beside.of_below hb (fun _ => False)
  have hbox1 := hh.box.beside hbe fun e => e
  have hown1 := own_beside hh.own hbe fun _ _ e => e
  have hblt := hown1.lt b' rfl
  have hnew : ∀ q, row A' = some q → wr.heap.size ≤ q ∧ q < w1.heap.size := fun q hq => ho.lt q (by rw [row_own]; exact hq)
  rcases hown1.2 with ⟨hv, _⟩ | ⟨g0, cap, cur, hv, hbg, hx, hnc, hcm, hcs, ht⟩
  · cases hv
  · injection hv with h1 _ h3
    injection h1 with h1
    injection h1 with h1 _
    subst h1 h3
    rw [← hfull] at ht hnc
    have hcell := cur_at ht hkf (j := 3) (by omega)
    have hx' : Bx (w1.setCell ⟨b', k * 4 + 3, none⟩ (.slice A' rs[k].b.bytes.length cc)) b' (cur.setIfInBounds (k * 4 + 3) (.slice A' rs[k].b.bytes.length cc)) 69 := by
      show (World.setCell _ _ _).heap[b']? = _
      rw [setCell_eq_setRow w1 b' _ cur 69 _ _ hx]
      exact setRow_heap w1 b' _ _ 69 _ hx
    have hrow := row_set (r := ⟨rs[k].b, A', cc⟩) (j := 3) (v := .slice A' rs[k].b.bytes.length cc) hbg hnc hcm hcs ht hkf (by rw [hatk]; rfl) (by omega) hx'
    rw [hset] at hrow
    have hl2 : (rs1 ++ [(⟨rs[k].b, A', cc⟩ : Raw)] ++ rs.drop (k + 1)).length = n := by rw [← hset, List.length_set]; exact hfull
    rw [hl2] at hrow
    have hst : Beside w1 (w1.setCell ⟨b', k * 4 + 3, none⟩ (.slice A' rs[k].b.bytes.length cc)) (fun q => q = b') := (Beside.refl w1 _).set _ _ rfl
    have hbb : w.heap.size ≤ b' := hblt.1
    refine ⟨hbox1.c 0, Bx.f hx _, ⟨_, (Bx.c hx _).trans hcell⟩, ⟨by rw [List.length_append, hh.len]; rfl, ?_, ?_, hbox1.beside hst (fun e => hh.ne e.symm), hh.hg, hh.ne, hrow, ?_, ?_, ?_⟩⟩
    · show (rs1 ++ [_]).map _ = _
      rw [List.map_append, show rs1.map (·.b) = blks (rs.take k) from hh.same, List.take_succ_eq_append_getElem hkr]
      show _ = (rs.take k ++ [rs[k]]).map _
      rw [List.map_append]
      rfl
    · exact (hh.below.trans (hb.mono hh.below.size)).setCell hbb _
    · intro r hr
      rcases List.mem_append.1 hr with hr | hr
      · refine own_beside (own_beside (hh.bytes r hr) hbe fun _ _ e => e) hst fun q hq e => ?_
        rw [row_own] at hq
        exact (hh.apart r hr q hq).2 e
      · obtain rfl := List.mem_singleton.1 hr
        refine own_beside (own_more ho hh.below.size) hst fun q hq e => ?_
        rw [row_own] at hq
        subst e
        have := hnew _ hq
        have := (hh.own.lt q rfl).2
        omega
    · intro r hr q hq
      rcases List.mem_append.1 hr with hr | hr
      · exact hh.apart r hr q hq
      · obtain rfl := List.mem_singleton.1 hr
        have h1 := hnew _ hq
        have h2 := (hh.own.lt b' rfl).2
        have h3 := hh.box.lt
        omega
    · rw [List.pairwise_append]
      refine ⟨hh.pair, List.pairwise_singleton _ _, fun r hr r' hr' q hq e => ?_⟩
      obtain rfl := List.mem_singleton.1 hr'
      have h1 := hnew q e
      have h2 := ((hh.bytes r hr).lt q (by rw [row_own]; exact hq)).2
      omega
set_option maxRecDepth 100000 in
set_option maxHeartbeats 2000000 in
theorem Copy_any (B g : Nat) (A : Option Addr) (c : Nat) (rs : List Raw) (w : World) (h : Sp w B g A c rs) :
    Calls Try.prog 12 #[.pointer (some ⟨g, 0, none⟩)] w (CopiedS w (blks rs)) := by
  have HS := Lib.hid h
  have hc : w.cell? ⟨g, 0, none⟩ = some (.slice A rs.length c) := h.box.c 0
  have hfew := ord_few h.ord
  have HCL := Lib.hid (CloneR_any B A c rs w h.own hfew)
  clear h
  generalize hn : rs.length = n at *
  have HN := Lib.hid hn
  generalize hL : CopiedS w (blks rs) = L at *
  have HL := Lib.hid hL
  clear hL hn
  go_enter Try.func12, Try.ntmps12
  go_wp2_with fail
  refine HCL.out.mono ?_
  rintro e w1 ⟨A1, c1, rfl, ho, hb⟩
  have HBA := Lib.hid (hb.alloc hb.size (.cells #[.slice A1 rs.length c1] 66))
  have HXX := Lib.hid (Bx.new w1 #[.slice A1 rs.length c1] 66)
  rcases plainA ho with rfl | ⟨b', rfl⟩
  · have h0 : rs.length = 0 ∧ c1 = 0 := by
      rcases ho.2 with ⟨hv, h0⟩ | ⟨g, cap, cur, hv, _⟩
      · injection hv with _ _ h3
        exact ⟨h0, h3⟩
      · injection hv with h1; cases h1
    obtain ⟨h0, rfl⟩ := h0
    have h1 : rs = [] := List.eq_nil_of_length_eq_zero h0
    subst h1
    have hn0 : n = 0 := HN.out.symm
    subst hn0
    have HE := Lib.hid (show ∀ w', w' = w1.alloc (.cells #[.slice none 0 0] 66) → L (.returned (.pointer (some ⟨w1.heap.size, 0, none⟩))) w' from fun w' hw => by
      rw [← HL.out, hw]
      exact ⟨w1.heap.size, none, 0, [], rfl, sp_new w1 w.heap.size hb.size, rfl, HBA.out⟩)
    clear ho hb HCL h0 HBA HXX
    go_wp2_with fail
    go_loopw [20] (fun t20 wr => t20 = .int .i64 0 ∧ wr = w1.alloc (.cells #[.slice none 0 0] 66)) (fun _ _ => 0)
    case atStart => exact ⟨rfl, rfl⟩
    case round =>
      obtain ⟨rfl, rfl⟩ := hrel
      go_wp2_with fail
      first | go_ret | skip
      exact HE.out _ rfl
  · have HST := Lib.hid (Half.start (rs := rs) (b' := b') (c' := c1) (n := rs.length) HBA.out HXX.out hb.size (fun e => by have := (ho.lt b' rfl).2; omega) (own_beside ho (Beside.alloc w1 _ (fun _ => False)) fun _ _ e => e))
    have HE := Lib.hid (show ∀ rs1 w', Half w w' w1.heap.size b' c1 rs.length rs.length rs rs1 → L (.returned (.pointer (some ⟨w1.heap.size, 0, none⟩))) w' from fun rs1 w' hh => by
      rw [← HL.out]
      exact hh.done HS.out)
    rw [HN.out] at HST HE
    have hnl := HN.out
    clear ho hb HCL HBA HXX
    go_wp2_with fail
    clear hnl
    go_loopw [20] (fun t20 wr => ∃ (k : Nat) (rs1 : List Raw), k ≤ n ∧ t20 = .int .i64 k ∧ Half w wr w1.heap.size b' c1 n k rs rs1) (fun t20 _ => n - (intOf t20).toNat)
    case atStart => exact ⟨0, [], Nat.zero_le _, rfl, HST.out⟩
    case round =>
      obtain ⟨k, rs1, hk, rfl, hh⟩ := hrel
      by_cases hlt : k < n
      · have hkr : k < rs.length := by rw [HN.out]; exact hlt
        have hcb : wr.cell? ⟨w1.heap.size, 0, none⟩ = some (.slice (some ⟨b', 0, none⟩) n c1) := hh.box.c 0
        have hkb : wr.cell? ⟨b', k * 4 + 3, none⟩ = some (.slice rs[k].A rs[k].b.bytes.length rs[k].c) := by
          have hkf : k < (rs1 ++ rs.drop k).length := by rw [List.length_append, hh.len, List.length_drop]; omega
          have e1 : (rs1 ++ rs.drop k)[k] = rs[k] := by
            rw [List.getElem_append_right (by rw [hh.len]; exact Nat.le_refl _)]
            simp [hh.len]
          have := hh.own.cells (g := b') rfl (k * 4 + 3) _ (rcells_at _ k hkf 3 (by omega))
          rw [plainAdd, Nat.zero_add, e1] at this
          exact this
        have HSRC := Lib.hid (Src.of_own (own_beside (HS.out.bytes rs[k] (List.getElem_mem hkr)) (Beside.of_below hh.below (fun _ => False)) fun _ _ e => e))
        have hsh := HS.out.short rs[k] (List.getElem_mem hkr)
        have HCU := Lib.hid (CloneB_any _ rs[k].A rs[k].c rs[k].b.bytes wr.drew (HSRC.out.below (drew_below wr) (fun _ h => h.2.2)) (by omega))
        have HSTEP := Lib.hid (fun (w2 : World) A2 c2 (ho : w2.ownsRow wr.heap.size 5 1 (.slice A2 rs[k].b.bytes.length c2) rs[k].b.bytes.length (cells rs[k].b.bytes)) (hb : Below wr.heap.size wr.drew w2) => hh.step HN.out hlt ho ((drew_below wr).trans hb))
        have hi1 : (0 : Int) ≤ (k : Int) := by omega
        have hi2 : (k : Int) < (n : Int) := by omega
        have hne := hh.ne
        clear hsh hh
        go_wp2_with fail
        first
          | (go_region_with ((with_reducible refine HCU.out.mono ?_); rintro e w2 ⟨A2, c2, rfl, ho, hb⟩; obtain ⟨s1, s2, ⟨v2, s3⟩, s4⟩ := HSTEP.out w2 A2 c2 ho hb; have HS4 := Lib.hid s4; clear ho hb s4))
          | fail
        all_goals
          go_wp2_with fail
          go_roundw
          case rel => exact ⟨k + 1, _, hlt, by go_num, HS4.out⟩
          case measure => simp [intOf]; omega
      · obtain rfl : k = n := by omega
        have HH := Lib.hid hh
        clear hh
        go_wp2_with fail
        first | go_ret | skip
        exact HE.out _ _ HH.out
end Go.Proofs.Ythbdncojekpanaa
