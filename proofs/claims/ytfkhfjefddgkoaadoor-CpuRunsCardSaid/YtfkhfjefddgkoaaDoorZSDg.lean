/-
  The document's model: its regions, by their addresses.
  The document's model: words read.
-/
import Derived.Test.YtfkhfjefddgkoaaDoorZSDd
import Derived.Test.YtfkhfjefddgkoaaDoorZSDf
namespace Go.Proofs.YtfkhfjefddgkoaaDoor
open Go.RowKit

/-- The least of the regions looked at so far that begin beyond an address; none: it begins at -1. -/
structure Least (rs : List Raw) (last : Int) (i : Nat) (r : Rg) : Prop where
  none_ : r.at_ < 0 → ∀ (j : Nat) (hj : j < rs.length), j < i → rs[j].b.at_ ≤ last
  some_ : 0 ≤ r.at_ → last < r.at_ ∧ ∃ (j : Nat) (hj : j < rs.length), j < i ∧ r = rs[j].rg
  least : 0 ≤ r.at_ → ∀ (j : Nat) (hj : j < rs.length), j < i → last < rs[j].b.at_ → r.at_ ≤ rs[j].b.at_
theorem Least.next {rs : List Raw} {last : Int} {i : Nat} {r : Rg} (h : Least rs last i r) (hi : i < rs.length) (h0 : 0 ≤ rs[i].b.at_) : Least rs last (i + 1) (if last < rs[i].b.at_ ∧ (r.at_ < 0 ∨ rs[i].b.at_ < r.at_) then rs[i].rg else r) := by
  have hrg : (rs[i].rg).at_ = rs[i].b.at_ := rfl
  by_cases hc : last < rs[i].b.at_ ∧ (r.at_ < 0 ∨ rs[i].b.at_ < r.at_)
  · rw [if_pos hc]
    refine ⟨fun e => by rw [hrg] at e; omega, fun _ => ⟨hc.1, i, hi, by omega, rfl⟩, fun _ j hj hji hl => ?_⟩
    rw [hrg]
    by_cases e : j = i
    · subst e; omega
    · by_cases hn : r.at_ < 0
      · have := h.none_ hn j hj (by omega); omega
      · have := h.least (by omega) j hj (by omega) hl
        omega
  · rw [if_neg hc]
    refine ⟨fun e j hj hji => ?_, fun e => ?_, fun e j hj hji hl => ?_⟩
    · by_cases ej : j = i
      · subst ej
        have : ¬ last < rs[j].b.at_ := fun h' => hc ⟨h', .inl e⟩
        omega
      · exact h.none_ e j hj (by omega)
    · obtain ⟨h1, j, hj, hji, e'⟩ := h.some_ e
      exact ⟨h1, j, hj, by omega, e'⟩
    · by_cases ej : j = i
      · subst ej
        have : ¬ rs[j].b.at_ < r.at_ := fun h' => hc ⟨hl, .inr h'⟩
        omega
      · exact h.least e j hj (by omega) hl
theorem Least.start (rs : List Raw) (last : Int) : Least rs last 0 ⟨-1, 0, 0⟩ := ⟨fun _ j _ h => by omega, fun h => by simp at h, fun h => by simp at h⟩
/-- The last address told: that of the one ahead, -1 at the start. -/
def lastS (ss : List Seg) : Nat → Int
  | 0 => -1
  | k + 1 => match ss[k]? with
    | some s => s.at_
    | none => -1
theorem least_is {rs : List Raw} {ss : List Seg} (hg : Good ss) (hp : (segs rs).Perm ss) {k : Nat} (hk : k < ss.length) {r : Rg} (h : Least rs (lastS ss k) rs.length r) : r = rgS ss[k] := by
  have hfit := hg.fit ss[k] (List.getElem_mem hk)
  have hlast : ∀ (j : Nat) (hj : j < ss.length), lastS ss k < ss[j].at_ ↔ k ≤ j := by
    intro j hj
    cases k with
    | zero =>
      have := (hg.fit ss[j] (List.getElem_mem hj)).1
      show -1 < ss[j].at_ ↔ _
      omega
    | succ k =>
      have hk2 : k < ss.length := by omega
      have e : lastS ss (k + 1) = ss[k].at_ := by
        show (match ss[k]? with
          | some s => s.at_
          | none => -1) = ss[k].at_
        rw [List.getElem?_eq_getElem hk2]
      rw [e]
      constructor
      · intro hl
        by_cases h1 : k + 1 ≤ j
        · exact h1
        · exfalso
          by_cases h2 : j = k
          · subst h2; omega
          · have := hg.next_at hj hk2 (by omega)
            have := (hg.fit ss[j] (List.getElem_mem hj)).2.2.1
            omega
      · intro hl
        have := hg.next_at hk2 hj (by omega)
        have := (hg.fit ss[k] (List.getElem_mem hk2)).2.2.1
        omega
  have hfrom : ∀ (j : Nat) (hj : j < rs.length), ∃ (i : Nat) (hi : i < ss.length), seg rs[j].b = ss[i] := fun j hj => by
    have : seg rs[j].b ∈ ss := hp.mem_iff.1 (List.mem_map_of_mem (List.getElem_mem hj))
    obtain ⟨i, hi, e⟩ := List.getElem_of_mem this
    exact ⟨i, hi, e.symm⟩
  obtain ⟨jk, hjk, ejk⟩ : ∃ (j : Nat) (hj : j < rs.length), seg rs[j].b = ss[k] := by
    have : ss[k] ∈ segs rs := hp.mem_iff.2 (List.getElem_mem hk)
    obtain ⟨x, hx, e⟩ := segs_mem this
    obtain ⟨j, hj, rfl⟩ := List.getElem_of_mem hx
    exact ⟨j, hj, e.symm⟩
  have ejk2 : rs[jk].b.at_ = ss[k].at_ := congrArg Seg.at_ ejk
  have hl1 := (hlast k hk).2 (Nat.le_refl _)
  by_cases hn : r.at_ < 0
  · have := h.none_ hn jk hjk hjk
    omega
  · obtain ⟨h1, j, hj, _, rfl⟩ := h.some_ (by omega)
    have h2 := h.least (by omega) jk hjk hjk (by omega)
    obtain ⟨i, hi, ei⟩ := hfrom j hj
    have ei2 : rs[j].b.at_ = ss[i].at_ := congrArg Seg.at_ ei
    have h1' : lastS ss k < rs[j].b.at_ := h1
    have h2' : rs[j].b.at_ ≤ rs[jk].b.at_ := h2
    have h3 := (hlast i hi).1 (by omega)
    have h4 : i = k := by
      by_cases e : i = k
      · exact e
      · have := hg.next_at hk hi (by omega)
        omega
    subst h4
    show (⟨rs[j].b.at_, rs[j].b.size, rs[j].b.perm⟩ : Rg) = ⟨ss[i].at_, ss[i].size, ss[i].perm⟩
    rw [ei2, show rs[j].b.size = ss[i].size from congrArg Seg.size ei, show rs[j].b.perm = ss[i].perm from congrArg Seg.perm ei]
theorem Bx.three {w : World} {g : Nat} {x y z : Value} {t : TypeId} (h : Bx w g #[x, y, z] t) (a b c : Value) : Bx (((w.setCell ⟨g, 0, none⟩ a).setCell ⟨g, 1, none⟩ b).setCell ⟨g, 2, none⟩ c) g #[a, b, c] t := by
  have st : ∀ {w : World} {cs : Array Value} (_ : Bx w g cs t) (i : Nat) (v : Value), Bx (w.setCell ⟨g, i, none⟩ v) g (cs.setIfInBounds i v) t := fun {w cs} h i v => by
    show (World.setCell _ _ _).heap[g]? = _
    rw [setCell_eq_setRow w g i cs t _ _ h]
    exact setRow_heap w g _ _ t _ h
  exact st (st (st h 0 a) 1 b) 2 c
def lenOf : Value → Nat
  | .slice _ n _ => n
  | _ => 0
set_option maxRecDepth 100000 in
set_option maxHeartbeats 2000000 in
theorem rRegions_any (g : Nat) (A : Option Addr) (c : Nat) (rs : List Raw) (ss : List Seg) (hg : Good ss) (hp : (segs rs).Perm ss) (w : World) (h : Seen w g A c rs) :
    Calls Tryd.prog 36 #[.pointer (some ⟨g, 0, none⟩)] w (Rgns w (ss.map rgS)) := by
  have H := Lib.hid h
  have hfew := h.few
  have hln : ss.length = rs.length := by have := hp.length_eq; rw [segs_len] at this; omega
  have HE : Hid (∀ A' c' w', w'.ownsRow w.heap.size 89 3 (.slice A' rs.length c') rs.length (gcells (ss.map rgS)) → Below w.heap.size w w' → Rgns w (ss.map rgS) (.returned (.slice A' rs.length c')) w') := Lib.hid fun A' c' w' ho hb => by
    have hl : (ss.map rgS).length = rs.length := by rw [List.length_map]; exact hln
    exact ⟨A', c', by rw [hl], by rw [hl]; exact ho, hb⟩
  have HLI : Hid (∀ (k : Nat) (hk : k < rs.length) r, Least rs (lastS ss k) rs.length r → gcells ((ss.map rgS).take k ++ [r]) = gcells ((ss.map rgS).take (k + 1))) := Lib.hid fun k hk r hr => by
    have hk2 : k < ss.length := by omega
    rw [least_is hg hp hk2 hr, List.take_succ_eq_append_getElem (by rw [List.length_map]; exact hk2), List.getElem_map]
  have HLA : Hid (∀ j, (hj : j < ss.length) → lastS ss (j + 1) = ss[j].at_) := Lib.hid fun j hj => by
    show (match ss[j]? with
      | some s => s.at_
      | none => -1) = ss[j].at_
    rw [List.getElem?_eq_getElem hj]
  generalize Rgns w (ss.map rgS) = L at *
  obtain ⟨n, hn⟩ : ∃ n, rs.length = n := ⟨_, rfl⟩
  have HN := Lib.hid hn
  have HL := Lib.hid hln
  have hc := h.box
  rw [hn] at hc hfew
  clear h hp hg hn hln
  go_enter Tryd.func36, Tryd.ntmps36
  go_wp2_with fail
  go_loopw [3] (fun t3 wr => ∃ (k : Nat) (A' : Option Addr) (c' : Nat), k ≤ n ∧ t3 = .slice A' k c' ∧ wr.ownsRow w.heap.size 89 3 (.slice A' k c') k (gcells ((ss.map rgS).take k)) ∧ Below w.heap.size w wr) (fun t3 _ => n - lenOf t3)
  case atStart => exact ⟨0, none, 0, Nat.zero_le _, rfl, ⟨rfl, .inl ⟨rfl, rfl⟩⟩, Below.refl _ _⟩
  case round =>
    obtain ⟨k, A', c', hk, rfl, ho, hb⟩ := hrel
    have HO := Lib.hid ho
    have HB := Lib.hid hb
    have hcr := cell_below hb hc
    clear ho hb
    by_cases hlt : k < n
    · have HX := Lib.hid (Bx.new wr #[.int .i64 (-1), .int .i64 0, .int .i64 0] 89)
      have HW := Lib.hid ((Below.refl wr.heap.size wr).alloc (Nat.le_refl _) (.cells #[.int .i64 (-1), .int .i64 0, .int .i64 0] 89))
      have hcw := cell_below HW.out hcr
      have hkn : k = 0 ∨ ∃ j, k = j + 1 := by cases k with
        | zero => exact .inl rfl
        | succ j => exact .inr ⟨j, rfl⟩
      rcases hkn with rfl | ⟨j, rfl⟩
      · have HST := Lib.hid (Least.start rs (lastS ss 0))
        have HLS := Lib.hid (show lastS ss 0 = -1 from rfl)
        go_wp2_with fail
        rw [HLS.out] at HST
        have HLI2 := Lib.hid (show ∀ r, Least rs ((-1 : Int)) n r → gcells ((ss.map rgS).take (0) ++ [r]) = gcells ((ss.map rgS).take (0 + 1)) from fun r hr => HLI.out (0) (by rw [HN.out]; exact hlt) r (by rw [HN.out, HLS.out]; exact hr))
        clear HLI HLS HE
        rename World => wo
        go_loopw [6] (fun t6 w2 => ∃ (i : Nat) (r : Rg), i ≤ n ∧ t6 = .int .i64 i ∧ Least rs ((-1 : Int)) i r ∧ Bx w2 wo.heap.size #[.int .i64 r.at_, .int .i64 r.size, .int .i64 r.perm] 89 ∧ Below wo.heap.size wo w2) (fun t6 _ => n - (intOf t6).toNat)
        case atStart => exact ⟨0, ⟨-1, 0, 0⟩, Nat.zero_le _, rfl, HST.out, HX.out, HW.out⟩
        case round =>
          obtain ⟨i, r, hi, rfl, hle, hx, hb2⟩ := hrel
          have HLE := Lib.hid hle
          have HX2 := Lib.hid hx
          have HB2 := Lib.hid hb2
          have HBB := Lib.hid (HB.out.trans (hb2.mono HB.out.size))
          have hc2 := cell_below HBB.out hc
          have b0 := hx.c 0
          have b1 := hx.c 1
          have b2 := hx.c 2
          simp only [List.getElem?_toArray, List.getElem?_cons_zero, List.getElem?_cons_succ] at b0 b1 b2
          clear hle hx hb2
          by_cases hil : i < n
          · have hir : i < rs.length := by rw [HN.out]; exact hil
            obtain ⟨ad, rfl⟩ : ∃ ad, A = some ad := by
              cases A with
              | none => have := (H.out.bls.nil rfl).1; have := HN.out; omega
              | some ad => exact ⟨ad, rfl⟩
            obtain ⟨bl, o, rfl⟩ := H.out.bls.plain ad rfl
            obtain ⟨c0, c1, c2, _⟩ := (H.out.bls.below HBB.out).at_ bl o i rfl hir
            have hft := (H.out.fit rs[i] (List.getElem_mem hir)).1
            have HNX := Lib.hid (HLE.out.next hir (by omega))
            have HRG := Lib.hid (show rs[i].rg = ⟨rs[i].b.at_, rs[i].b.size, rs[i].b.perm⟩ from rfl)
            rw [HRG.out] at HNX
            generalize rs[i].rg = rg at *
            generalize rs[i].b.at_ = a0 at *
            generalize rs[i].b.size = s0 at *
            generalize rs[i].b.perm = p0 at *
            have HXA := Lib.hid (fun o => HX2.out.alloc o)
            have HBA := Lib.hid (fun o => HB2.out.alloc HB2.out.size o)
            have q0 : ∀ o, (wr.alloc o).cell? ⟨wo.heap.size, 0, none⟩ = some (.int .i64 r.at_) := fun o => (HXA.out o).c 0
            have q1 : ∀ o, (wr.alloc o).cell? ⟨wo.heap.size, 1, none⟩ = some (.int .i64 r.size) := fun o => (HXA.out o).c 1
            have q2 : ∀ o, (wr.alloc o).cell? ⟨wo.heap.size, 2, none⟩ = some (.int .i64 r.perm) := fun o => (HXA.out o).c 2
            have z0 : ∀ o, (wr.alloc o).frozen? ⟨wo.heap.size, 0, none⟩ = false := fun o => (HXA.out o).f 0
            have z1 : ∀ o, (wr.alloc o).frozen? ⟨wo.heap.size, 1, none⟩ = false := fun o => (HXA.out o).f 1
            have z2 : ∀ o, (wr.alloc o).frozen? ⟨wo.heap.size, 2, none⟩ = false := fun o => (HXA.out o).f 2
            clear HRG
            by_cases h1 : (-1 : Int) < a0
            · have d1 : decide ((-1 : Int) < a0) = true := decide_eq_true h1
              by_cases h2 : r.at_ < 0
              · have d2 : decide (r.at_ < 0) = true := decide_eq_true h2
                have hn := HNX.out
                rw [if_pos ⟨h1, .inl h2⟩] at hn
                have HNN := Lib.hid hn
                clear hn HNX
                go_wp2_with fail
                exact ⟨⟨i + 1, _, hil, by go_num, HNN.out, (HXA.out _).three _ _ _, ((HBA.out _).setCell (Nat.le_refl _) _ |>.setCell (Nat.le_refl _) _ |>.setCell (Nat.le_refl _) _)⟩, by simp [intOf]; omega⟩
              · have d2 : decide (r.at_ < 0) = false := decide_eq_false h2
                by_cases h3 : a0 < r.at_
                · have d3 : decide (a0 < r.at_) = true := decide_eq_true h3
                  have hn := HNX.out
                  rw [if_pos ⟨h1, .inr h3⟩] at hn
                  have HNN := Lib.hid hn
                  clear hn HNX
                  go_wp2_with fail
                  exact ⟨⟨i + 1, _, hil, by go_num, HNN.out, (HXA.out _).three _ _ _, ((HBA.out _).setCell (Nat.le_refl _) _ |>.setCell (Nat.le_refl _) _ |>.setCell (Nat.le_refl _) _)⟩, by simp [intOf]; omega⟩
                · have d3 : decide (a0 < r.at_) = false := decide_eq_false h3
                  have hn := HNX.out
                  rw [if_neg fun e => e.2.elim h2 h3] at hn
                  have HNN := Lib.hid hn
                  clear hn HNX
                  go_wp2_with fail
                  exact ⟨⟨i + 1, _, hil, by go_num, HNN.out, HXA.out _, HBA.out _⟩, by simp [intOf]; omega⟩
            · exact (h1 (by omega)).elim
          · obtain rfl : i = n := by omega
            have HGC := Lib.hid (HLI2.out r HLE.out)
            have HO2 := Lib.hid (own_beside HO.out (Beside.of_below HB2.out (fun _ => False)) fun _ _ e => e)
            have HO3 := Lib.hid (fun o => own_beside HO2.out (Beside.alloc wr o (fun _ => False)) fun _ _ e => e)
            have HB3 := Lib.hid (fun o => HBB.out.alloc HBB.out.size o)
            have HRB := Lib.hid (Bx.new wr (rgC r).toArray 89)
            go_wp2_with (at_builtin; (refine wpList_appR rfl (.tmp 61) (.tmp 63) rfl w.heap.size A' (0) c' wr.heap.size ((ss.map rgS).take (0)) r (by rfl) (by rfl) (HO3.out _) (HB3.out _).size (by omega) ⟨_, HRB.out⟩ ?_); intro A2 c2 w3 ho hb; rw [HGC.out] at ho; have HO4 := Lib.hid ho; have HB4 := Lib.hid ((HB3.out _).trans hb); clear ho hb)
            exact ⟨⟨0 + 1, A2, c2, by omega, rfl, HO4.out, HB4.out⟩, by simp [lenOf]; omega⟩
      · have hj : j < ss.length := by rw [HL.out, HN.out]; omega
        have hlen : ((ss.map rgS).take (j + 1)).length = j + 1 := by rw [List.length_take, List.length_map]; omega
        obtain ⟨ad, rfl⟩ : ∃ ad, A' = some ad := by
          cases A' with
          | none =>
            rcases HO.out.2 with ⟨_, h0⟩ | ⟨_, _, _, hv, _⟩
            · omega
            · cases hv
          | some ad => exact ⟨ad, rfl⟩
        obtain ⟨b, rfl⟩ : ∃ b, ad = ⟨b, 0, none⟩ := by
          rcases plainA HO.out with e | ⟨b, e⟩
          · cases e
          · exact ⟨b, Option.some.inj e⟩
        have hcap : j + 1 ≤ c' := by
          rcases HO.out.2 with ⟨hv, _⟩ | ⟨g0, cap, cur, hv, _, _, hnc, _⟩
          · cases hv
          · injection hv with _ _ h3
            subst h3
            exact hnc
        have hcell : wr.cell? ⟨b, j * 3, none⟩ = some (.int .i64 ss[j].at_) := by
          have h1 := HO.out.cells (g := b) rfl (j * 3 + 0) _ (gcells_at _ j (by omega) 0 (by omega))
          rw [plainAdd, Nat.zero_add, Nat.add_zero, List.getElem_take, List.getElem_map] at h1
          exact h1
        have HST := Lib.hid (Least.start rs (lastS ss (j + 1)))
        have HLS := Lib.hid (HLA.out j hj)
        generalize ss[j].at_ = la at *
        clear hj hlen
        go_wp2_with fail
        rw [HLS.out] at HST
        have HLI2 := Lib.hid (show ∀ r, Least rs (la) n r → gcells ((ss.map rgS).take (j + 1) ++ [r]) = gcells ((ss.map rgS).take (j + 1 + 1)) from fun r hr => HLI.out (j + 1) (by rw [HN.out]; exact hlt) r (by rw [HN.out, HLS.out]; exact hr))
        clear HLI HLS HE
        rename World => wo
        go_loopw [6] (fun t6 w2 => ∃ (i : Nat) (r : Rg), i ≤ n ∧ t6 = .int .i64 i ∧ Least rs (la) i r ∧ Bx w2 wo.heap.size #[.int .i64 r.at_, .int .i64 r.size, .int .i64 r.perm] 89 ∧ Below wo.heap.size wo w2) (fun t6 _ => n - (intOf t6).toNat)
        case atStart => exact ⟨0, ⟨-1, 0, 0⟩, Nat.zero_le _, rfl, HST.out, HX.out, HW.out⟩
        case round =>
          obtain ⟨i, r, hi, rfl, hle, hx, hb2⟩ := hrel
          have HLE := Lib.hid hle
          have HX2 := Lib.hid hx
          have HB2 := Lib.hid hb2
          have HBB := Lib.hid (HB.out.trans (hb2.mono HB.out.size))
          have hc2 := cell_below HBB.out hc
          have b0 := hx.c 0
          have b1 := hx.c 1
          have b2 := hx.c 2
          simp only [List.getElem?_toArray, List.getElem?_cons_zero, List.getElem?_cons_succ] at b0 b1 b2
          clear hle hx hb2
          by_cases hil : i < n
          · have hir : i < rs.length := by rw [HN.out]; exact hil
            obtain ⟨ad, rfl⟩ : ∃ ad, A = some ad := by
              cases A with
              | none => have := (H.out.bls.nil rfl).1; have := HN.out; omega
              | some ad => exact ⟨ad, rfl⟩
            obtain ⟨bl, o, rfl⟩ := H.out.bls.plain ad rfl
            obtain ⟨c0, c1, c2, _⟩ := (H.out.bls.below HBB.out).at_ bl o i rfl hir
            have hft := (H.out.fit rs[i] (List.getElem_mem hir)).1
            have HNX := Lib.hid (HLE.out.next hir (by omega))
            have HRG := Lib.hid (show rs[i].rg = ⟨rs[i].b.at_, rs[i].b.size, rs[i].b.perm⟩ from rfl)
            rw [HRG.out] at HNX
            generalize rs[i].rg = rg at *
            generalize rs[i].b.at_ = a0 at *
            generalize rs[i].b.size = s0 at *
            generalize rs[i].b.perm = p0 at *
            have HXA := Lib.hid (fun o => HX2.out.alloc o)
            have HBA := Lib.hid (fun o => HB2.out.alloc HB2.out.size o)
            have q0 : ∀ o, (wr.alloc o).cell? ⟨wo.heap.size, 0, none⟩ = some (.int .i64 r.at_) := fun o => (HXA.out o).c 0
            have q1 : ∀ o, (wr.alloc o).cell? ⟨wo.heap.size, 1, none⟩ = some (.int .i64 r.size) := fun o => (HXA.out o).c 1
            have q2 : ∀ o, (wr.alloc o).cell? ⟨wo.heap.size, 2, none⟩ = some (.int .i64 r.perm) := fun o => (HXA.out o).c 2
            have z0 : ∀ o, (wr.alloc o).frozen? ⟨wo.heap.size, 0, none⟩ = false := fun o => (HXA.out o).f 0
            have z1 : ∀ o, (wr.alloc o).frozen? ⟨wo.heap.size, 1, none⟩ = false := fun o => (HXA.out o).f 1
            have z2 : ∀ o, (wr.alloc o).frozen? ⟨wo.heap.size, 2, none⟩ = false := fun o => (HXA.out o).f 2
            clear HRG
            by_cases h1 : la < a0
            · have d1 : decide (la < a0) = true := decide_eq_true h1
              by_cases h2 : r.at_ < 0
              · have d2 : decide (r.at_ < 0) = true := decide_eq_true h2
                have hn := HNX.out
                rw [if_pos ⟨h1, .inl h2⟩] at hn
                have HNN := Lib.hid hn
                clear hn HNX
                go_wp2_with fail
                exact ⟨⟨i + 1, _, hil, by go_num, HNN.out, (HXA.out _).three _ _ _, ((HBA.out _).setCell (Nat.le_refl _) _ |>.setCell (Nat.le_refl _) _ |>.setCell (Nat.le_refl _) _)⟩, by simp [intOf]; omega⟩
              · have d2 : decide (r.at_ < 0) = false := decide_eq_false h2
                by_cases h3 : a0 < r.at_
                · have d3 : decide (a0 < r.at_) = true := decide_eq_true h3
                  have hn := HNX.out
                  rw [if_pos ⟨h1, .inr h3⟩] at hn
                  have HNN := Lib.hid hn
                  clear hn HNX
                  go_wp2_with fail
                  exact ⟨⟨i + 1, _, hil, by go_num, HNN.out, (HXA.out _).three _ _ _, ((HBA.out _).setCell (Nat.le_refl _) _ |>.setCell (Nat.le_refl _) _ |>.setCell (Nat.le_refl _) _)⟩, by simp [intOf]; omega⟩
                · have d3 : decide (a0 < r.at_) = false := decide_eq_false h3
                  have hn := HNX.out
                  rw [if_neg fun e => e.2.elim h2 h3] at hn
                  have HNN := Lib.hid hn
                  clear hn HNX
                  go_wp2_with fail
                  exact ⟨⟨i + 1, _, hil, by go_num, HNN.out, HXA.out _, HBA.out _⟩, by simp [intOf]; omega⟩
            · have d1 : decide (la < a0) = false := decide_eq_false h1
              have hn := HNX.out
              rw [if_neg fun e => h1 e.1] at hn
              have HNN := Lib.hid hn
              clear hn HNX
              go_wp2_with fail
              exact ⟨⟨i + 1, _, hil, by go_num, HNN.out, HXA.out _, HBA.out _⟩, by simp [intOf]; omega⟩
          · obtain rfl : i = n := by omega
            have HGC := Lib.hid (HLI2.out r HLE.out)
            have HO2 := Lib.hid (own_beside HO.out (Beside.of_below HB2.out (fun _ => False)) fun _ _ e => e)
            have HO3 := Lib.hid (fun o => own_beside HO2.out (Beside.alloc wr o (fun _ => False)) fun _ _ e => e)
            have HB3 := Lib.hid (fun o => HBB.out.alloc HBB.out.size o)
            have HRB := Lib.hid (Bx.new wr (rgC r).toArray 89)
            go_wp2_with (at_builtin; (refine wpList_appR rfl (.tmp 61) (.tmp 63) rfl w.heap.size (some ⟨b, 0, none⟩) (j + 1) c' wr.heap.size ((ss.map rgS).take (j + 1)) r (by rfl) (by rfl) (HO3.out _) (HB3.out _).size (by omega) ⟨_, HRB.out⟩ ?_); intro A2 c2 w3 ho hb; rw [HGC.out] at ho; have HO4 := Lib.hid ho; have HB4 := Lib.hid ((HB3.out _).trans hb); clear ho hb)
            exact ⟨⟨j + 1 + 1, A2, c2, by omega, rfl, HO4.out, HB4.out⟩, by simp [lenOf]; omega⟩
    · obtain rfl : k = n := by omega
      have htk : (ss.map rgS).take k = ss.map rgS := List.take_of_length_le (by rw [List.length_map, HL.out, HN.out]; exact Nat.le_refl _)
      have ho := HO.out
      rw [htk] at ho
      have HEE := Lib.hid (show L (.returned (.slice A' k c')) wr from by have := HE.out A' c' wr; rw [HN.out] at this; exact this ho HB.out)
      clear HE htk ho
      go_wp2_with fail
      first | go_ret | skip
      exact HEE.out
end Go.Proofs.YtfkhfjefddgkoaaDoor

namespace Go.Proofs.YtfkhfjefddgkoaaDoor
open Go.RowKit

theorem valN_drop {l : Str} {j : Nat} (h : j < l.length) : valN (l.drop j) = l[j].toNat + 256 * valN (l.drop (j + 1)) := by
  rw [List.drop_eq_getElem_cons h, valN]
theorem valN_small {l : Str} (h : l.length ≤ 8) : valN l < 18446744073709551616 := by
  have h1 := valN_lt l
  have h2 : 256 ^ l.length ≤ 256 ^ 8 := Nat.pow_le_pow_right (by omega) h
  have h3 : (256 : Nat) ^ 8 = 18446744073709551616 := by decide
  omega
def WordD (ds : List Seg) (a need : Int) (w : World) (e : Ending) (w' : World) : Prop := e = .returned (.tuple #[.int .i64 (wordS ds a need), .int .i64 (goesS ds a 8 need)]) ∧ Below w.heap.size w w'
set_option maxRecDepth 100000 in
set_option maxHeartbeats 4000000 in
theorem rWord_any (B g : Nat) (A : Option Addr) (c : Nat) (rs : List Raw) (a p : Int) (ha : I64 a) (hp : p = 0 ∨ p = 1 ∨ p = 2 ∨ p = 4) (hd : Dis rs) (w : World) (h : Seen w g A c rs) (hb : ∀ r ∈ rs, w.ownsRow B 5 1 (.slice r.A r.b.bytes.length r.c) r.b.bytes.length (cells r.b.bytes)) (hf : ∀ r ∈ rs, (r.b.bytes.length : Int) = r.b.size) :
    Calls Tryd.prog 69 #[.pointer (some ⟨g, 0, none⟩), .int .i64 a, .int .i64 p] w (WordD (segs rs) a p w) := by
  have HG := Lib.hid (rGet_any B g A c rs a 8 p ha hp hd w h hb hf)
  have HY : Hid (∀ w', Below w.heap.size w w' → WordD (segs rs) a p w (.returned (.tuple #[.int .i64 (val (if goesS (segs rs) a 8 p = 0 then gotS (segs rs) a 8 else [])), .int .i64 (goesS (segs rs) a 8 p)])) w') := Lib.hid fun w' hb => ⟨rfl, hb⟩
  have hlen : (if goesS (segs rs) a 8 p = 0 then gotS (segs rs) a 8 else []).length ≤ 8 := by
    split
    · rename_i h0
      rw [gotS_len h0]
      decide
    · simp
  clear h hd hb hf
  unfold TookS at HG
  generalize WordD (segs rs) a p w = L at *
  generalize (if goesS (segs rs) a 8 p = 0 then gotS (segs rs) a 8 else []) = l at *
  generalize goesS (segs rs) a 8 p = E at *
  have HLS := Lib.hid (valN_small hlen)
  go_enter Tryd.func69, Tryd.ntmps69
  go_wp2_with fail
  refine HG.out.mono ?_
  rintro e w1 ⟨hb, A1, n1, c1, rfl, hn1, ho⟩
  subst hn1
  have HB := Lib.hid hb
  have HS := Lib.hid (Src.of_own ho).lt
  have HY2 := Lib.hid (HY.out w1 hb)
  clear HG hb ho HY
  go_wp2_with fail
  go_loop [10, 11] (fun t10 t11 => ∃ j : Nat, j ≤ l.length ∧ t11 = .int .i64 ((j : Int) - 1) ∧ t10 = .int .u64 (valN (l.drop j) : Nat)) (fun _ t11 => (intOf t11 + 1).toNat)
  case atStart => exact ⟨l.length, Nat.le_refl _, rfl, by rw [List.drop_length]; rfl⟩
  case round =>
    obtain ⟨j, hj, rfl, rfl⟩ := hrel
    by_cases h0 : j = 0
    · subst h0
      go_wp2_with fail
      first | go_ret2 | skip
      exact HY2.out
    · obtain ⟨i, rfl⟩ : ∃ i, j = i + 1 := ⟨j - 1, by omega⟩
      have hi : i < l.length := by omega
      obtain ⟨ad, rfl⟩ : ∃ ad, A1 = some ad := by
        cases A1 with
        | none => have := (HS.out.nil rfl).1; omega
        | some ad => exact ⟨ad, rfl⟩
      have hcell : w1.cell? (ad.add i) = some (.int .u8 (l[i].toNat : Int)) := HS.out.at_ ad rfl i _ (by simp [cells, List.getElem?_eq_getElem hi])
      have hcap := HS.out.cap
      have hvd := valN_drop hi
      have hsm : valN (l.drop i) < 18446744073709551616 := valN_small (by rw [List.length_drop]; omega)
      have HVD := Lib.hid hvd
      have hbt := l[i].toNat_lt
      have e1 : ((i + 1 : Nat) : Int) - 1 = (i : Int) := by omega
      rw [e1]
      generalize l[i].toNat = bt at *
      generalize valN (l.drop (i + 1)) = V at *
      have hV : bt + 256 * V < 18446744073709551616 := by omega
      clear hvd hsm
      go_wp2_with fail
      refine ⟨⟨i, by omega, rfl, ?_⟩, by simp [intOf]⟩
      rw [HVD.out]
      refine congrArg (Value.int .u64) ?_
      rw [Int.natCast_add, Int.natCast_mul]
      omega
end Go.Proofs.YtfkhfjefddgkoaaDoor
