/-
  The document's model: a new region.
  The document's model: a new region where a gap is.
-/
import Derived.Test.YtfkhfjefddgkoaaDoorZSDk
import Derived.Deep.AppendLies
import Derived.Deep.RegionLaw
namespace Go.Proofs.YtfkhfjefddgkoaaDoor
open Go.RowKit

theorem Beside.drew {w w' : World} {p : Nat → Prop} (h : Beside w w' p) : Beside w w'.drew p := ⟨h.os, h.tape, h.output, h.size, h.block⟩
theorem made_z (n : Nat) : madeCells (Value.int .u8 0).cells (n * 1) = (cells (zeros n)).toArray := by
  apply Array.ext'
  rw [made_zeros]
abbrev newP (a p : Int) (N q : Nat) : Raw := ⟨⟨a, (N : Int), p, zeros N⟩, some ⟨q, 0, none⟩, N⟩
theorem newP_cells (a p : Int) (N q : Nat) : rcells [newP a p N q] = [.int .i64 a, .int .i64 (N : Int), .int .i64 p, .slice (some ⟨q, 0, none⟩) N N] := by
  show [Value.int .i64 a, .int .i64 (N : Int), .int .i64 p, .slice (some ⟨q, 0, none⟩) (zeros N).length N] = _
  rw [zeros_len]
/-- One part more. -/
theorem Dp.push {w1 w5 : World} {B g c g5 c5 N : Nat} {A : Option Addr} {rs : List Raw} {a p : Int} (h : Dp w1 B g A c rs) (hN : N ≤ maxLen) (ho : w5.ownsRow B 101 4 (.slice (some ⟨g5, 0, none⟩) (rs.length + 1) c5) (rs.length + 1) (rcells rs ++ rcells [newP a p N w1.heap.size])) (hx : Bx w5 g #[.slice A rs.length c] 64) (hb : Beside w1 w5 (fun k => some k = row A)) (hz : Bx w5 w1.heap.size (madeCells (Value.int .u8 0).cells (N * 1)) 5)
    (ha : (Value.slice A rs.length c).ownBlock = some g5 ∨ g5 = w1.heap.size + 2) : Moved w1 (w5.setCell ⟨g, 0, none⟩ (.slice (some ⟨g5, 0, none⟩) (rs.length + 1) c5)) B g A rs (segs rs ++ [newS a (N : Int) p]) := by
  rw [row_own] at ha
  have hlt := h.box.lt
  have hgB := h.hg
  have hg5 : g5 ≠ g := fun e => by
    subst e
    rcases ha with e | e
    · exact h.ne e
    · omega
  have hg5w : g5 ≠ w1.heap.size := fun e => by
    rcases ha with e' | e'
    · have := (h.own.lt g5 (by rw [row_own]; exact e')).2; omega
    · omega
  have hst : Beside w5 (w5.setCell ⟨g, 0, none⟩ (.slice (some ⟨g5, 0, none⟩) (rs.length + 1) c5)) (fun q => q = g) := (Beside.refl w5 _).set _ _ rfl
  have hl : (rs ++ [newP a p N w1.heap.size]).length = rs.length + 1 := by simp
  rw [← rcells_app, ← hl] at ho
  have hap : ∀ r ∈ rs, ∀ q, row r.A = some q → q ≠ g ∧ q ≠ g5 ∧ q < w1.heap.size := fun r hr q hq => by
    have h1 := h.apart r hr q hq
    have h2 := (h.lt (k := q) (.inr (.inr ⟨r, hr, hq.symm⟩))).2
    refine ⟨h1.1, fun e => ?_, h2⟩
    subst e
    rcases ha with e' | e'
    · exact h1.2 e'.symm
    · omega
  refine ⟨some ⟨g5, 0, none⟩, c5, rs ++ [newP a p N w1.heap.size], ⟨h.hg, ?_, ?_, ?_, ?_, ?_, ?_, ?_⟩, ?_, ?_, ?_⟩
  · rw [hl]
    show (World.setCell _ _ _).heap[g]? = _
    rw [setCell_eq_setRow w5 g 0 _ 64 _ _ hx]
    exact setRow_heap w5 g _ _ 64 _ hx
  · exact own_beside (by rw [hl] at ho ⊢; exact ho) hst fun q hq e => by
      rw [row_own] at hq
      cases hq
      exact hg5 e
  · intro r hr
    rcases List.mem_append.1 hr with hr | hr
    · refine own_beside (own_beside (h.bytes r hr) hb fun q hq e => ?_) hst fun q hq e => ?_
      · rw [row_own] at hq
        exact (h.apart r hr q hq).2 e
      · rw [row_own] at hq
        exact (h.apart r hr q hq).1 e
    · obtain rfl := List.mem_singleton.1 hr
      have hlz : (zeros N).length = N := zeros_len N
      show World.ownsRow _ B 5 1 (.slice (some ⟨w1.heap.size, 0, none⟩) (zeros N).length N) (zeros N).length (cells (zeros N))
      rw [hlz]
      rw [made_z] at hz
      exact own_beside (own_made (by omega) hz (by rw [cells_len, hlz]) hN) hst fun q hq e => by
        rw [row_own] at hq
        cases hq
        have e2 : w1.heap.size = g := e
        omega
  · intro r hr
    rcases List.mem_append.1 hr with hr | hr
    · exact h.full r hr
    · obtain rfl := List.mem_singleton.1 hr
      show ((zeros N).length : Int) = (N : Int)
      rw [zeros_len]
  · intro e
    cases e
    exact hg5 rfl
  · intro r hr q hq
    rcases List.mem_append.1 hr with hr | hr
    · obtain ⟨p1, p2, _⟩ := hap r hr q hq
      exact ⟨p1, fun e => p2 (Option.some.inj e)⟩
    · obtain rfl := List.mem_singleton.1 hr
      have e : w1.heap.size = q := Option.some.inj hq
      exact ⟨by omega, fun e' => hg5w (by have : q = g5 := Option.some.inj e'; omega)⟩
  · rw [List.pairwise_append]
    refine ⟨h.pair, List.pairwise_singleton _ _, fun r hr r' hr' q hq e => ?_⟩
    obtain rfl := List.mem_singleton.1 hr'
    have e2 : w1.heap.size = q := Option.some.inj e
    have := (hap r hr q hq).2.2
    omega
  · unfold segs
    rw [List.map_append]
    congr 1
    show [seg _] = _
    congr 1
    show Seg.mk a (N : Int) p _ = Seg.mk a (N : Int) p _
    congr 1
    funext j
    exact zeros_get N j
  · exact (hb.weak fun q _ e => .inr (.inl e)).set _ _ (.inl rfl)
  · intro q hq
    rcases hq with rfl | hq | ⟨r, hr, hq⟩
    · exact .inl (.inl rfl)
    · have e : q = g5 := Option.some.inj hq
      subst e
      rcases ha with e' | e'
      · exact .inl (.inr (.inl e'.symm))
      · exact .inr (by omega)
    · rcases List.mem_append.1 hr with hr | hr
      · exact .inl (.inr (.inr ⟨r, hr, hq⟩))
      · obtain rfl := List.mem_singleton.1 hr
        have e : q = w1.heap.size := Option.some.inj hq
        exact .inr (by omega)
theorem Moved.from {w w1 w2 : World} {B g : Nat} {A : Option Addr} {rs : List Raw} {ds : List Seg} (hb : Below w.heap.size w w1) (h : Moved w1 w2 B g A rs ds) : Moved w w2 B g A rs ds := by
  obtain ⟨A', c', rs', h1, h2, h3, h4⟩ := h
  exact ⟨A', c', rs', h1, h2, (Beside.of_below hb _).trans h3, fun k hk => (h4 k hk).imp id fun e => Nat.le_trans hb.size e⟩
theorem start_up {a s : Int} : startB a s = (decide (a % 64 = 0) && (decide (4096 ≤ a) && decide (a ≤ 4294967296 - up s))) := by
  unfold startB
  by_cases h0 : a % 64 = 0
  · rw [decide_eq_true h0]
    congr 2
    rw [decide_eq_decide]
    unfold up
    omega
  · rw [decide_eq_false h0]
    rfl
theorem ok_free {rs : List Raw} {ss : List Seg} (hg : Good ss) (hp : (segs rs).Perm ss) {a s : Int} (h0 : a % 64 = 0) (h1 : 4096 ≤ a) (h2 : a ≤ 4294967296 - up s) : okAt (segs rs) a (up s) ↔ freeS ss a s := by
  constructor
  · intro h x hx
    have hu : s ≤ up s := by unfold up; omega
    rcases (free_perm hp _ _).1 h.2.2 x hx with h3 | h3
    · left; omega
    · exact .inr h3
  · intro h
    exact ⟨h1, h2, (free_perm hp _ _).2 (freeS_up hg h0 h)⟩
/-- Behind a MapAt of the model. -/
def MapAtD (w : World) (B g : Nat) (A : Option Addr) (rs : List Raw) (ss : List Seg) (a s p : Int) (e : Ending) (w' : World) : Prop :=
  e = .returned (.int .i64 (mapAtS ss a s p).1) ∧ (((mapAtS ss a s p).1 ≠ 0 ∧ Moved w w' B g A rs (segs rs)) ∨ ((mapAtS ss a s p).1 = 0 ∧ Moved w w' B g A rs (segs rs ++ [newS a (up s) p])))
set_option maxRecDepth 100000 in
set_option maxHeartbeats 2000000 in
theorem rMapAt_any (B g : Nat) (A : Option Addr) (c : Nat) (rs : List Raw) (ss : List Seg) (a s p : Int) (hg : Good ss) (hp : (segs rs).Perm ss) (w : World) (h : Seen w g A c rs) (hdp : Dp w B g A c rs) :
    Calls Tryd.prog 18 #[.pointer (some ⟨g, 0, none⟩), .int .i64 a, .int .i64 s, .int .i64 p] w (MapAtD w B g A rs ss a s p) := by
  have H := Lib.hid h
  have hfew := h.few
  have HDP := Lib.hid hdp
  have HZ := Lib.hid (rSized_any s w)
  have HPM := Lib.hid (rPerm_any p w)
  have HN : Hid ((sizeB s && (permB p && startB a s)) = false → MapAtD w B g A rs ss a s p (.returned (.int .i64 1)) w) := Lib.hid fun hno => by
    unfold MapAtD mapAtS
    rw [if_neg (by rw [hno]; decide)]
    exact ⟨rfl, .inl ⟨by omega, Moved.stay hdp (Below.refl _ _)⟩⟩
  cases hsb : sizeB s with
  | false =>
    rw [hsb] at HZ HN
    generalize MapAtD w B g A rs ss a s p = L at *
    clear h hdp hg hp
    go_enter Tryd.func18, Tryd.ntmps18
    go_wp2_with fail
    refine HZ.out.mono ?_
    rintro e w1 ⟨rfl, rfl⟩
    clear HZ
    go_wp2_with fail
    first | go_ret | skip
    exact HN.out rfl
  | true =>
    have hs := size_of hsb
    rw [hsb] at HZ HN
    cases hpb : permB p with
    | false =>
      rw [hpb] at HPM HN
      generalize MapAtD w B g A rs ss a s p = L at *
      clear h hdp hg hp
      go_enter Tryd.func18, Tryd.ntmps18
      go_wp2_with fail
      refine HZ.out.mono ?_
      rintro e w1 ⟨rfl, rfl⟩
      clear HZ
      go_wp2_with fail
      refine HPM.out.mono ?_
      rintro e w1 ⟨rfl, rfl⟩
      clear HPM
      go_wp2_with fail
      first | go_ret | skip
      exact HN.out rfl
    | true =>
      rw [hpb] at HPM HN
      have ht := tmod64 a
      have hst := start_up (a := a) (s := s)
      have HU := Lib.hid (rUp_any s hs w)
      by_cases h0 : a % 64 = 0
      · rw [decide_eq_true h0] at ht hst
        have hta : a.tmod 64 = 0 := by simpa using ht
        by_cases h1 : a < 4096
        · have HE := Lib.hid (HN.out (by rw [hst, decide_eq_false (show ¬ 4096 ≤ a by omega)]; rfl))
          generalize MapAtD w B g A rs ss a s p = L at *
          clear h hdp hg hp HN hst ht
          go_enter Tryd.func18, Tryd.ntmps18
          go_wp2_with fail
          refine HZ.out.mono ?_
          rintro e w1 ⟨rfl, rfl⟩
          clear HZ
          go_wp2_with fail
          refine HPM.out.mono ?_
          rintro e w1 ⟨rfl, rfl⟩
          clear HPM
          go_wp2_with fail
          first | go_ret | skip
          exact HE.out
        · have hun : 1 ≤ up s ∧ up s ≤ 1048576 := by unfold up; omega
          by_cases h2 : 4294967296 - up s < a
          · have HE := Lib.hid (HN.out (by rw [hst, decide_eq_false (show ¬ a ≤ 4294967296 - up s by omega), Bool.and_false]; rfl))
            generalize MapAtD w B g A rs ss a s p = L at *
            generalize up s = N at *
            have e0 : wrap64 (4294967296 - N) = 4294967296 - N := IntWalk.wrap64_in _ (by omega)
            clear h hdp hg hp HN hst ht
            go_enter Tryd.func18, Tryd.ntmps18
            go_wp2_with fail
            refine HZ.out.mono ?_
            rintro e w1 ⟨rfl, rfl⟩
            clear HZ
            go_wp2_with fail
            refine HPM.out.mono ?_
            rintro e w1 ⟨rfl, rfl⟩
            clear HPM
            go_wp2_with fail
            refine HU.out.mono ?_
            rintro e w1 ⟨rfl, rfl⟩
            clear HU
            go_wp2_with fail
            first | go_ret | skip
            exact HE.out
          · have htrue : (sizeB s && (permB p && startB a s)) = true := by
              rw [hsb, hpb, hst, decide_eq_true (show 4096 ≤ a by omega), decide_eq_true (show a ≤ 4294967296 - up s by omega)]
              rfl
            have HFR := Lib.hid (rfree_any g A c rs a (up s) hun w H.out)
            have hok := ok_free hg hp h0 (by omega) (show a ≤ 4294967296 - up s by omega)
            have HU2 : Hid (∀ w', Below w.heap.size w w' → ¬ okAt (segs rs) a (up s) → MapAtD w B g A rs ss a s p (.returned (.int .i64 51)) w') := Lib.hid fun w' hb hno => by
              unfold MapAtD mapAtS
              rw [if_pos htrue, if_neg fun h => hno (hok.2 h)]
              exact ⟨rfl, .inl ⟨by omega, Moved.stay hdp hb⟩⟩
            have HY : Hid (∀ w', okAt (segs rs) a (up s) → Moved w w' B g A rs (segs rs ++ [newS a (up s) p]) → MapAtD w B g A rs ss a s p (.returned (.int .i64 0)) w') := Lib.hid fun w' hyes hm => by
              unfold MapAtD mapAtS
              rw [if_pos htrue, if_pos (hok.1 hyes)]
              exact ⟨rfl, .inr ⟨rfl, hm⟩⟩
            generalize MapAtD w B g A rs ss a s p = L at *
            clear h hdp hg hp HN hst ht hok htrue
            by_cases hyes : okAt (segs rs) a (up s)
            · have HYY := Lib.hid (fun w' => HY.out w' hyes)
              rw [show FreeD (segs rs) a (up s) w = fun e w' => e = .returned (.bool true) ∧ Below w.heap.size w w' by funext e w'; unfold FreeD; rw [decide_eq_true hyes]] at HFR
              clear HU2 HY hyes
              obtain ⟨N, hN⟩ : ∃ N : Nat, up s = (N : Int) := ⟨(up s).toNat, by omega⟩
              rw [hN] at HU HFR HYY h2 hun
              clear hN
              have e0 : wrap64 (4294967296 - (N : Int)) = 4294967296 - (N : Int) := IntWalk.wrap64_in _ (by omega)
              obtain ⟨iu, hiu, hu0, hu1, hu2⟩ := info_parts Tryd.info_u8
              have hmk : ∀ W, (Instr.makeSlice 55 (.int .i64 (N : Int)) (.int .i64 (N : Int))).run Tryd.prog W = .ok (.slice (some ⟨W.heap.size, 0, none⟩) N N) (W.alloc (.cells (madeCells (Value.int .u8 0).cells (N * 1)) 5)) := fun W => by
                have := run_makeSlice (P := Tryd.prog) (w := W) 55 5 iu (.int .u8 0) Tryd.underlying55 hiu hu0 .i64 .i64 (N : Int) (N : Int) (by omega) (Int.le_refl _) (by rw [hu1, Int.toNat_natCast]; omega) (by rw [hu2]; omega) (by omega)
                rw [hu1, Int.toNat_natCast] at this
                exact this
              obtain ⟨ZC, hZC⟩ : ∃ ZC, madeCells (Value.int .u8 0).cells (N * 1) = ZC := ⟨_, rfl⟩
              rw [hZC] at hmk
              have HZC := Lib.hid hZC
              clear hZC
              go_enter Tryd.func18, Tryd.ntmps18
              go_wp2_with fail
              refine HZ.out.mono ?_
              rintro e w1 ⟨rfl, rfl⟩
              clear HZ
              go_wp2_with fail
              refine HPM.out.mono ?_
              rintro e w1 ⟨rfl, rfl⟩
              clear HPM
              go_wp2_with fail
              refine HU.out.mono ?_
              rintro e w1 ⟨rfl, rfl⟩
              go_wp2_with fail
              refine HU.out.mono ?_
              rintro e w1 ⟨rfl, rfl⟩
              clear HU
              go_wp2_with fail
              refine HFR.out.mono ?_
              rintro e w1 ⟨rfl, hb⟩
              have HB := Lib.hid hb
              have hc := cell_below hb H.out.box
              have hD1 := HDP.out.beside (Beside.of_below hb (fun _ => False)) fun _ _ e => e
              have hck : ∀ o, (w1.alloc o).cell? ⟨g, 0, none⟩ = some (.slice A rs.length c) := fun o => (hD1.box.alloc o).c 0
              have hck1 : ∀ o, (w1.alloc o).drew.cell? ⟨g, 0, none⟩ = some (.slice A rs.length c) := fun o => (hD1.box.alloc o).c 0
              have hck2 : ∀ o o', ((w1.alloc o).alloc o').cell? ⟨g, 0, none⟩ = some (.slice A rs.length c) := fun o o' => ((hD1.box.alloc o).alloc o').c 0
              have hck3 : ∀ o o', ((w1.alloc o).alloc o').drew.cell? ⟨g, 0, none⟩ = some (.slice A rs.length c) := fun o o' => ((hD1.box.alloc o).alloc o').c 0
              have HD1 := Lib.hid hD1
              have HOW : Hid (∀ W, Beside w1 W (fun _ => False) → W.ownsRow B 101 4 (.slice A rs.length c) rs.length (rcells rs)) := Lib.hid fun W hb => own_beside hD1.own hb fun _ _ e => e
              have HNW : Hid (∀ W t, Bx W (w1.heap.size + 1) #[.int .i64 a, .int .i64 (N : Int), .int .i64 p, .slice (some ⟨w1.heap.size, 0, none⟩) N N] t → ∀ j u, (rcells [newP a p N w1.heap.size])[j]? = some u → W.cell? ((⟨w1.heap.size + 1, 0, none⟩ : Addr).add j) = some u) := Lib.hid fun W t hx j u hu => by
                rw [plainAdd, Nat.zero_add, hx.c j, ← hu, newP_cells]
                simp
              have HBW := Lib.hid (show B ≤ w1.heap.size by have := hD1.box.lt; have := hD1.hg; omega)
              have HGB : Hid (∀ W w5, Beside w1 W (fun _ => False) → Bx W w1.heap.size ZC 5 → W.grownBy w5 (Value.slice A rs.length c).ownBlock → w5.cell? ⟨g, 0, none⟩ = some (.slice A rs.length c) ∧ w5.frozen? ⟨g, 0, none⟩ = false ∧ Bx w5 g #[.slice A rs.length c] 64 ∧ Beside w1 w5 (fun k => some k = row A) ∧ Bx w5 w1.heap.size ZC 5) := Lib.hid fun W w5 hb hz hgr => by
                rw [row_own] at hgr
                have hb5 : Beside w1 w5 (fun k => some k = row A) := (hb.weak fun _ _ e => e.elim).trans (Beside.grown hgr fun k hk => hk.symm)
                have hx := hD1.box.beside hb5 fun e => hD1.ne e.symm
                exact ⟨hx.c 0, hx.f 0, hx, hb5, hz.beside (Beside.grown (p := fun k => some k = row A) hgr fun k hk => hk.symm) fun e => by have := (hD1.own.lt w1.heap.size (by rw [row_own]; exact e.symm)).2; omega⟩
              obtain ⟨i0, z, hi0, hz0, hzs, hz1, hz2⟩ := part_parts
              clear HFR hb hD1 h1 h2 e0 hta h0
              go_wp2_with fail
              go_region_law (refine step_append_lies _ rfl (.tmp 45) (.tmp 53) 62 rfl B 101 i0 z 4 48 Tryd.underlying62 hi0 hz0 hz1 hz2 hzs (by omega) (.slice A rs.length c) rs.length (rcells rs) (by rfl) (by first | exact HOW.out _ (alloc2_beside w1 _ _ _) | exact HOW.out _ (alloc2_beside w1 _ _ _).drew) ⟨w1.heap.size + 1, 0, none⟩ 1 1 (rcells [newP a p N w1.heap.size]) (by rfl) (by rw [rcells_len]; rfl) (HNW.out _ 101 (by exact Bx.new2 w1 _ _ _)) (rcells_one _) (by omega) (by simp only [maxLen]; omega) (by omega) (by have := HBW.out; simp; omega) (w1.heap.size + 2) (by simp) ?_; intro g5 c5 w5 hown hgr hat hlt; obtain ⟨q1, q2, q3, q4, q5⟩ := HGB.out _ w5 (by first | exact alloc2_beside w1 _ _ _ | exact (alloc2_beside w1 _ _ _).drew) (by exact (Bx.new w1 _ _).alloc _) hgr; have HZ5 := Lib.hid q5; have HO5 := Lib.hid hown; have HX5 := Lib.hid q3; have HB5 := Lib.hid q4; have HA5 := Lib.hid hat; clear hown hgr hat q3 q4 q5)
              all_goals
                have HM := Lib.hid (HYY.out _ ((HD1.out.push (by simp only [maxLen]; omega) HO5.out HX5.out HB5.out (by rw [HZC.out]; exact HZ5.out) HA5.out).from HB.out))
                go_wp2_with fail
                first | go_ret | skip
                exact HM.out
            · have HE := Lib.hid (fun w' hb => HU2.out w' hb hyes)
              rw [show FreeD (segs rs) a (up s) w = fun e w' => e = .returned (.bool false) ∧ Below w.heap.size w w' by funext e w'; unfold FreeD; rw [decide_eq_false hyes]] at HFR
              clear HU2 HY hyes
              generalize up s = N at *
              have e0 : wrap64 (4294967296 - N) = 4294967296 - N := IntWalk.wrap64_in _ (by omega)
              go_enter Tryd.func18, Tryd.ntmps18
              go_wp2_with fail
              refine HZ.out.mono ?_
              rintro e w1 ⟨rfl, rfl⟩
              clear HZ
              go_wp2_with fail
              refine HPM.out.mono ?_
              rintro e w1 ⟨rfl, rfl⟩
              clear HPM
              go_wp2_with fail
              refine HU.out.mono ?_
              rintro e w1 ⟨rfl, rfl⟩
              go_wp2_with fail
              refine HU.out.mono ?_
              rintro e w1 ⟨rfl, rfl⟩
              clear HU
              go_wp2_with fail
              refine HFR.out.mono ?_
              rintro e w1 ⟨rfl, hb⟩
              have HB := Lib.hid hb
              clear HFR hb
              go_wp2_with fail
              first | go_ret | skip
              exact HE.out _ HB.out
      · have hta : (a.tmod 64 == 0) = false := by rw [tmod64]; exact decide_eq_false h0
        have hta2 : (a.tmod 64 != 0) = true := by simpa using hta
        have hta3 : ¬ a.tmod 64 = 0 := by simpa using hta
        have HE := Lib.hid (HN.out (by rw [hst, decide_eq_false h0]; rfl))
        generalize MapAtD w B g A rs ss a s p = L at *
        clear h hdp hg hp HN hst ht
        go_enter Tryd.func18, Tryd.ntmps18
        go_wp2_with fail
        refine HZ.out.mono ?_
        rintro e w1 ⟨rfl, rfl⟩
        clear HZ
        go_wp2_with fail
        refine HPM.out.mono ?_
        rintro e w1 ⟨rfl, rfl⟩
        clear HPM
        go_wp2_with fail
        first | go_ret | skip
        exact HE.out
end Go.Proofs.YtfkhfjefddgkoaaDoor

namespace Go.Proofs.YtfkhfjefddgkoaaDoor
open Go.RowKit

theorem mapS_at {ss : List Seg} (hg : Good ss) {s p a : Int} (hs : 1 ≤ s ∧ s ≤ 1048576) (hp : 0 ≤ p ∧ p ≤ 7) (h : gapS s 4096 ss = some a) : (mapAtS ss a s p).1 = 0 := by
  obtain ⟨g1, g2, g3, g4⟩ := gapS_free hg (fun x hx => (hg.fit x hx).1) h
  have g5 := g4 (by omega)
  unfold mapAtS
  have h1 : sizeB s = true := by unfold sizeB; simp; omega
  have h2 : permB p = true := by unfold permB; simp; omega
  have h3 : startB a s = true := by unfold startB; simp; omega
  rw [h1, h2, h3, if_pos (show (true && (true && true)) = true from rfl), if_pos g3]
def MapDD (w : World) (B g : Nat) (A : Option Addr) (rs : List Raw) (ss : List Seg) (s p : Int) (e : Ending) (w' : World) : Prop :=
  e = .returned (.tuple #[.int .i64 (mapS ss s p).1, .int .i64 (mapS ss s p).2.1]) ∧ (((mapS ss s p).2.1 ≠ 0 ∧ Moved w w' B g A rs (segs rs)) ∨ ((mapS ss s p).2.1 = 0 ∧ Moved w w' B g A rs (segs rs ++ [newS (mapS ss s p).1 (up s) p])))
set_option maxRecDepth 100000 in
set_option maxHeartbeats 2000000 in
theorem rMap_any (B g : Nat) (A : Option Addr) (c : Nat) (rs : List Raw) (ss : List Seg) (s p : Int) (hg : Good ss) (hp : (segs rs).Perm ss) (w : World) (h : Seen w g A c rs) (hdp : Dp w B g A c rs) :
    Calls Tryd.prog 61 #[.pointer (some ⟨g, 0, none⟩), .int .i64 s, .int .i64 p] w (MapDD w B g A rs ss s p) := by
  have HZ := Lib.hid (rSized_any s w)
  have HPM := Lib.hid (rPerm_any p w)
  have HN : Hid ((sizeB s && permB p) = false → MapDD w B g A rs ss s p (.returned (.tuple #[.int .i64 0, .int .i64 1])) w) := Lib.hid fun hno => by
    unfold MapDD mapS
    rw [if_neg (by rw [hno]; decide)]
    exact ⟨rfl, .inl ⟨by show (1 : Int) ≠ 0; decide, Moved.stay hdp (Below.refl _ _)⟩⟩
  cases hsb : sizeB s with
  | false =>
    rw [hsb] at HZ HN
    generalize MapDD w B g A rs ss s p = L at *
    clear h hdp hg hp
    go_enter Tryd.func61, Tryd.ntmps61
    go_wp2_with fail
    refine HZ.out.mono ?_
    rintro e w1 ⟨rfl, rfl⟩
    clear HZ
    go_wp2_with fail
    first | go_ret2 | skip
    exact HN.out rfl
  | true =>
    have hs := size_of hsb
    rw [hsb] at HZ HN
    cases hpb : permB p with
    | false =>
      rw [hpb] at HPM HN
      generalize MapDD w B g A rs ss s p = L at *
      clear h hdp hg hp
      go_enter Tryd.func61, Tryd.ntmps61
      go_wp2_with fail
      refine HZ.out.mono ?_
      rintro e w1 ⟨rfl, rfl⟩
      clear HZ
      go_wp2_with fail
      refine HPM.out.mono ?_
      rintro e w1 ⟨rfl, rfl⟩
      clear HPM
      go_wp2_with fail
      first | go_ret2 | skip
      exact HN.out rfl
    | true =>
      have hpp := perm_of hpb
      rw [hpb] at HPM
      have HG := Lib.hid (rGap_any g A c rs ss s hg hp w h)
      have htt : (sizeB s && permB p) = true := by rw [hsb, hpb]; rfl
      cases hgp : gapS s 4096 ss with
      | none =>
        have HE : Hid (∀ w', Below w.heap.size w w' → MapDD w B g A rs ss s p (.returned (.tuple #[.int .i64 0, .int .i64 3])) w') := Lib.hid fun w' hb => by
          unfold MapDD mapS
          rw [if_pos htt, hgp]
          exact ⟨rfl, .inl ⟨by show (3 : Int) ≠ 0; decide, Moved.stay hdp hb⟩⟩
        have hga : gapA ss s = (0, 3) := by unfold gapA; rw [if_pos hsb, hgp]
        unfold GapD at HG
        rw [hga] at HG
        generalize MapDD w B g A rs ss s p = L at *
        clear h hdp hg hp HN hga hgp htt
        go_enter Tryd.func61, Tryd.ntmps61
        go_wp2_with fail
        refine HZ.out.mono ?_
        rintro e w1 ⟨rfl, rfl⟩
        clear HZ
        go_wp2_with fail
        refine HPM.out.mono ?_
        rintro e w1 ⟨rfl, rfl⟩
        clear HPM
        go_wp2_with fail
        refine HG.out.mono ?_
        rintro e w1 ⟨rfl, hb⟩
        have HB := Lib.hid hb
        clear HG hb
        go_wp2_with fail
        first | go_ret2 | skip
        exact HE.out _ HB.out
      | some a =>
        have hm0 := mapS_at hg hs hpp hgp
        have HM : Hid (∀ w', Below w.heap.size w w' → Calls Tryd.prog 18 #[.pointer (some ⟨g, 0, none⟩), .int .i64 a, .int .i64 s, .int .i64 p] w' (fun e w2 => e = .returned (.int .i64 0) ∧ Moved w' w2 B g A rs (segs rs ++ [newS a (up s) p]))) := Lib.hid fun w' hb =>
          (rMapAt_any B g A c rs ss a s p hg hp w' (h.below hb) (hdp.beside (Beside.of_below hb (fun _ => False)) fun _ _ e => e)).mono fun e w2 hh => by
            obtain ⟨h1, h2⟩ := hh
            rw [hm0] at h1 h2
            rcases h2 with h2 | h2
            · exact absurd rfl h2.1
            · exact ⟨h1, h2.2⟩
        have HE : Hid (∀ w', Moved w w' B g A rs (segs rs ++ [newS a (up s) p]) → MapDD w B g A rs ss s p (.returned (.tuple #[.int .i64 a, .int .i64 0])) w') := Lib.hid fun w' hm => by
          unfold MapDD mapS
          rw [if_pos htt, hgp]
          exact ⟨rfl, .inr ⟨rfl, hm⟩⟩
        have hga : gapA ss s = (a, 0) := by unfold gapA; rw [if_pos hsb, hgp]
        unfold GapD at HG
        rw [hga] at HG
        generalize MapDD w B g A rs ss s p = L at *
        clear h hdp hg hp HN hga hgp htt hm0
        go_enter Tryd.func61, Tryd.ntmps61
        go_wp2_with fail
        refine HZ.out.mono ?_
        rintro e w1 ⟨rfl, rfl⟩
        clear HZ
        go_wp2_with fail
        refine HPM.out.mono ?_
        rintro e w1 ⟨rfl, rfl⟩
        clear HPM
        go_wp2_with fail
        refine HG.out.mono ?_
        rintro e w1 ⟨rfl, hb⟩
        have HB := Lib.hid hb
        have HM2 := Lib.hid (HM.out w1 hb)
        clear HG hb HM
        go_wp2_with fail
        refine HM2.out.mono ?_
        rintro e w2 ⟨rfl, hm⟩
        have HR := Lib.hid (HE.out w2 (hm.from HB.out))
        clear HM2 hm HE
        go_wp2_with fail
        first | go_ret2 | skip
        exact HR.out
end Go.Proofs.YtfkhfjefddgkoaaDoor
