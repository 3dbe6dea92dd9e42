/- A part of the proof. -/
import Derived.Test.YtfljignkjmabpaaGreatZRC
set_option linter.unusedSimpArgs false
set_option linter.unusedVariables false
namespace Go.Proofs.YtfljignkjmabpaaGreat
set_option maxRecDepth 100000
open Go.RowKit
def RX (G g gr n : Nat) (ty : TypeId) (X : World) : Prop := (∃ b t, Ri X G g b t) ∧ (∃ cs : Array Value, cs.size = n ∧ Bx X gr cs ty) ∧ g < G ∧ G < gr
theorem RX.on {G g gr n : Nat} {ty : TypeId} {X Y : World} {b : Bool} {t : St} (h : RX G g gr n ty X) (hr : Ri Y G g b t) (hk : Kr G g X Y) : RX G g gr n ty Y := by
 obtain ⟨h1, ⟨cs, h2, h3⟩, h4, h5⟩ := h
 exact ⟨⟨b, t, hr⟩, ⟨cs, h2, hk.bx h3 (by omega) (by omega)⟩, h4, h5⟩
theorem RX.start {G g : Nat} {w : World} {b : Bool} {t : St} {ty : TypeId} (cs : Array Value) (h : Ri w G g b t) : RX G g w.heap.size cs.size ty (w.alloc (.cells cs ty)) :=
 ⟨⟨b, t, h.below ((Below.refl _ _).alloc (Nat.le_refl _) _)⟩, ⟨cs, rfl, Bx.new _ _ _⟩, h.lt, h.gt⟩
theorem RX.drew {G g gr n : Nat} {ty : TypeId} {X : World} (h : RX G g gr n ty X) : RX G g gr n ty X.drew := by
 obtain ⟨⟨b, t, h1⟩, ⟨cs, h2, h3⟩, h4, h5⟩ := h
 exact ⟨⟨b, t, h1.below (drew_below X)⟩, ⟨cs, h2, h3.below (drew_below X)⟩, h4, h5⟩
theorem Ri.row {G g gr : Nat} {b : Bool} {t : St} {X : World} (h : Ri X G g b t) (hG : G < gr) (cs : Array Value) : Ri (X.setRow gr cs) G g b t :=
 h.keep (fun k hk => setRow_other X gr k cs (by have := h.lt; omega)) (setRow_other X gr G cs (by omega))
theorem Kr.row {G g gr : Nat} {w X : World} (h : Kr G g w X) (hg : w.heap.size ≤ gr) (cs : Array Value) : Kr G g w (X.setRow gr cs) :=
 ⟨h.os, h.tape, h.output, by rw [setRow_size]; exact h.size, fun k hk h1 h2 => (setRow_other X gr k cs (by omega)).trans (h.block k hk h1 h2)⟩
theorem RX.row {G g gr n : Nat} {ty : TypeId} {X : World} (h : RX G g gr n ty X) (cs : Array Value) (hn : cs.size = n) : RX G g gr n ty (X.setRow gr cs) := by
 obtain ⟨⟨b, t, h1⟩, ⟨c0, h2, h3⟩, h4, h5⟩ := h
 exact ⟨⟨b, t, h1.row h5 cs⟩, ⟨cs, hn, setRow_heap X gr c0 cs ty (0, 0) h3⟩, h4, h5⟩
theorem RX.lt {G g gr n : Nat} {ty : TypeId} {X : World} (h : RX G g gr n ty X) : gr < X.heap.size := by
 obtain ⟨-, ⟨cs, h2, h3⟩, -⟩ := h
 exact h3.lt
theorem src_row {X : World} {gr base n c : Nat} {A : Option Addr} {xs : List Value} (h : X.ownsRow base 5 1 (.slice A n c) n xs) (hb : gr < base) (cs : Array Value) : Src (X.setRow gr cs) (fun k => gr ≤ k ∧ k < (X.setRow gr cs).heap.size) A n c xs := by
 refine ((Src.of_own h).keep fun k hk _ => setRow_other X gr k cs (by omega)).weak fun k hk => ?_
 rw [setRow_size]
 omega
theorem or3 (a b c d : Bool) : (a || (false || (false || (false || (false || (b || (c || (d || (false || false))))))))) = (((a || b) || c) || d) := by cases a <;> cases b <;> cases c <;> cases d <;> rfl
theorem RX.put {G g gr n : Nat} {ty : TypeId} {X : World} (h : RX G g gr n ty X) (cs : Array Value) : Bx (X.setRow gr cs) gr cs ty := by
 obtain ⟨-, ⟨c0, h2, h3⟩, -⟩ := h
 exact setRow_heap X gr c0 cs ty (0, 0) h3
theorem Tryz.info_rslot : (Tryz.prog.info? 112).map (·.size) = some 3 := by kernel_rfl
set_option maxHeartbeats 2000000 in
theorem rslot_any {G g : Nat} {bad : Bool} {s : St} (w : World) (h : Ri w G g bad s) : Calls Tryz.prog 51 #[.pointer (some ⟨G, 0, none⟩)] w (ItrlSlot w G g bad s) := by
 have HS0 := hD (RX.start (ty := 112) #[.int .i64 0, .int .i64 0, .int .i64 0] h)
 have hbx : Below w.heap.size w (w.alloc (.cells #[.int .i64 0, .int .i64 0, .int .i64 0] 112)) := (Below.refl _ _).alloc (Nat.le_refl _) _
 have HR0 := hD (h.below hbx)
 have HK0 := hD (show Kr G g w (w.alloc (.cells #[.int .i64 0, .int .i64 0, .int .i64 0] 112)) from Kr.of_below hbx)
 have hsz := h.gt
 have HZ := hD hbx.size
 clear h hbx
 go_enter Tryz.func51, Tryz.ntmps51
 go_upto_region 1 with (fail)
 change Code.wp _ _ _ _ (w.alloc (.cells #[.int .i64 0, .int .i64 0, .int .i64 0] 112))
 generalize w.alloc (.cells #[.int .i64 0, .int .i64 0, .int .i64 0] 112) = w1 at *
 generalize hgr : w.heap.size = gr at *
 refine wp_region_held_drew (S := RX G g gr 3 112) (by kernel_rfl) HS0.out.drew (fun hHeld0 => ?_)
 refine tkI 0 3 (.pointer (some ⟨G, 0, none⟩)) ?_
 simp only [Act.put, zI, zJ, zK]
 refine tkI 1 4 (.pointer (some ⟨G, 0, none⟩)) ?_
 simp only [Act.put, zI, zJ, zK]
 refine tkI 2 5 (.pointer (some ⟨G, 0, none⟩)) ?_
 simp only [Act.put, zI, zJ, zK]
 refine tjI 3 6 (.pointer (some ⟨g, 0, none⟩)) ?_ ?_
 ·
  intro X hX; obtain ⟨⟨b, t, hW⟩, hB⟩ := hX; have hc := hW.c0; go_simp
 (try simp only [Act.put, zI, zJ, zK])
 refine tkI 5 8 (.pointer (some ⟨G, 0, none⟩)) ?_
 simp only [Act.put, zI, zJ, zK]
 refine tkI 6 9 (.pointer (some ⟨G, 0, none⟩)) ?_
 simp only [Act.put, zI, zJ, zK]
 refine tkI 7 10 (.pointer (some ⟨G, 0, none⟩)) ?_
 simp only [Act.put, zI, zJ, zK]
 refine tjI 8 11 (.pointer (some ⟨g, 0, none⟩)) ?_ ?_
 ·
  intro X hX; obtain ⟨⟨b, t, hW⟩, hB⟩ := hX; have hc := hW.c0; go_simp
 (try simp only [Act.put, zI, zJ, zK])
 refine tkI 10 13 (.pointer (some ⟨G, 0, none⟩)) ?_
 simp only [Act.put, zI, zJ, zK]
 refine tkI 11 14 (.pointer (some ⟨G, 0, none⟩)) ?_
 simp only [Act.put, zI, zJ, zK]
 refine tkI 12 15 (.pointer (some ⟨G, 0, none⟩)) ?_
 simp only [Act.put, zI, zJ, zK]
 refine tjI 13 16 (.pointer (some ⟨g, 0, none⟩)) ?_ ?_
 ·
  intro X hX; obtain ⟨⟨b, t, hW⟩, hB⟩ := hX; have hc := hW.c0; go_simp
 (try simp only [Act.put, zI, zJ, zK])
 refine rYI 4 fun K hK => ?_
 go_simp
 refine ((HR0.out.below (drew_below w1)).num 4).mono ?_
 rintro en w10 ⟨rfl, h1, h2⟩
 have HR1 := hD h1; have HK1 := hD h2
 go_simp
 refine hK.out _ _ (hHeld0.on h1 h2) (fun hHeld1 => ?_)
 clear hK K
 (try simp only [Act.put, zI, zJ, zK])
 refine rYI 9 fun K hK => ?_
 go_simp
 refine (HR1.out.num 4).mono ?_
 rintro en w20 ⟨rfl, h1, h2⟩
 have HR2 := hD h1; have HK2 := hD h2
 go_simp
 refine hK.out _ _ (hHeld1.on h1 h2) (fun hHeld2 => ?_)
 clear hK K
 (try simp only [Act.put, zI, zJ, zK])
 refine rYI 14 fun K hK => ?_
 go_simp
 refine (HR2.out.num 4).mono ?_
 rintro en w30 ⟨rfl, h1, h2⟩
 have HR3 := hD h1; have HK3 := hD h2
 go_simp
 refine hK.out _ _ (hHeld2.on h1 h2) (fun hHeld3 => ?_)
 clear hK K
 (try simp only [Act.put, zI, zJ, zK])
 refine tkI 15 18 (.agg #[.int .i64 (rNum 4 (s)).1, .int .i64 (rNum 4 ((rNum 4 (s)).2)).1, .int .i64 (rNum 4 ((rNum 4 ((rNum 4 (s)).2)).2)).1]) ?_
 simp only [Act.put, zI, zJ, zK]
 refine rYI 16 fun K hK => ?_
 rw [if_pos (by rfl)]
 obtain ⟨cs0, hcs, hB0⟩ := hHeld3.2.1
 refine wp_store_row 112 (.tmp 2) (.tmp 18) rfl gr #[.int .i64 (rNum 4 (s)).1, .int .i64 (rNum 4 ((rNum 4 (s)).2)).1, .int .i64 (rNum 4 ((rNum 4 ((rNum 4 (s)).2)).2)).1] rfl rfl 112 cs0 hB0 Tryz.info_rslot (by rw [hcs]; rfl) (by simp [Value.oneCell']) ?_
 refine hK.out _ _ (hHeld3.row _ rfl) (fun hHeldZ => ?_)
 clear hK K
 refine wpAnyH_done (by kernel_rfl) ?_ _
 have HRZ := hD (HR3.out.row (gr := gr) hHeld3.2.2.2 #[.int .i64 (rNum 4 (s)).1, .int .i64 (rNum 4 ((rNum 4 (s)).2)).1, .int .i64 (rNum 4 ((rNum 4 ((rNum 4 (s)).2)).2)).1])
 have HKZ := hD (Kr.row (gr := gr) ((((HK0.out.trans (Kr.of_below (drew_below w1))).trans HK1.out).trans HK2.out).trans HK3.out) (by omega) #[.int .i64 (rNum 4 (s)).1, .int .i64 (rNum 4 ((rNum 4 (s)).2)).1, .int .i64 (rNum 4 ((rNum 4 ((rNum 4 (s)).2)).2)).1])
 have hBZ := hHeld3.put #[.int .i64 (rNum 4 (s)).1, .int .i64 (rNum 4 ((rNum 4 (s)).2)).1, .int .i64 (rNum 4 ((rNum 4 ((rNum 4 (s)).2)).2)).1]
 clear hB0 hcs
 generalize (World.setRow w30 gr #[.int .i64 (rNum 4 (s)).1, .int .i64 (rNum 4 ((rNum 4 (s)).2)).1, .int .i64 (rNum 4 ((rNum 4 ((rNum 4 (s)).2)).2)).1]) = wz at *
 have e0 := hBZ.c 0
 have e1 := hBZ.c 1
 have e2 := hBZ.c 2
 simp only [gA, gB, gC] at e0 e1 e2
 clear hBZ
 go_wp2_with fail
 refine bodyPost_ret (v := .agg #[.int .i64 (rNum 4 (s)).1, .int .i64 (rNum 4 ((rNum 4 (s)).2)).1, .int .i64 (rNum 4 ((rNum 4 ((rNum 4 (s)).2)).2)).1]) (by simp [results, Tryz.results51, go_sem, e0, e1, e2]) rfl ?_
 exact ⟨(rdSl s).1, (none, 0), rfl, trivial, fun _ => rfl, by rw [show (bad || (rdSl s).2.1) = bad from Bool.or_false bad]; exact HRZ.out, HKZ.out⟩
theorem Tryz.info_rreloc : (Tryz.prog.info? 57).map (·.size) = some 4 := by kernel_rfl
set_option maxHeartbeats 2000000 in
theorem rreloc_any {G g : Nat} {bad : Bool} {s : St} (w : World) (h : Ri w G g bad s) : Calls Tryz.prog 49 #[.pointer (some ⟨G, 0, none⟩)] w (ItrlRel w G g bad s) := by
 have HS0 := hD (RX.start (ty := 57) #[.int .i64 0, .int .i64 0, .int .i64 0, .int .i64 0] h)
 have hbx : Below w.heap.size w (w.alloc (.cells #[.int .i64 0, .int .i64 0, .int .i64 0, .int .i64 0] 57)) := (Below.refl _ _).alloc (Nat.le_refl _) _
 have HR0 := hD (h.below hbx)
 have HK0 := hD (show Kr G g w (w.alloc (.cells #[.int .i64 0, .int .i64 0, .int .i64 0, .int .i64 0] 57)) from Kr.of_below hbx)
 have hsz := h.gt
 have HZ := hD hbx.size
 clear h hbx
 go_enter Tryz.func49, Tryz.ntmps49
 go_upto_region 1 with (fail)
 change Code.wp _ _ _ _ (w.alloc (.cells #[.int .i64 0, .int .i64 0, .int .i64 0, .int .i64 0] 57))
 generalize w.alloc (.cells #[.int .i64 0, .int .i64 0, .int .i64 0, .int .i64 0] 57) = w1 at *
 generalize hgr : w.heap.size = gr at *
 refine wp_region_held_drew (S := RX G g gr 4 57) (by kernel_rfl) HS0.out.drew (fun hHeld0 => ?_)
 refine tkI 0 3 (.pointer (some ⟨G, 0, none⟩)) ?_
 simp only [Act.put, zI, zJ, zK]
 refine tkI 1 4 (.pointer (some ⟨G, 0, none⟩)) ?_
 simp only [Act.put, zI, zJ, zK]
 refine tkI 2 5 (.pointer (some ⟨G, 0, none⟩)) ?_
 simp only [Act.put, zI, zJ, zK]
 refine tjI 3 6 (.pointer (some ⟨g, 0, none⟩)) ?_ ?_
 ·
  intro X hX; obtain ⟨⟨b, t, hW⟩, hB⟩ := hX; have hc := hW.c0; go_simp
 (try simp only [Act.put, zI, zJ, zK])
 refine tkI 5 8 (.pointer (some ⟨G, 0, none⟩)) ?_
 simp only [Act.put, zI, zJ, zK]
 refine tkI 6 9 (.pointer (some ⟨G, 0, none⟩)) ?_
 simp only [Act.put, zI, zJ, zK]
 refine tkI 7 10 (.pointer (some ⟨G, 0, none⟩)) ?_
 simp only [Act.put, zI, zJ, zK]
 refine tjI 8 11 (.pointer (some ⟨g, 0, none⟩)) ?_ ?_
 ·
  intro X hX; obtain ⟨⟨b, t, hW⟩, hB⟩ := hX; have hc := hW.c0; go_simp
 (try simp only [Act.put, zI, zJ, zK])
 refine tkI 10 13 (.pointer (some ⟨G, 0, none⟩)) ?_
 simp only [Act.put, zI, zJ, zK]
 refine tkI 11 14 (.pointer (some ⟨G, 0, none⟩)) ?_
 simp only [Act.put, zI, zJ, zK]
 refine tkI 12 15 (.pointer (some ⟨G, 0, none⟩)) ?_
 simp only [Act.put, zI, zJ, zK]
 refine tjI 13 16 (.pointer (some ⟨g, 0, none⟩)) ?_ ?_
 ·
  intro X hX; obtain ⟨⟨b, t, hW⟩, hB⟩ := hX; have hc := hW.c0; go_simp
 (try simp only [Act.put, zI, zJ, zK])
 refine tkI 15 18 (.pointer (some ⟨G, 0, none⟩)) ?_
 simp only [Act.put, zI, zJ, zK]
 refine tkI 16 19 (.pointer (some ⟨G, 0, none⟩)) ?_
 simp only [Act.put, zI, zJ, zK]
 refine tkI 17 20 (.pointer (some ⟨G, 0, none⟩)) ?_
 simp only [Act.put, zI, zJ, zK]
 refine tjI 18 21 (.pointer (some ⟨g, 0, none⟩)) ?_ ?_
 ·
  intro X hX; obtain ⟨⟨b, t, hW⟩, hB⟩ := hX; have hc := hW.c0; go_simp
 (try simp only [Act.put, zI, zJ, zK])
 refine rYI 4 fun K hK => ?_
 go_simp
 refine ((HR0.out.below (drew_below w1)).num 1).mono ?_
 rintro en w10 ⟨rfl, h1, h2⟩
 have HR1 := hD h1; have HK1 := hD h2
 go_simp
 refine hK.out _ _ (hHeld0.on h1 h2) (fun hHeld1 => ?_)
 clear hK K
 (try simp only [Act.put, zI, zJ, zK])
 refine rYI 9 fun K hK => ?_
 go_simp
 refine (HR1.out.num 8).mono ?_
 rintro en w20 ⟨rfl, h1, h2⟩
 have HR2 := hD h1; have HK2 := hD h2
 go_simp
 refine hK.out _ _ (hHeld1.on h1 h2) (fun hHeld2 => ?_)
 clear hK K
 (try simp only [Act.put, zI, zJ, zK])
 refine rYI 14 fun K hK => ?_
 go_simp
 refine (HR2.out.num 8).mono ?_
 rintro en w30 ⟨rfl, h1, h2⟩
 have HR3 := hD h1; have HK3 := hD h2
 go_simp
 refine hK.out _ _ (hHeld2.on h1 h2) (fun hHeld3 => ?_)
 clear hK K
 (try simp only [Act.put, zI, zJ, zK])
 refine rYI 19 fun K hK => ?_
 go_simp
 refine (HR3.out.num 8).mono ?_
 rintro en w40 ⟨rfl, h1, h2⟩
 have HR4 := hD h1; have HK4 := hD h2
 go_simp
 refine hK.out _ _ (hHeld3.on h1 h2) (fun hHeld4 => ?_)
 clear hK K
 (try simp only [Act.put, zI, zJ, zK])
 refine tkI 20 23 (.agg #[.int .i64 (rNum 8 ((rNum 1 (s)).2)).1, .int .i64 (rNum 1 (s)).1, .int .i64 (rNum 8 ((rNum 8 ((rNum 1 (s)).2)).2)).1, .int .i64 (rNum 8 ((rNum 8 ((rNum 8 ((rNum 1 (s)).2)).2)).2)).1]) ?_
 simp only [Act.put, zI, zJ, zK]
 refine rYI 21 fun K hK => ?_
 rw [if_pos (by rfl)]
 obtain ⟨cs0, hcs, hB0⟩ := hHeld4.2.1
 refine wp_store_row 57 (.tmp 2) (.tmp 23) rfl gr #[.int .i64 (rNum 8 ((rNum 1 (s)).2)).1, .int .i64 (rNum 1 (s)).1, .int .i64 (rNum 8 ((rNum 8 ((rNum 1 (s)).2)).2)).1, .int .i64 (rNum 8 ((rNum 8 ((rNum 8 ((rNum 1 (s)).2)).2)).2)).1] rfl rfl 57 cs0 hB0 Tryz.info_rreloc (by rw [hcs]; rfl) (by simp [Value.oneCell']) ?_
 refine hK.out _ _ (hHeld4.row _ rfl) (fun hHeldZ => ?_)
 clear hK K
 refine wpAnyH_done (by kernel_rfl) ?_ _
 have HRZ := hD (HR4.out.row (gr := gr) hHeld4.2.2.2 #[.int .i64 (rNum 8 ((rNum 1 (s)).2)).1, .int .i64 (rNum 1 (s)).1, .int .i64 (rNum 8 ((rNum 8 ((rNum 1 (s)).2)).2)).1, .int .i64 (rNum 8 ((rNum 8 ((rNum 8 ((rNum 1 (s)).2)).2)).2)).1])
 have HKZ := hD (Kr.row (gr := gr) (((((HK0.out.trans (Kr.of_below (drew_below w1))).trans HK1.out).trans HK2.out).trans HK3.out).trans HK4.out) (by omega) #[.int .i64 (rNum 8 ((rNum 1 (s)).2)).1, .int .i64 (rNum 1 (s)).1, .int .i64 (rNum 8 ((rNum 8 ((rNum 1 (s)).2)).2)).1, .int .i64 (rNum 8 ((rNum 8 ((rNum 8 ((rNum 1 (s)).2)).2)).2)).1])
 have hBZ := hHeld4.put #[.int .i64 (rNum 8 ((rNum 1 (s)).2)).1, .int .i64 (rNum 1 (s)).1, .int .i64 (rNum 8 ((rNum 8 ((rNum 1 (s)).2)).2)).1, .int .i64 (rNum 8 ((rNum 8 ((rNum 8 ((rNum 1 (s)).2)).2)).2)).1]
 clear hB0 hcs
 generalize (World.setRow w40 gr #[.int .i64 (rNum 8 ((rNum 1 (s)).2)).1, .int .i64 (rNum 1 (s)).1, .int .i64 (rNum 8 ((rNum 8 ((rNum 1 (s)).2)).2)).1, .int .i64 (rNum 8 ((rNum 8 ((rNum 8 ((rNum 1 (s)).2)).2)).2)).1]) = wz at *
 have e0 := hBZ.c 0
 have e1 := hBZ.c 1
 have e2 := hBZ.c 2
 have e3 := hBZ.c 3
 simp only [gA, gB, gC] at e0 e1 e2 e3
 clear hBZ
 go_wp2_with fail
 refine bodyPost_ret (v := .agg #[.int .i64 (rNum 8 ((rNum 1 (s)).2)).1, .int .i64 (rNum 1 (s)).1, .int .i64 (rNum 8 ((rNum 8 ((rNum 1 (s)).2)).2)).1, .int .i64 (rNum 8 ((rNum 8 ((rNum 8 ((rNum 1 (s)).2)).2)).2)).1]) (by simp [results, Tryz.results49, go_sem, e0, e1, e2, e3]) rfl ?_
 exact ⟨(rdRl s).1, (none, 0), rfl, trivial, fun _ => rfl, by rw [show (bad || (rdRl s).2.1) = bad from Bool.or_false bad]; exact HRZ.out, HKZ.out⟩
theorem Tryz.info_rseg : (Tryz.prog.info? 61).map (·.size) = some 4 := by kernel_rfl
set_option maxHeartbeats 2000000 in
theorem rseg_any {G g : Nat} {bad : Bool} {s : St} (w : World) (h : Ri w G g bad s) : Calls Tryz.prog 41 #[.pointer (some ⟨G, 0, none⟩)] w (ItrlSeg w G g bad s) := by
 have HS0 := hD (RX.start (ty := 61) #[.int .i64 0, .int .i64 0, .slice none 0 0, .int .i64 0] h)
 have hbx : Below w.heap.size w (w.alloc (.cells #[.int .i64 0, .int .i64 0, .slice none 0 0, .int .i64 0] 61)) := (Below.refl _ _).alloc (Nat.le_refl _) _
 have HR0 := hD (h.below hbx)
 have HK0 := hD (show Kr G g w (w.alloc (.cells #[.int .i64 0, .int .i64 0, .slice none 0 0, .int .i64 0] 61)) from Kr.of_below hbx)
 have hsz := h.gt
 have HZ := hD hbx.size
 clear h hbx
 go_enter Tryz.func41, Tryz.ntmps41
 go_upto_region 1 with (fail)
 change Code.wp _ _ _ _ (w.alloc (.cells #[.int .i64 0, .int .i64 0, .slice none 0 0, .int .i64 0] 61))
 generalize w.alloc (.cells #[.int .i64 0, .int .i64 0, .slice none 0 0, .int .i64 0] 61) = w1 at *
 generalize hgr : w.heap.size = gr at *
 refine wp_region_held_drew (S := RX G g gr 4 61) (by kernel_rfl) HS0.out.drew (fun hHeld0 => ?_)
 refine tkI 0 3 (.pointer (some ⟨G, 0, none⟩)) ?_
 simp only [Act.put, zI, zJ, zK]
 refine tkI 1 4 (.pointer (some ⟨G, 0, none⟩)) ?_
 simp only [Act.put, zI, zJ, zK]
 refine tkI 2 5 (.pointer (some ⟨G, 0, none⟩)) ?_
 simp only [Act.put, zI, zJ, zK]
 refine tjI 3 6 (.pointer (some ⟨g, 0, none⟩)) ?_ ?_
 ·
  intro X hX; obtain ⟨⟨b, t, hW⟩, hB⟩ := hX; have hc := hW.c0; go_simp
 (try simp only [Act.put, zI, zJ, zK])
 refine tkI 5 8 (.pointer (some ⟨G, 0, none⟩)) ?_
 simp only [Act.put, zI, zJ, zK]
 refine tkI 6 9 (.pointer (some ⟨G, 0, none⟩)) ?_
 simp only [Act.put, zI, zJ, zK]
 refine tkI 7 10 (.pointer (some ⟨G, 0, none⟩)) ?_
 simp only [Act.put, zI, zJ, zK]
 refine tjI 8 11 (.pointer (some ⟨g, 0, none⟩)) ?_ ?_
 ·
  intro X hX; obtain ⟨⟨b, t, hW⟩, hB⟩ := hX; have hc := hW.c0; go_simp
 (try simp only [Act.put, zI, zJ, zK])
 refine tkI 10 13 (.pointer (some ⟨G, 0, none⟩)) ?_
 simp only [Act.put, zI, zJ, zK]
 refine tkI 11 14 (.pointer (some ⟨G, 0, none⟩)) ?_
 simp only [Act.put, zI, zJ, zK]
 refine tkI 12 15 (.pointer (some ⟨G, 0, none⟩)) ?_
 simp only [Act.put, zI, zJ, zK]
 refine tjI 13 16 (.pointer (some ⟨g, 0, none⟩)) ?_ ?_
 ·
  intro X hX; obtain ⟨⟨b, t, hW⟩, hB⟩ := hX; have hc := hW.c0; go_simp
 (try simp only [Act.put, zI, zJ, zK])
 refine tkI 15 18 (.pointer (some ⟨G, 0, none⟩)) ?_
 simp only [Act.put, zI, zJ, zK]
 refine tkI 16 19 (.pointer (some ⟨G, 0, none⟩)) ?_
 simp only [Act.put, zI, zJ, zK]
 refine tkI 17 20 (.pointer (some ⟨G, 0, none⟩)) ?_
 simp only [Act.put, zI, zJ, zK]
 refine tjI 18 21 (.pointer (some ⟨g, 0, none⟩)) ?_ ?_
 ·
  intro X hX; obtain ⟨⟨b, t, hW⟩, hB⟩ := hX; have hc := hW.c0; go_simp
 (try simp only [Act.put, zI, zJ, zK])
 refine rYI 4 fun K hK => ?_
 go_simp
 refine ((HR0.out.below (drew_below w1)).num 4).mono ?_
 rintro en w10 ⟨rfl, h1, h2⟩
 have HR1 := hD h1; have HK1 := hD h2
 go_simp
 refine hK.out _ _ (hHeld0.on h1 h2) (fun hHeld1 => ?_)
 clear hK K
 (try simp only [Act.put, zI, zJ, zK])
 refine rYI 9 fun K hK => ?_
 go_simp
 refine (HR1.out.num 4).mono ?_
 rintro en w20 ⟨rfl, h1, h2⟩
 have HR2 := hD h1; have HK2 := hD h2
 go_simp
 refine hK.out _ _ (hHeld1.on h1 h2) (fun hHeld2 => ?_)
 clear hK K
 (try simp only [Act.put, zI, zJ, zK])
 refine rYI 14 fun K hK => ?_
 go_simp
 refine (HR2.out.num 1).mono ?_
 rintro en w30 ⟨rfl, h1, h2⟩
 have HR3 := hD h1; have HK3 := hD h2
 go_simp
 refine hK.out _ _ (hHeld2.on h1 h2) (fun hHeld3 => ?_)
 clear hK K
 (try simp only [Act.put, zI, zJ, zK])
 refine rYI 19 fun K hK => ?_
 go_simp
 refine (HR3.out.block).mono ?_
 rintro en w40 ⟨A4, c4, rfl, ho, h1, h2⟩
 have HR4 := hD h1; have HK4 := hD h2; have HO4 := hD ho
 go_simp
 refine hK.out _ _ (hHeld3.on h1 h2) (fun hHeld4 => ?_)
 clear hK K
 (try simp only [Act.put, zI, zJ, zK])
 refine tkI 20 23 (.agg #[.int .i64 (rNum 4 (s)).1, .int .i64 (rNum 4 ((rNum 4 (s)).2)).1, .slice A4 (rMeas 4 1048576 ((rNum 1 ((rNum 4 ((rNum 4 (s)).2)).2)).2)).1.length c4, .int .i64 (rNum 1 ((rNum 4 ((rNum 4 (s)).2)).2)).1]) ?_
 simp only [Act.put, zI, zJ, zK]
 refine rYI 21 fun K hK => ?_
 rw [if_pos (by rfl)]
 obtain ⟨cs0, hcs, hB0⟩ := hHeld4.2.1
 refine wp_store_row 61 (.tmp 2) (.tmp 23) rfl gr #[.int .i64 (rNum 4 (s)).1, .int .i64 (rNum 4 ((rNum 4 (s)).2)).1, .slice A4 (rMeas 4 1048576 ((rNum 1 ((rNum 4 ((rNum 4 (s)).2)).2)).2)).1.length c4, .int .i64 (rNum 1 ((rNum 4 ((rNum 4 (s)).2)).2)).1] rfl rfl 61 cs0 hB0 Tryz.info_rseg (by rw [hcs]; rfl) (by simp [Value.oneCell']) ?_
 refine hK.out _ _ (hHeld4.row _ rfl) (fun hHeldZ => ?_)
 clear hK K
 refine wpAnyH_done (by kernel_rfl) ?_ _
 have HRZ := hD (HR4.out.row (gr := gr) hHeld4.2.2.2 #[.int .i64 (rNum 4 (s)).1, .int .i64 (rNum 4 ((rNum 4 (s)).2)).1, .slice A4 (rMeas 4 1048576 ((rNum 1 ((rNum 4 ((rNum 4 (s)).2)).2)).2)).1.length c4, .int .i64 (rNum 1 ((rNum 4 ((rNum 4 (s)).2)).2)).1])
 have HKZ := hD (Kr.row (gr := gr) (((((HK0.out.trans (Kr.of_below (drew_below w1))).trans HK1.out).trans HK2.out).trans HK3.out).trans HK4.out) (by omega) #[.int .i64 (rNum 4 (s)).1, .int .i64 (rNum 4 ((rNum 4 (s)).2)).1, .slice A4 (rMeas 4 1048576 ((rNum 1 ((rNum 4 ((rNum 4 (s)).2)).2)).2)).1.length c4, .int .i64 (rNum 1 ((rNum 4 ((rNum 4 (s)).2)).2)).1])
 have hBZ := hHeld4.put #[.int .i64 (rNum 4 (s)).1, .int .i64 (rNum 4 ((rNum 4 (s)).2)).1, .slice A4 (rMeas 4 1048576 ((rNum 1 ((rNum 4 ((rNum 4 (s)).2)).2)).2)).1.length c4, .int .i64 (rNum 1 ((rNum 4 ((rNum 4 (s)).2)).2)).1]
 have HDZ := hD (src_row HO4.out hHeld3.lt #[.int .i64 (rNum 4 (s)).1, .int .i64 (rNum 4 ((rNum 4 (s)).2)).1, .slice A4 (rMeas 4 1048576 ((rNum 1 ((rNum 4 ((rNum 4 (s)).2)).2)).2)).1.length c4, .int .i64 (rNum 1 ((rNum 4 ((rNum 4 (s)).2)).2)).1])
 clear hB0 hcs
 generalize (World.setRow w40 gr #[.int .i64 (rNum 4 (s)).1, .int .i64 (rNum 4 ((rNum 4 (s)).2)).1, .slice A4 (rMeas 4 1048576 ((rNum 1 ((rNum 4 ((rNum 4 (s)).2)).2)).2)).1.length c4, .int .i64 (rNum 1 ((rNum 4 ((rNum 4 (s)).2)).2)).1]) = wz at *
 have e0 := hBZ.c 0
 have e1 := hBZ.c 1
 have e2 := hBZ.c 2
 have e3 := hBZ.c 3
 simp only [gA, gB, gC] at e0 e1 e2 e3
 clear hBZ
 go_wp2_with fail
 refine bodyPost_ret (v := .agg #[.int .i64 (rNum 4 (s)).1, .int .i64 (rNum 4 ((rNum 4 (s)).2)).1, .slice A4 (rMeas 4 1048576 ((rNum 1 ((rNum 4 ((rNum 4 (s)).2)).2)).2)).1.length c4, .int .i64 (rNum 1 ((rNum 4 ((rNum 4 (s)).2)).2)).1]) (by simp [results, Tryz.results41, go_sem, e0, e1, e2, e3]) rfl ?_
 exact ⟨(rdSg s).1, (A4, c4), rfl, by rw [hgr]; exact HDZ.out, fun _ => rfl, by rw [show (bad || (rdSg s).2.1) = bad from Bool.or_false bad]; exact HRZ.out, HKZ.out⟩
theorem Tryz.info_rsymbol : (Tryz.prog.info? 105).map (·.size) = some 9 := by kernel_rfl
set_option maxHeartbeats 2000000 in
theorem rsymbol_any {G g : Nat} {bad : Bool} {s : St} (w : World) (h : Ri w G g bad s) : Calls Tryz.prog 46 #[.pointer (some ⟨G, 0, none⟩)] w (ItrlSym w G g bad s) := by
 have HS0 := hD (RX.start (ty := 105) #[.string ⟨#[]⟩, .string ⟨#[]⟩, .bool false, .int .i64 0, .bool false, .int .i64 0, .bool false, .int .i64 0, .int .i64 0] h)
 have hbx : Below w.heap.size w (w.alloc (.cells #[.string ⟨#[]⟩, .string ⟨#[]⟩, .bool false, .int .i64 0, .bool false, .int .i64 0, .bool false, .int .i64 0, .int .i64 0] 105)) := (Below.refl _ _).alloc (Nat.le_refl _) _
 have HR0 := hD (h.below hbx)
 have HK0 := hD (show Kr G g w (w.alloc (.cells #[.string ⟨#[]⟩, .string ⟨#[]⟩, .bool false, .int .i64 0, .bool false, .int .i64 0, .bool false, .int .i64 0, .int .i64 0] 105)) from Kr.of_below hbx)
 have hsz := h.gt
 have HZ := hD hbx.size
 clear h hbx
 go_enter Tryz.func46, Tryz.ntmps46
 go_upto_region 1 with (fail)
 change Code.wp _ _ _ _ (w.alloc (.cells #[.string ⟨#[]⟩, .string ⟨#[]⟩, .bool false, .int .i64 0, .bool false, .int .i64 0, .bool false, .int .i64 0, .int .i64 0] 105))
 generalize w.alloc (.cells #[.string ⟨#[]⟩, .string ⟨#[]⟩, .bool false, .int .i64 0, .bool false, .int .i64 0, .bool false, .int .i64 0, .int .i64 0] 105) = w1 at *
 generalize hgr : w.heap.size = gr at *
 refine wp_region_held_drew (S := RX G g gr 9 105) (by kernel_rfl) HS0.out.drew (fun hHeld0 => ?_)
 refine tkI 0 3 (.pointer (some ⟨G, 0, none⟩)) ?_
 simp only [Act.put, zI, zJ, zK]
 refine tkI 1 4 (.pointer (some ⟨G, 0, none⟩)) ?_
 simp only [Act.put, zI, zJ, zK]
 refine tkI 2 5 (.pointer (some ⟨G, 0, none⟩)) ?_
 simp only [Act.put, zI, zJ, zK]
 refine tjI 3 6 (.pointer (some ⟨g, 0, none⟩)) ?_ ?_
 ·
  intro X hX; obtain ⟨⟨b, t, hW⟩, hB⟩ := hX; have hc := hW.c0; go_simp
 (try simp only [Act.put, zI, zJ, zK])
 refine tkI 5 8 (.pointer (some ⟨G, 0, none⟩)) ?_
 simp only [Act.put, zI, zJ, zK]
 refine tkI 6 9 (.pointer (some ⟨G, 0, none⟩)) ?_
 simp only [Act.put, zI, zJ, zK]
 refine tkI 7 10 (.pointer (some ⟨G, 0, none⟩)) ?_
 simp only [Act.put, zI, zJ, zK]
 refine tjI 8 11 (.pointer (some ⟨g, 0, none⟩)) ?_ ?_
 ·
  intro X hX; obtain ⟨⟨b, t, hW⟩, hB⟩ := hX; have hc := hW.c0; go_simp
 (try simp only [Act.put, zI, zJ, zK])
 refine tkI 10 13 (.pointer (some ⟨G, 0, none⟩)) ?_
 simp only [Act.put, zI, zJ, zK]
 refine tkI 11 14 (.pointer (some ⟨G, 0, none⟩)) ?_
 simp only [Act.put, zI, zJ, zK]
 refine tkI 12 15 (.pointer (some ⟨G, 0, none⟩)) ?_
 simp only [Act.put, zI, zJ, zK]
 refine tjI 13 16 (.pointer (some ⟨g, 0, none⟩)) ?_ ?_
 ·
  intro X hX; obtain ⟨⟨b, t, hW⟩, hB⟩ := hX; have hc := hW.c0; go_simp
 (try simp only [Act.put, zI, zJ, zK])
 refine tkI 15 18 (.pointer (some ⟨G, 0, none⟩)) ?_
 simp only [Act.put, zI, zJ, zK]
 refine tkI 16 19 (.pointer (some ⟨G, 0, none⟩)) ?_
 simp only [Act.put, zI, zJ, zK]
 refine tkI 17 20 (.pointer (some ⟨G, 0, none⟩)) ?_
 simp only [Act.put, zI, zJ, zK]
 refine tjI 18 21 (.pointer (some ⟨g, 0, none⟩)) ?_ ?_
 ·
  intro X hX; obtain ⟨⟨b, t, hW⟩, hB⟩ := hX; have hc := hW.c0; go_simp
 (try simp only [Act.put, zI, zJ, zK])
 refine tkI 20 23 (.pointer (some ⟨G, 0, none⟩)) ?_
 simp only [Act.put, zI, zJ, zK]
 refine tkI 22 25 (.pointer (some ⟨G, 0, none⟩)) ?_
 simp only [Act.put, zI, zJ, zK]
 refine tkI 24 27 (.pointer (some ⟨G, 0, none⟩)) ?_
 simp only [Act.put, zI, zJ, zK]
 refine tkI 26 29 (.pointer (some ⟨G, 0, none⟩)) ?_
 simp only [Act.put, zI, zJ, zK]
 refine tkI 27 30 (.pointer (some ⟨G, 0, none⟩)) ?_
 simp only [Act.put, zI, zJ, zK]
 refine tkI 28 31 (.pointer (some ⟨G, 0, none⟩)) ?_
 simp only [Act.put, zI, zJ, zK]
 refine tjI 29 32 (.pointer (some ⟨g, 0, none⟩)) ?_ ?_
 ·
  intro X hX; obtain ⟨⟨b, t, hW⟩, hB⟩ := hX; have hc := hW.c0; go_simp
 (try simp only [Act.put, zI, zJ, zK])
 refine tkI 31 34 (.pointer (some ⟨G, 0, none⟩)) ?_
 simp only [Act.put, zI, zJ, zK]
 refine tkI 32 35 (.pointer (some ⟨G, 0, none⟩)) ?_
 simp only [Act.put, zI, zJ, zK]
 refine tkI 33 36 (.pointer (some ⟨G, 0, none⟩)) ?_
 simp only [Act.put, zI, zJ, zK]
 refine tjI 34 37 (.pointer (some ⟨g, 0, none⟩)) ?_ ?_
 ·
  intro X hX; obtain ⟨⟨b, t, hW⟩, hB⟩ := hX; have hc := hW.c0; go_simp
 (try simp only [Act.put, zI, zJ, zK])
 refine rYI 4 fun K hK => ?_
 go_simp
 refine ((HR0.out.below (drew_below w1)).text).mono ?_
 rintro en w10 ⟨rfl, h1, h2⟩
 have HR1 := hD h1; have HK1 := hD h2
 go_simp
 refine hK.out _ _ (hHeld0.on h1 h2) (fun hHeld1 => ?_)
 clear hK K
 (try simp only [Act.put, zI, zJ, zK])
 refine rYI 9 fun K hK => ?_
 go_simp
 refine (HR1.out.text).mono ?_
 rintro en w20 ⟨rfl, h1, h2⟩
 have HR2 := hD h1; have HK2 := hD h2
 go_simp
 refine hK.out _ _ (hHeld1.on h1 h2) (fun hHeld2 => ?_)
 clear hK K
 (try simp only [Act.put, zI, zJ, zK])
 refine rYI 14 fun K hK => ?_
 go_simp
 refine (HR2.out.num 1).mono ?_
 rintro en w30 ⟨rfl, h1, h2⟩
 have HR3 := hD h1; have HK3 := hD h2
 go_simp
 refine hK.out _ _ (hHeld2.on h1 h2) (fun hHeld3 => ?_)
 clear hK K
 (try simp only [Act.put, zI, zJ, zK])
 refine rYI 19 fun K hK => ?_
 go_simp
 refine (HR3.out.num 1).mono ?_
 rintro en w40 ⟨rfl, h1, h2⟩
 have HR4 := hD h1; have HK4 := hD h2
 go_simp
 refine hK.out _ _ (hHeld3.on h1 h2) (fun hHeld4 => ?_)
 clear hK K
 (try simp only [Act.put, zI, zJ, zK])
 refine rYI 21 fun K hK => ?_
 go_simp
 refine (rbit_any _ HR4.out).mono ?_
 rintro en w50 ⟨rfl, h1, h2⟩
 have HR5 := hD h1; have HK5 := hD h2
 go_simp
 refine hK.out _ _ (hHeld4.on h1 h2) (fun hHeld5 => ?_)
 clear hK K
 (try simp only [Act.put, zI, zJ, zK])
 refine rYI 23 fun K hK => ?_
 go_simp
 refine (rbit_any _ HR5.out).mono ?_
 rintro en w60 ⟨rfl, h1, h2⟩
 have HR6 := hD h1; have HK6 := hD h2
 go_simp
 refine hK.out _ _ (hHeld5.on h1 h2) (fun hHeld6 => ?_)
 clear hK K
 (try simp only [Act.put, zI, zJ, zK])
 refine rYI 25 fun K hK => ?_
 go_simp
 refine (rbit_any _ HR6.out).mono ?_
 rintro en w70 ⟨rfl, h1, h2⟩
 have HR7 := hD h1; have HK7 := hD h2
 go_simp
 refine hK.out _ _ (hHeld6.on h1 h2) (fun hHeld7 => ?_)
 clear hK K
 (try simp only [Act.put, zI, zJ, zK])
 refine rYI 30 fun K hK => ?_
 go_simp
 refine (HR7.out.num 8).mono ?_
 rintro en w80 ⟨rfl, h1, h2⟩
 have HR8 := hD h1; have HK8 := hD h2
 go_simp
 refine hK.out _ _ (hHeld7.on h1 h2) (fun hHeld8 => ?_)
 clear hK K
 (try simp only [Act.put, zI, zJ, zK])
 refine rYI 35 fun K hK => ?_
 go_simp
 refine (HR8.out.num 8).mono ?_
 rintro en w90 ⟨rfl, h1, h2⟩
 have HR9 := hD h1; have HK9 := hD h2
 go_simp
 refine hK.out _ _ (hHeld8.on h1 h2) (fun hHeld9 => ?_)
 clear hK K
 (try simp only [Act.put, zI, zJ, zK])
 refine tkI 36 39 (.agg #[str (rMeas 2 4096 (s)).1, str (rMeas 2 4096 ((rMeas 2 4096 (s)).2)).1, .bool (rdBit ((rNum 1 ((rNum 1 ((rMeas 2 4096 ((rMeas 2 4096 (s)).2)).2)).2)).2)).1, .int .i64 (rNum 1 ((rMeas 2 4096 ((rMeas 2 4096 (s)).2)).2)).1, .bool (rdBit ((rdBit ((rNum 1 ((rNum 1 ((rMeas 2 4096 ((rMeas 2 4096 (s)).2)).2)).2)).2)).2.2)).1, .int .i64 (rNum 1 ((rNum 1 ((rMeas 2 4096 ((rMeas 2 4096 (s)).2)).2)).2)).1, .bool (rdBit ((rdBit ((rdBit ((rNum 1 ((rNum 1 ((rMeas 2 4096 ((rMeas 2 4096 (s)).2)).2)).2)).2)).2.2)).2.2)).1, .int .i64 (rNum 8 ((rdBit ((rdBit ((rdBit ((rNum 1 ((rNum 1 ((rMeas 2 4096 ((rMeas 2 4096 (s)).2)).2)).2)).2)).2.2)).2.2)).2.2)).1, .int .i64 (rNum 8 ((rNum 8 ((rdBit ((rdBit ((rdBit ((rNum 1 ((rNum 1 ((rMeas 2 4096 ((rMeas 2 4096 (s)).2)).2)).2)).2)).2.2)).2.2)).2.2)).2)).1]) ?_
 simp only [Act.put, zI, zJ, zK]
 refine rYI 37 fun K hK => ?_
 rw [if_pos (by rfl)]
 obtain ⟨cs0, hcs, hB0⟩ := hHeld9.2.1
 refine wp_store_row 105 (.tmp 2) (.tmp 39) rfl gr #[str (rMeas 2 4096 (s)).1, str (rMeas 2 4096 ((rMeas 2 4096 (s)).2)).1, .bool (rdBit ((rNum 1 ((rNum 1 ((rMeas 2 4096 ((rMeas 2 4096 (s)).2)).2)).2)).2)).1, .int .i64 (rNum 1 ((rMeas 2 4096 ((rMeas 2 4096 (s)).2)).2)).1, .bool (rdBit ((rdBit ((rNum 1 ((rNum 1 ((rMeas 2 4096 ((rMeas 2 4096 (s)).2)).2)).2)).2)).2.2)).1, .int .i64 (rNum 1 ((rNum 1 ((rMeas 2 4096 ((rMeas 2 4096 (s)).2)).2)).2)).1, .bool (rdBit ((rdBit ((rdBit ((rNum 1 ((rNum 1 ((rMeas 2 4096 ((rMeas 2 4096 (s)).2)).2)).2)).2)).2.2)).2.2)).1, .int .i64 (rNum 8 ((rdBit ((rdBit ((rdBit ((rNum 1 ((rNum 1 ((rMeas 2 4096 ((rMeas 2 4096 (s)).2)).2)).2)).2)).2.2)).2.2)).2.2)).1, .int .i64 (rNum 8 ((rNum 8 ((rdBit ((rdBit ((rdBit ((rNum 1 ((rNum 1 ((rMeas 2 4096 ((rMeas 2 4096 (s)).2)).2)).2)).2)).2.2)).2.2)).2.2)).2)).1] rfl rfl 105 cs0 hB0 Tryz.info_rsymbol (by rw [hcs]; rfl) (by simp [Value.oneCell']) ?_
 refine hK.out _ _ (hHeld9.row _ rfl) (fun hHeldZ => ?_)
 clear hK K
 refine wpAnyH_done (by kernel_rfl) ?_ _
 have HRZ := hD (HR9.out.row (gr := gr) hHeld9.2.2.2 #[str (rMeas 2 4096 (s)).1, str (rMeas 2 4096 ((rMeas 2 4096 (s)).2)).1, .bool (rdBit ((rNum 1 ((rNum 1 ((rMeas 2 4096 ((rMeas 2 4096 (s)).2)).2)).2)).2)).1, .int .i64 (rNum 1 ((rMeas 2 4096 ((rMeas 2 4096 (s)).2)).2)).1, .bool (rdBit ((rdBit ((rNum 1 ((rNum 1 ((rMeas 2 4096 ((rMeas 2 4096 (s)).2)).2)).2)).2)).2.2)).1, .int .i64 (rNum 1 ((rNum 1 ((rMeas 2 4096 ((rMeas 2 4096 (s)).2)).2)).2)).1, .bool (rdBit ((rdBit ((rdBit ((rNum 1 ((rNum 1 ((rMeas 2 4096 ((rMeas 2 4096 (s)).2)).2)).2)).2)).2.2)).2.2)).1, .int .i64 (rNum 8 ((rdBit ((rdBit ((rdBit ((rNum 1 ((rNum 1 ((rMeas 2 4096 ((rMeas 2 4096 (s)).2)).2)).2)).2)).2.2)).2.2)).2.2)).1, .int .i64 (rNum 8 ((rNum 8 ((rdBit ((rdBit ((rdBit ((rNum 1 ((rNum 1 ((rMeas 2 4096 ((rMeas 2 4096 (s)).2)).2)).2)).2)).2.2)).2.2)).2.2)).2)).1])
 have HKZ := hD (Kr.row (gr := gr) ((((((((((HK0.out.trans (Kr.of_below (drew_below w1))).trans HK1.out).trans HK2.out).trans HK3.out).trans HK4.out).trans HK5.out).trans HK6.out).trans HK7.out).trans HK8.out).trans HK9.out) (by omega) #[str (rMeas 2 4096 (s)).1, str (rMeas 2 4096 ((rMeas 2 4096 (s)).2)).1, .bool (rdBit ((rNum 1 ((rNum 1 ((rMeas 2 4096 ((rMeas 2 4096 (s)).2)).2)).2)).2)).1, .int .i64 (rNum 1 ((rMeas 2 4096 ((rMeas 2 4096 (s)).2)).2)).1, .bool (rdBit ((rdBit ((rNum 1 ((rNum 1 ((rMeas 2 4096 ((rMeas 2 4096 (s)).2)).2)).2)).2)).2.2)).1, .int .i64 (rNum 1 ((rNum 1 ((rMeas 2 4096 ((rMeas 2 4096 (s)).2)).2)).2)).1, .bool (rdBit ((rdBit ((rdBit ((rNum 1 ((rNum 1 ((rMeas 2 4096 ((rMeas 2 4096 (s)).2)).2)).2)).2)).2.2)).2.2)).1, .int .i64 (rNum 8 ((rdBit ((rdBit ((rdBit ((rNum 1 ((rNum 1 ((rMeas 2 4096 ((rMeas 2 4096 (s)).2)).2)).2)).2)).2.2)).2.2)).2.2)).1, .int .i64 (rNum 8 ((rNum 8 ((rdBit ((rdBit ((rdBit ((rNum 1 ((rNum 1 ((rMeas 2 4096 ((rMeas 2 4096 (s)).2)).2)).2)).2)).2.2)).2.2)).2.2)).2)).1])
 have hBZ := hHeld9.put #[str (rMeas 2 4096 (s)).1, str (rMeas 2 4096 ((rMeas 2 4096 (s)).2)).1, .bool (rdBit ((rNum 1 ((rNum 1 ((rMeas 2 4096 ((rMeas 2 4096 (s)).2)).2)).2)).2)).1, .int .i64 (rNum 1 ((rMeas 2 4096 ((rMeas 2 4096 (s)).2)).2)).1, .bool (rdBit ((rdBit ((rNum 1 ((rNum 1 ((rMeas 2 4096 ((rMeas 2 4096 (s)).2)).2)).2)).2)).2.2)).1, .int .i64 (rNum 1 ((rNum 1 ((rMeas 2 4096 ((rMeas 2 4096 (s)).2)).2)).2)).1, .bool (rdBit ((rdBit ((rdBit ((rNum 1 ((rNum 1 ((rMeas 2 4096 ((rMeas 2 4096 (s)).2)).2)).2)).2)).2.2)).2.2)).1, .int .i64 (rNum 8 ((rdBit ((rdBit ((rdBit ((rNum 1 ((rNum 1 ((rMeas 2 4096 ((rMeas 2 4096 (s)).2)).2)).2)).2)).2.2)).2.2)).2.2)).1, .int .i64 (rNum 8 ((rNum 8 ((rdBit ((rdBit ((rdBit ((rNum 1 ((rNum 1 ((rMeas 2 4096 ((rMeas 2 4096 (s)).2)).2)).2)).2)).2.2)).2.2)).2.2)).2)).1]
 clear hB0 hcs
 generalize (World.setRow w90 gr #[str (rMeas 2 4096 (s)).1, str (rMeas 2 4096 ((rMeas 2 4096 (s)).2)).1, .bool (rdBit ((rNum 1 ((rNum 1 ((rMeas 2 4096 ((rMeas 2 4096 (s)).2)).2)).2)).2)).1, .int .i64 (rNum 1 ((rMeas 2 4096 ((rMeas 2 4096 (s)).2)).2)).1, .bool (rdBit ((rdBit ((rNum 1 ((rNum 1 ((rMeas 2 4096 ((rMeas 2 4096 (s)).2)).2)).2)).2)).2.2)).1, .int .i64 (rNum 1 ((rNum 1 ((rMeas 2 4096 ((rMeas 2 4096 (s)).2)).2)).2)).1, .bool (rdBit ((rdBit ((rdBit ((rNum 1 ((rNum 1 ((rMeas 2 4096 ((rMeas 2 4096 (s)).2)).2)).2)).2)).2.2)).2.2)).1, .int .i64 (rNum 8 ((rdBit ((rdBit ((rdBit ((rNum 1 ((rNum 1 ((rMeas 2 4096 ((rMeas 2 4096 (s)).2)).2)).2)).2)).2.2)).2.2)).2.2)).1, .int .i64 (rNum 8 ((rNum 8 ((rdBit ((rdBit ((rdBit ((rNum 1 ((rNum 1 ((rMeas 2 4096 ((rMeas 2 4096 (s)).2)).2)).2)).2)).2.2)).2.2)).2.2)).2)).1]) = wz at *
 have eq := hBZ.c; have e0 := eq 0; have e1 := eq 1; have e2 := eq 2; have e3 := eq 3; have e4 := eq 4; have e5 := eq 5; have e6 := eq 6; have e7 := eq 7; have e8 := eq 8; clear eq
 simp only [gA, gB, gC] at e0 e1 e2 e3 e4 e5 e6 e7 e8
 clear hBZ
 go_wp2_with fail
 refine bodyPost_ret (v := .agg #[str (rMeas 2 4096 (s)).1, str (rMeas 2 4096 ((rMeas 2 4096 (s)).2)).1, .bool (rdBit ((rNum 1 ((rNum 1 ((rMeas 2 4096 ((rMeas 2 4096 (s)).2)).2)).2)).2)).1, .int .i64 (rNum 1 ((rMeas 2 4096 ((rMeas 2 4096 (s)).2)).2)).1, .bool (rdBit ((rdBit ((rNum 1 ((rNum 1 ((rMeas 2 4096 ((rMeas 2 4096 (s)).2)).2)).2)).2)).2.2)).1, .int .i64 (rNum 1 ((rNum 1 ((rMeas 2 4096 ((rMeas 2 4096 (s)).2)).2)).2)).1, .bool (rdBit ((rdBit ((rdBit ((rNum 1 ((rNum 1 ((rMeas 2 4096 ((rMeas 2 4096 (s)).2)).2)).2)).2)).2.2)).2.2)).1, .int .i64 (rNum 8 ((rdBit ((rdBit ((rdBit ((rNum 1 ((rNum 1 ((rMeas 2 4096 ((rMeas 2 4096 (s)).2)).2)).2)).2)).2.2)).2.2)).2.2)).1, .int .i64 (rNum 8 ((rNum 8 ((rdBit ((rdBit ((rdBit ((rNum 1 ((rNum 1 ((rMeas 2 4096 ((rMeas 2 4096 (s)).2)).2)).2)).2)).2.2)).2.2)).2.2)).2)).1]) (by simp [results, Tryz.results46, go_sem, e0, e1, e2, e3, e4, e5, e6, e7, e8]) rfl ?_
 exact ⟨(rdSym s).1, (none, 0), rfl, trivial, fun _ => rfl, by rw [show (bad || (rdSym s).2.1) = (((bad || (rdBit (rNum 1 (rNum 1 (rMeas 2 4096 (rMeas 2 4096 s).2).2).2).2).2.1) || (rdBit (rdBit (rNum 1 (rNum 1 (rMeas 2 4096 (rMeas 2 4096 s).2).2).2).2).2.2).2.1) || (rdBit (rdBit (rdBit (rNum 1 (rNum 1 (rMeas 2 4096 (rMeas 2 4096 s).2).2).2).2).2.2).2.2).2.1) from or3 _ _ _ _]; exact HRZ.out, HKZ.out⟩
end Go.Proofs.YtfljignkjmabpaaGreat
