/- A part of the proof. -/
import Derived.Test.YtfljignkjmabpaaGreatZS
import Derived.Test.YtfljignkjmabpaaGreatZM
set_option linter.unusedSimpArgs false
set_option linter.unusedVariables false
namespace Go.Proofs.YtfljignkjmabpaaGreat
set_option maxRecDepth 100000
open Go.RowKit
def RNX (w : World) (p : Pl) (x : Im) (a : Addr) (v : Int) (X : World) : Prop := MSX w p x X ∧ X.cell? a = some (.int .i64 v)
theorem RNX.on {w X Y : World} {p : Pl} {x : Im} {a : Addr} {v : Int} (h : RNX w p x a v X) (hb : Below X.heap.size X Y) : RNX w p x a v Y := ⟨h.1.on hb, cell_below hb h.2⟩
set_option maxHeartbeats 8000000 in
theorem druns_any (p : Pl) (x : Im) (w : World) (h : ImIn w (fun k => k < w.heap.size) p x) (hf : Fit x) (hs : ∀ s ∈ x.segs, SegOk s) :
  Calls Tryz.prog 69 #[imV p x] w fun e w' => e = .returned (.bool (runsB x x.init && runsB x x.fini)) ∧ Below w.heap.size w w' := by
 have HS0 := hD (show MSX w p x (w.alloc (.cells (imA p x) 40)) from ⟨ibox_below _ _ _, Ix.new _ _ _⟩)
 have HSA := hD (fun (a : Int) (X : World) (hX : Below w.heap.size w X) => dstands_any p x a 8 4 X (h.lt hX) hf.segs hs (by omega) (by omega))
 have HI1 := hD (fun (X : World) (hX : Below w.heap.size w X) => (h.lt hX).init)
 have HI2 := hD (fun (X : World) (hX : Below w.heap.size w X) => (h.lt hX).fini)
 have l1 := hf.init
 have l2 := hf.fini
 unfold Long at l1 l2
 generalize hbb : (runsB x x.init && runsB x x.fini) = bb
 have HF := hD hbb.symm
 clear h hf hs hbb
 obtain ⟨-, -, -, -, -, -, -, -, -, -, -, c11, c12, -, -⟩ := HS0.out.2.cells
 go_enter Tryz.func69, Tryz.ntmps69
 go_upto_region 1 with (fail)
 change Code.wp _ _ _ _ (w.alloc (.cells (imA p x) 40))
 generalize w.alloc (.cells (imA p x) 40) = w1 at *
 have hz1 := HS0.out.2.lt
 go_upto_region 2 with (fail)
 have hb2 := (Below.refl w1.heap.size w1).alloc (Nat.le_refl _) (.cells #[.slice p.ini.1 x.init.length p.ini.2, .slice p.fin.1 x.fini.length p.fin.2] 38)
 have hx2 := Bx.new w1 #[.slice p.ini.1 x.init.length p.ini.2, .slice p.fin.1 x.fini.length p.fin.2] 38
 have HS2 := hD (HS0.out.on hb2)
 have hz2 : w1.heap.size < (w1.alloc (.cells #[.slice p.ini.1 x.init.length p.ini.2, .slice p.fin.1 x.fini.length p.fin.2] 38)).heap.size := by simp
 change Code.wp _ _ _ _ (w1.alloc (.cells #[.slice p.ini.1 x.init.length p.ini.2, .slice p.fin.1 x.fini.length p.fin.2] 38))
 generalize w1.alloc (.cells #[.slice p.ini.1 x.init.length p.ini.2, .slice p.fin.1 x.fini.length p.fin.2] 38) = w2 at *
 have HX2 := hD hx2
 have hsb2 := hb2.size
 clear hb2 hx2
 go_loopw [12] (fun t wr => ∃ k : Nat, k ≤ 2 ∧ t = .int .i64 k ∧ Below w2.heap.size w2 wr ∧ (1 ≤ k → runsB x x.init = true) ∧ (2 ≤ k → runsB x x.fini = true)) (fun t _ => 2 - (intOf t).toNat)
 case atStart => exact ⟨0, by omega, rfl, Below.refl _ _, fun h => absurd h (by omega), fun h => absurd h (by omega)⟩
 case round =>
  obtain ⟨k, hk, rfl, hb, hr1, hr2⟩ := hrel
  have HR1 := hD hr1
  have HR2 := hD hr2
  have HB := hD hb
  have HSR := hD (HS2.out.on hb)
  have HXR := hD (HX2.out.below hb)
  clear hb hr1 hr2
  by_cases hlt : k < 2
  ·
   have hl : ∃ A c l, wr.cell? ⟨w1.heap.size, k, none⟩ = some (.slice A l.length c) ∧ (∀ X, Below w.heap.size w X → Src X (fun k => k < X.heap.size) A l.length c (ints l)) ∧ l.length ≤ 140737488351232 ∧ (runsB x l = true → (1 ≤ k + 1 → runsB x x.init = true) ∧ (2 ≤ k + 1 → runsB x x.fini = true)) ∧ (runsB x l = false → bb = false) := by
    by_cases hk0 : k = 0
    ·
     subst hk0
     exact ⟨p.ini.1, p.ini.2, x.init, HXR.out.c 0, HI1.out, l1, fun h => ⟨fun _ => h, fun h2 => absurd h2 (by omega)⟩, fun h => by rw [HF.out, h]; rfl⟩
    ·
     obtain rfl : k = 1 := by omega
     exact ⟨p.fin.1, p.fin.2, x.fini, HXR.out.c 1, HI2.out, l2, fun h => ⟨fun _ => HR1.out (by omega), fun _ => h⟩, fun h => by rw [HF.out, h, Bool.and_false]⟩
   obtain ⟨A, c, l, hcell, hsrc, hln, hyes, hno⟩ := hl
   have HSRC := hD hsrc
   have HYES := hD hyes
   have HNO := hD hno
   have HDEF := hD (show runsB x l = (decide (l.length ≤ 8) && (List.range l.length).all (fun j => standB x.segs (l.getD j 0) 8 4)) by rw [range_all l 0 (fun a => standB x.segs a 8 4)]; rfl)
   clear hsrc hyes hno
   have hk0 : (0 : Int) ≤ (k : Int) := by omega
   have hk1 : (k : Int) < 2 := by omega
   by_cases h8 : l.length ≤ 8
   ·
    have h8' : ¬ (8 : Int) < (l.length : Int) := by omega
    go_wp2_with fail
    go_loopw [5] (fun t wr2 => ∃ j : Nat, j ≤ l.length ∧ t = .int .i64 j ∧ Below w2.heap.size w2 wr2 ∧ (List.range j).all (fun j => standB x.segs (l.getD j 0) 8 4) = true) (fun t _ => l.length - (intOf t).toNat)
    case atStart => exact ⟨0, Nat.zero_le _, rfl, HB.out, rfl⟩
    case round =>
     obtain ⟨j, hj, rfl, hbj, hje⟩ := hrel
     have HJ := hD hje
     have HBJ := hD hbj
     have HSJ := hD (HS2.out.on hbj)
     clear hbj hje
     by_cases hjl : j < l.length
     ·
      obtain ⟨ad, rfl⟩ : ∃ ad, A = some ad := by
       cases A with
       | none => have := ((HSRC.out _ HSJ.out.1).nil rfl).1; omega
       | some ad => exact ⟨ad, rfl⟩
      have hcap := (HSRC.out _ HSJ.out.1).cap
      have hcj : wr.cell? (ad.add j) = some (.int .i64 (l.getD j 0)) := (HSRC.out _ HSJ.out.1).at_ ad rfl j _ (by simp [ints, hjl])
      have HJY := hD (fun h => rel_step (p := fun j => standB x.segs (l.getD j 0) 8 4) HJ.out h)
      have HJN := hD (fun h => rel_fail (p := fun j => standB x.segs (l.getD j 0) 8 4) hjl h)
      try simp only at HJY HJN
      have HST := hD (HSA.out (l.getD j 0))
      generalize l.getD j 0 = v at *
      have HSD := hD ((show RNX w p x (ad.add j) v wr from ⟨HSJ.out, hcj⟩).on (drew_below wr))
      have hj0 : (0 : Int) ≤ (j : Int) := by omega
      have hj1 : (j : Int) < (l.length : Int) := by omega
      go_upto_region 9 with (fail)
      cases hst : standB x.segs v 8 4
      ·
       have HV := hD (HNO.out (by rw [HDEF.out, HJN.out hst, Bool.and_false]))
       rw [hst] at HST
       clear HJY HJN hst hcj
       refine wp_region_held_drew (S := RNX w p x (ad.add j) v) (by kernel_rfl) HSD.out (fun hHeld0 => ?_)
       refine tjI 0 25 (imV p x) ?_ ?_
       ·
        intro X hX; obtain ⟨⟨hBX, hI⟩, hc⟩ := hX; obtain ⟨c0, c1, c2, c3, c4, c5, c6, c7, c8, c9, c10, c11, c12, c13, c14⟩ := hI.cells; go_simp
       (try simp only [Act.put, zI, zJ, zK])
       refine tkI 1 26 (.slice (some ad) l.length c) ?_
       simp only [Act.put, zI, zJ, zK]
       refine tkI 2 27 (.int .i64 (j : Int)) ?_
       simp only [Act.put, zI, zJ, zK]
       refine tkI 3 28 (.pointer (some (ad.add j))) ?_
       simp only [Act.put, zI, zJ, zK]
       refine tjI 4 29 (.int .i64 v) ?_ ?_
       ·
        intro X hX; obtain ⟨⟨hBX, hI⟩, hc⟩ := hX; go_simp
       (try simp only [Act.put, zI, zJ, zK])
       refine rYI 5 fun K hK => ?_
       go_simp
       refine (HST.out _ hHeld0.1.1).mono ?_
       rintro e wq1 ⟨rfl, hq1⟩
       go_simp
       refine hK.out _ _ ((hHeld0).on hq1) (fun hHeld1 => ?_)
       clear hK K
       (try simp only [Act.put, zI, zJ, zK])
       refine tkI 6 31 (.bool true) ?_
       simp only [Act.put, zI, zJ, zK]
       refine wpAnyH_done (by kernel_rfl) ?_ _
       go_wp2_with fail
       go_ret
       exact ⟨by rw [HV.out]; rfl, hHeld1.1.1⟩
      ·
       have HV := hD (HJY.out hst)
       rw [hst] at HST
       clear HJY HJN hst hcj
       refine wp_region_held_drew (S := RNX w p x (ad.add j) v) (by kernel_rfl) HSD.out (fun hHeld0 => ?_)
       refine tjI 0 25 (imV p x) ?_ ?_
       ·
        intro X hX; obtain ⟨⟨hBX, hI⟩, hc⟩ := hX; obtain ⟨c0, c1, c2, c3, c4, c5, c6, c7, c8, c9, c10, c11, c12, c13, c14⟩ := hI.cells; go_simp
       (try simp only [Act.put, zI, zJ, zK])
       refine tkI 1 26 (.slice (some ad) l.length c) ?_
       simp only [Act.put, zI, zJ, zK]
       refine tkI 2 27 (.int .i64 (j : Int)) ?_
       simp only [Act.put, zI, zJ, zK]
       refine tkI 3 28 (.pointer (some (ad.add j))) ?_
       simp only [Act.put, zI, zJ, zK]
       refine tjI 4 29 (.int .i64 v) ?_ ?_
       ·
        intro X hX; obtain ⟨⟨hBX, hI⟩, hc⟩ := hX; go_simp
       (try simp only [Act.put, zI, zJ, zK])
       refine rYI 5 fun K hK => ?_
       go_simp
       refine (HST.out _ hHeld0.1.1).mono ?_
       rintro e wq1 ⟨rfl, hq1⟩
       go_simp
       refine hK.out _ _ ((hHeld0).on hq1) (fun hHeld1 => ?_)
       clear hK K
       (try simp only [Act.put, zI, zJ, zK])
       refine tkI 6 31 (.bool false) ?_
       simp only [Act.put, zI, zJ, zK]
       refine wpAnyH_done (by kernel_rfl) ?_ _
       have HBG := hD (HBJ.out.trans (((drew_below wr).trans hq1).mono HBJ.out.size))
       go_wp2_with fail
       go_roundw
       case rel => exact ⟨j + 1, by omega, by go_num, HBG.out, HV.out⟩
       case measure => simp [intOf]; omega
     ·
      obtain rfl : j = l.length := by omega
      have HV := hD (HYES.out (by rw [HDEF.out, HJ.out, decide_eq_true h8]; rfl))
      go_wp2_with fail
      go_roundw
      case rel => exact ⟨k + 1, by omega, by go_num, HBJ.out, HV.out.1, HV.out.2⟩
      case measure => simp [intOf]; omega
   ·
    have h8' : (8 : Int) < (l.length : Int) := by omega
    have HV := hD (HNO.out (by rw [HDEF.out, decide_eq_false h8]; rfl))
    go_wp2_with fail
    go_ret
    exact ⟨by rw [HV.out]; rfl, HSR.out.1⟩
  ·
   obtain rfl : k = 2 := by omega
   have HV := hD (show bb = true by rw [HF.out, HR1.out (by omega), HR2.out (by omega)]; rfl)
   go_wp2_with fail
   go_ret
   exact ⟨by rw [HV.out]; rfl, HSR.out.1⟩
end Go.Proofs.YtfljignkjmabpaaGreat
namespace Go.Proofs.YtfljignkjmabpaaGreat
set_option maxRecDepth 100000
open Go.RowKit
structure ImOk (x : Im) : Prop where
 head : headB x = true
 segs : segsB x.segs = true
 tls : tlsB x = true
 syms : symsB x = true
 tab : tabB x = true
 relocs : relocsB x = true
 slots : slotsB x = true
 init : runsB x x.init = true
 fini : runsB x x.fini = true
theorem may_ok {x : Im} (h : mayE x = 0) : ImOk x := by
 unfold mayE at h
 split at h
 ·
  cases h
 rename_i h1
 split at h
 ·
  cases h
 rename_i h2
 split at h
 ·
  cases h
 rename_i h3
 split at h
 ·
  cases h
 rename_i h4
 split at h
 ·
  cases h
 rename_i h5
 split at h
 ·
  cases h
 rename_i h6
 split at h
 ·
  cases h
 rename_i h7
 split at h
 ·
  cases h
 rename_i h8
 split at h
 ·
  cases h
 rename_i h9
 simp only [Bool.not_eq_false] at h1 h2 h3 h4 h5 h6 h7 h8 h9
 exact ⟨h1, h2, h3, h4, h5, h6, h7, h8, h9⟩
theorem name_len {l : Str} (h : nameB l = true) : l.length ≤ 64 := by
 unfold nameB at h
 simp only [Bool.and_eq_true, decide_eq_true_eq] at h
 exact h.1.2
structure Rg (x : Im) : Prop where
 name : x.name.length ≤ 64
 flags : 0 ≤ x.flags ∧ x.flags ≤ 15
 segs : x.segs.length ≤ 8
 seg : ∀ s ∈ x.segs, (0 ≤ s.at_ ∧ s.at_ ≤ 65536) ∧ (0 ≤ s.size ∧ s.size ≤ 65536) ∧ (0 ≤ s.perm ∧ s.perm ≤ 7) ∧ s.bs.length ≤ 65536
 needed : x.needed.length ≤ 16
 need : ∀ s ∈ x.needed, s.name.length ≤ 200 ∧ s.vers.length ≤ 16 ∧ ∀ v ∈ s.vers, v.length ≤ 64
 run : x.run.length ≤ 16
 runs : ∀ s ∈ x.run, s.length ≤ 200
 syms : x.syms.length ≤ 512
 sym : ∀ s ∈ x.syms, s.name.length ≤ 64 ∧ s.ver.length ≤ 64 ∧ (0 ≤ s.kind ∧ s.kind ≤ 3) ∧ (0 ≤ s.vis ∧ s.vis ≤ 3)
 rows : x.rows.length ≤ 512
 row : ∀ r ∈ x.rows, r.length ≤ 512 ∧ ∀ i ∈ r, 0 ≤ i ∧ i < 512
 words : x.words.length ≤ 64
 shift : 0 ≤ x.shift ∧ x.shift ≤ 31
 relocs : x.relocs.length ≤ 512
 reloc : ∀ r ∈ x.relocs, 0 ≤ r.kind ∧ r.kind ≤ 7
 slots : x.slots.length ≤ 128
 slot : ∀ s ∈ x.slots, (0 ≤ s.at_ ∧ s.at_ ≤ 65536) ∧ (0 ≤ s.sym ∧ s.sym ≤ 512) ∧ (0 ≤ s.stub ∧ s.stub ≤ 65536)
 init : x.init.length ≤ 8
 inits : ∀ i ∈ x.init, 0 ≤ i ∧ i ≤ 65536
 fini : x.fini.length ≤ 8
 finis : ∀ i ∈ x.fini, 0 ≤ i ∧ i ≤ 65536
 tlsSize : 0 ≤ x.tlsSize ∧ x.tlsSize ≤ 4096
 tls : x.tls.length ≤ 4096
theorem runs_rg {x : Im} {l : List Int} (hs : ∀ s ∈ x.segs, SegOk s) (h : runsB x l = true) : l.length ≤ 8 ∧ ∀ i ∈ l, 0 ≤ i ∧ i ≤ 65536 := by
 unfold runsB at h
 simp only [Bool.and_eq_true, decide_eq_true_eq, List.all_eq_true] at h
 refine ⟨h.1, fun i hi => ?_⟩
 have := stand_range (h.2 i hi) hs
 omega
theorem fill_rg {ss : List Sym} {cnt k b : Nat} : (fillS ss cnt k b).length ≤ k ∧ ∀ i ∈ fillS ss cnt k b, 0 ≤ i ∧ i < (k : Int) := by
 unfold fillS
 refine ⟨by rw [List.length_map]; exact Nat.le_trans (List.length_filter_le _ _) (by rw [List.length_range]; exact Nat.le_refl _), fun i hi => ?_⟩
 simp only [List.mem_map, List.mem_filter, List.mem_range] at hi
 obtain ⟨j, ⟨hj, _⟩, rfl⟩ := hi
 omega
theorem ok_rg {x : Im} (h : ImOk x) : Rg x := by
 obtain ⟨h1, h2, h3, h4, h5, h6, h7, h8, h9⟩ := h
 have hs := segs_ok h2
 have ht := tls_range h3
 have hr := relocs_all h6
 have g8 := runs_rg hs h8
 have g9 := runs_rg hs h9
 unfold headB neededB runPathB at h1
 simp only [Bool.and_eq_true, Bool.or_eq_true, decide_eq_true_eq, List.all_eq_true] at h1
 obtain ⟨⟨⟨a1, a2⟩, a3, a4⟩, a5, a6⟩ := h1
 unfold withB at a2
 simp only [Bool.and_eq_true, decide_eq_true_eq] at a2
 have b2 := h2
 unfold segsB at b2
 rw [Bool.and_eq_true] at b2
 obtain ⟨b0, b1⟩ := b2
 unfold withB at b0
 simp only [Bool.and_eq_true, decide_eq_true_eq] at b0
 rw [apart_of] at b1
 unfold tlsB at h3
 simp only [Bool.and_eq_true, decide_eq_true_eq] at h3
 unfold symsB at h4
 simp only [Bool.and_eq_true, decide_eq_true_eq, List.all_eq_true, List.mem_range] at h4
 unfold tabB at h5
 have c5 := of_right h5
 unfold rightT formT Siv.formB at h5
 simp only [Bool.and_eq_true, decide_eq_true_eq] at h5
 unfold relocsB at h6
 simp only [Bool.and_eq_true, decide_eq_true_eq] at h6
 unfold slotsB at h7
 rw [Bool.and_eq_true, apart_of] at h7
 simp only [decide_eq_true_eq] at h7
 refine ⟨?_, a2, by omega, ?_, a3, ?_, a5, ?_, h4.1, ?_, h5.1.1.2.2, ?_, ?_, by omega, h6.1, ?_, h7.1, ?_, g8.1, g8.2, g9.1, g9.2, ht, by omega⟩
 ·
  rcases a1 with a1 | a1
  ·
   rw [List.isEmpty_iff.1 a1]; exact Nat.zero_le _
  ·
   exact name_len a1
 ·
  intro s hm
  obtain ⟨k, hk, rfl⟩ := List.getElem_of_mem hm
  have := (b1 k hk).1
  simp only [List.getD_eq_getElem?_getD, List.getElem?_eq_getElem hk, Option.getD_some] at this
  unfold segB withB at this
  simp only [Bool.and_eq_true, decide_eq_true_eq] at this
  omega
 ·
  intro s hm
  have := a4 s hm
  unfold needB pathB withB at this
  simp only [Bool.and_eq_true, decide_eq_true_eq, List.all_eq_true] at this
  exact ⟨by omega, this.1.2, fun v hv => name_len (this.2 v hv)⟩
 ·
  intro s hm
  have := a6 s hm
  unfold pathB withB at this
  simp only [Bool.and_eq_true, decide_eq_true_eq] at this
  omega
 ·
  intro s hm
  obtain ⟨k, hk, rfl⟩ := List.getElem_of_mem hm
  have := h4.2 k hk
  unfold symAt symB at this
  simp only [Bool.and_eq_true, List.getD_eq_getElem?_getD, List.getElem?_eq_getElem hk, Option.getD_some] at this
  have := this.1.1
  unfold rightB fieldsB at this
  simp only [Bool.and_eq_true, decide_eq_true_eq] at this
  obtain ⟨⟨q1, q2⟩, _⟩ := this
  have q3 : x.syms[k].name.length ≤ 64 ∧ x.syms[k].ver.length ≤ 64 := by
   unfold textB at q1
   split at q1
   ·
    rename_i hv
    simp only [Bool.and_eq_true] at q1
    exact ⟨name_len q1.1, by rw [List.isEmpty_iff.1 hv]; exact Nat.zero_le _⟩
   ·
    simp only [Bool.and_eq_true] at q1
    exact ⟨name_len q1.1, name_len q1.2⟩
  exact ⟨q3.1, q3.2, by omega, by omega⟩
 ·
  intro r hm
  obtain ⟨k, hk, rfl⟩ := List.getElem_of_mem hm
  have hc := c5.2.1 k hk
  unfold rowF at hc
  rw [List.getD_eq_getElem?_getD, List.getElem?_eq_getElem hk, Option.getD_some] at hc
  rw [hc]
  have := fill_rg (ss := x.syms) (cnt := x.rows.length) (k := x.syms.length) (b := k)
  exact ⟨by omega, fun i hi => by have := this.2 i hi; omega⟩
 ·
  have := h5.1.2.1
  unfold Siv.pow7 at this
  simp only [decide_eq_true_eq] at this
  omega
 ·
  intro r hm
  have := rel_kind (hr r hm)
  unfold kindRB at this
  repeat' split at this
  all_goals first | omega | simp at this
 ·
  intro s hm
  obtain ⟨k, hk, rfl⟩ := List.getElem_of_mem hm
  have := (h7.2 k hk).1
  simp only [List.getD_eq_getElem?_getD, List.getElem?_eq_getElem hk, Option.getD_some] at this
  have q := slot_range hs this
  unfold slotB idxB withB at this
  simp only [Bool.and_eq_true, decide_eq_true_eq] at this
  have q2 := stand_range this.1.1.2 hs
  omega
end Go.Proofs.YtfljignkjmabpaaGreat
namespace Go.Proofs.YtfljignkjmabpaaGreat
set_option maxRecDepth 100000
open Go.RowKit
theorem wNumsA_cons {size : Int} (hs : sized size = true) (n : Int) (ns : List Int) (s : St) : wNumsA size (n :: ns) s = wNumsA size ns (wNumsA size [n] s) := by
 unfold wNumsA
 rw [if_pos hs, if_pos hs, if_pos hs]
 rfl
theorem wNumsA_fold {size : Int} (hs : sized size = true) : ∀ (ns : List Int) (s : St), wNumsA size ns s = ns.foldl (fun t n => wNumsA size [n] t) s
 | [], s => by unfold wNumsA; rw [if_pos hs]; rfl
 | n :: ns, s => by rw [wNumsA_cons hs, wNumsA_fold hs ns, List.foldl_cons]
theorem wTexts_fold : ∀ (ss : List Str) (s : St), wTexts ss s = ss.foldl (fun t l => wTexts [l] t) s
 | [], _ => rfl
 | l :: ss, s => by
  rw [List.foldl_cons, ← wTexts_fold ss]
  rfl
theorem Cd.list1 {α : Type} {O : α → Prop} {f : α → St → St} {r : St → α × Bool × St} (h : Cd O f r) : Cd (fun l : List α => (fitB 1 (l.length : Int) = true ∧ I64 (l.length : Int)) ∧ ∀ x ∈ l, O x) (fun l => wList 1 f l) (rdList 1 r) := h.list' (size := 1) 1 rfl (by decide) (by decide)
theorem Cd.list2 {α : Type} {O : α → Prop} {f : α → St → St} {r : St → α × Bool × St} (h : Cd O f r) : Cd (fun l : List α => (fitB 2 (l.length : Int) = true ∧ I64 (l.length : Int)) ∧ ∀ x ∈ l, O x) (fun l => wList 2 f l) (rdList 2 r) := h.list' (size := 2) 2 rfl (by decide) (by decide)
def mkSg (p : Int × Int × Int × Str) : Sg := ⟨p.1, p.2.1, p.2.2.2, p.2.2.1⟩
def unSg (x : Sg) : Int × Int × Int × Str := (x.at_, x.size, x.perm, x.bs)
theorem etaSg (p : Int × Int × Int × Str) : unSg (mkSg p) = p := rfl
def rdSg (s : St) : Sg × Bool × St := (mkSg (rdPair (rdNum 4) (rdPair (rdNum 4) (rdPair (rdNum 1) rdBlock)) s).1, (rdPair (rdNum 4) (rdPair (rdNum 4) (rdPair (rdNum 1) rdBlock)) s).2)
def OkSg (x : Sg) : Prop := (0 ≤ x.at_ ∧ x.at_ ≤ 65536) ∧ (0 ≤ x.size ∧ x.size ≤ 65536) ∧ (0 ≤ x.perm ∧ x.perm ≤ 7) ∧ x.bs.length ≤ 65536
theorem fit_1 {n : Int} (h : 0 ≤ n ∧ n ≤ 255) : fitB 1 n = true ∧ I64 n := by
 refine ⟨?_, by unfold I64; omega⟩
 unfold fitB
 rw [if_pos rfl]
 exact decide_eq_true (by omega)
theorem fit_2 {n : Int} (h : 0 ≤ n ∧ n ≤ 65535) : fitB 2 n = true ∧ I64 n := by
 refine ⟨?_, by unfold I64; omega⟩
 unfold fitB
 rw [if_neg (by decide), if_pos rfl]
 exact decide_eq_true (by omega)
theorem fit_4 {n : Int} (h : 0 ≤ n ∧ n ≤ 65536) : fitB 4 n = true ∧ I64 n := by
 refine ⟨?_, by unfold I64; omega⟩
 unfold fitB
 rw [if_neg (by decide), if_neg (by decide), if_pos rfl]
 exact decide_eq_true (by omega)
theorem fit_8 {n : Int} (h : I64 n) : fitB 8 n = true ∧ I64 n := by
 refine ⟨?_, h⟩
 unfold fitB
 rw [if_neg (by decide), if_neg (by decide), if_neg (by decide)]
theorem cdSg : Cd OkSg fSg rdSg :=
 ((cd4.pair (cd4.pair (cd1.pair cdBlock))).map mkSg unSg (fun _ => rfl) (fun _ _ _ => etaSg _)).same (fun x h => ⟨fit_4 h.1, fit_4 h.2.1, fit_1 (n := x.perm) (by have := h.2.2.1; omega), Nat.le_trans h.2.2.2 (by decide)⟩)
  (fun x s => by unfold fSg; rw [wNumsA_cons (by decide)]; rfl) (fun _ => rfl)
def rdTx (s : St) : List Str × Bool × St := rdList 1 rdText s
theorem cdTx : Cd (fun l : List Str => l.length ≤ 255 ∧ ∀ x ∈ l, x.length ≤ 4096) fTx rdTx :=
 (cdText.list1).same (fun l h => ⟨fit_1 (by omega), h.2⟩) (fun l s => by unfold fTx wList; rw [wTexts_fold]) (fun _ => rfl)
def mkNd (p : Str × List Str) : Nd := ⟨p.1, p.2⟩
def unNd (x : Nd) : Str × List Str := (x.name, x.vers)
theorem etaNd (p : Str × List Str) : unNd (mkNd p) = p := rfl
def rdNd (s : St) : Nd × Bool × St := (mkNd (rdPair rdText rdTx s).1, (rdPair rdText rdTx s).2)
def OkNd (x : Nd) : Prop := x.name.length ≤ 4096 ∧ x.vers.length ≤ 255 ∧ ∀ v ∈ x.vers, v.length ≤ 4096
theorem cdNd : Cd OkNd fNd rdNd := ((cdText.pair cdTx).map mkNd unNd (fun _ => rfl) (fun _ _ _ => etaNd _)).same (fun _ h => h) (fun _ _ => rfl) (fun _ => rfl)
def mkSym (p : Str × Str × Int × Int × Bool × Bool × Bool × Int × Int) : Sym := ⟨p.1, p.2.1, p.2.2.2.2.1, p.2.2.1, p.2.2.2.2.2.1, p.2.2.2.1, p.2.2.2.2.2.2.1, p.2.2.2.2.2.2.2.1, p.2.2.2.2.2.2.2.2⟩
def unSym (x : Sym) : Str × Str × Int × Int × Bool × Bool × Bool × Int × Int := (x.name, x.ver, x.kind, x.vis, x.old, x.weak, x.dfd, x.val, x.size)
theorem etaSym (p : Str × Str × Int × Int × Bool × Bool × Bool × Int × Int) : unSym (mkSym p) = p := rfl
abbrev rdSymP : St → (Str × Str × Int × Int × Bool × Bool × Bool × Int × Int) × Bool × St := rdPair rdText (rdPair rdText (rdPair (rdNum 1) (rdPair (rdNum 1) (rdPair rdBit (rdPair rdBit (rdPair rdBit (rdPair (rdNum 8) (rdNum 8))))))))
def rdSym (s : St) : Sym × Bool × St := (mkSym (rdSymP s).1, (rdSymP s).2)
def OkSym (x : Sym) : Prop := x.name.length ≤ 4096 ∧ x.ver.length ≤ 4096 ∧ (0 ≤ x.kind ∧ x.kind ≤ 255) ∧ (0 ≤ x.vis ∧ x.vis ≤ 255) ∧ I64 x.val ∧ I64 x.size
theorem cdSym : Cd OkSym fSym rdSym :=
 ((cdText.pair (cdText.pair (cd1.pair (cd1.pair (cdBit.pair (cdBit.pair (cdBit.pair (cd8.pair cd8)))))))).map mkSym unSym (fun _ => rfl) (fun _ _ _ => etaSym _)).same
  (fun x h => ⟨h.1, h.2.1, fit_1 h.2.2.1, fit_1 h.2.2.2.1, trivial, trivial, trivial, fit_8 h.2.2.2.2.1, fit_8 h.2.2.2.2.2⟩)
  (fun x s => by
   unfold fSym
   rw [wNumsA_cons (size := 8) (by decide), wNumsA_cons (size := 1) (by decide), wNumsA_cons (size := 1) (by decide), wNumsA_cons (size := 1) (by decide), wNumsA_cons (size := 1) (by decide)]
   rfl) (fun _ => rfl)
def rdRow (s : St) : List Int × Bool × St := rdList 2 (rdNum 2) s
theorem cdRow : Cd (fun l : List Int => l.length ≤ 65535 ∧ ∀ i ∈ l, 0 ≤ i ∧ i ≤ 65535) fRow rdRow :=
 (cd2.list2).same (fun l h => ⟨fit_2 (by omega), fun i hi => fit_2 (h.2 i hi)⟩) (fun l s => by unfold fRow wList; rw [wNumsA_fold (by decide)]) (fun _ => rfl)
def rdRuns (s : St) : List Int × Bool × St := rdList 1 (rdNum 4) s
theorem cdRuns : Cd (fun l : List Int => l.length ≤ 255 ∧ ∀ i ∈ l, 0 ≤ i ∧ i ≤ 65536) fRuns rdRuns :=
 (cd4.list1).same (fun l h => ⟨fit_1 (by omega), fun i hi => fit_4 (h.2 i hi)⟩) (fun l s => by unfold fRuns wList; rw [wNumsA_fold (by decide)]) (fun _ => rfl)
def toU (n : Int) : UInt64 := UInt64.ofNat (n % 18446744073709551616).toNat
theorem toU_nat (n : Int) : ((toU n).toNat : Int) = n % 18446744073709551616 := by
 unfold toU
 rw [UInt64.toNat_ofNat']
 omega
theorem toU_back (x : UInt64) : toU (wrap64 (x.toNat : Int)) = x := by
 have h := x.toNat_lt
 apply UInt64.toNat_inj.1
 have q := toU_nat (wrap64 (x.toNat : Int))
 generalize (toU (wrap64 (x.toNat : Int))).toNat = t at *
 unfold wrap64 at q
 omega
theorem toU_form {n : Int} (h : I64 n) : wrap64 ((toU n).toNat : Int) = n := by
 rw [toU_nat]
 unfold I64 at h
 unfold wrap64
 omega
def mkWd (t : Int × St) : UInt64 × Bool × St := (toU t.1, false, t.2)
def rdWd (s : St) : UInt64 × Bool × St := mkWd (rNum 8 s)
theorem cdWd : Cd (fun _ : UInt64 => True) fWd rdWd :=
 (cd8.map toU (fun x => wrap64 (x.toNat : Int)) toU_back (fun s _ _ => toU_form (rNum_i64 8 s))).same (fun x _ => fit_8 (wrap_i64' _)) (fun _ _ => rfl) (fun _ => rfl)
def mkRl (p : Int × Int × Int × Int) : Rl := ⟨p.2.1, p.1, p.2.2.1, p.2.2.2⟩
def unRl (x : Rl) : Int × Int × Int × Int := (x.kind, x.at_, x.sym, x.add)
theorem etaRl (p : Int × Int × Int × Int) : unRl (mkRl p) = p := rfl
abbrev rdRlP : St → (Int × Int × Int × Int) × Bool × St := rdPair (rdNum 1) (rdPair (rdNum 8) (rdPair (rdNum 8) (rdNum 8)))
def rdRl (s : St) : Rl × Bool × St := (mkRl (rdRlP s).1, (rdRlP s).2)
def OkRl (x : Rl) : Prop := (0 ≤ x.kind ∧ x.kind ≤ 255) ∧ I64 x.at_ ∧ I64 x.sym ∧ I64 x.add
theorem cdRl : Cd OkRl fRl rdRl :=
 ((cd1.pair (cd8.pair (cd8.pair cd8))).map mkRl unRl (fun _ => rfl) (fun _ _ _ => etaRl _)).same (fun x h => ⟨fit_1 h.1, fit_8 h.2.1, fit_8 h.2.2.1, fit_8 h.2.2.2⟩)
  (fun x s => by unfold fRl; rw [wNumsA_cons (size := 8) (by decide), wNumsA_cons (size := 8) (by decide)]; rfl) (fun _ => rfl)
def mkSl (p : Int × Int × Int) : Sl := ⟨p.1, p.2.1, p.2.2⟩
def unSl (x : Sl) : Int × Int × Int := (x.at_, x.sym, x.stub)
theorem etaSl (p : Int × Int × Int) : unSl (mkSl p) = p := rfl
abbrev rdSlP : St → (Int × Int × Int) × Bool × St := rdPair (rdNum 4) (rdPair (rdNum 4) (rdNum 4))
def rdSl (s : St) : Sl × Bool × St := (mkSl (rdSlP s).1, (rdSlP s).2)
def OkSl (x : Sl) : Prop := (0 ≤ x.at_ ∧ x.at_ ≤ 65536) ∧ (0 ≤ x.sym ∧ x.sym ≤ 65536) ∧ (0 ≤ x.stub ∧ x.stub ≤ 65536)
theorem cdSl : Cd OkSl fSl rdSl :=
 ((cd4.pair (cd4.pair cd4)).map mkSl unSl (fun _ => rfl) (fun _ _ _ => etaSl _)).same (fun x h => ⟨fit_4 h.1, fit_4 h.2.1, fit_4 h.2.2⟩)
  (fun x s => by unfold fSl; rw [wNumsA_cons (by decide), wNumsA_cons (by decide)]; rfl) (fun _ => rfl)
def mkMark (t : Str × St) : Unit × Bool × St := ((), !decide (t.1 = mark), t.2)
theorem mkMark_st (t : Str × St) : (mkMark t).2.2 = t.2 := rfl
theorem mkMark_bad (t : Str × St) : (mkMark t).2.1 = !decide (t.1 = mark) := rfl
def rdMark (s : St) : Unit × Bool × St := mkMark (rMeas 2 4096 s)
theorem rdMark_eq (s : St) : rdMark s = mkMark (rMeas 2 4096 s) := rfl
theorem cdMark : Cd (fun _ : Unit => True) (fun _ => wTexts [mark]) rdMark := by
 refine ⟨fun s h => ?_, fun _ _ => ?_, fun s h0 hb => ?_⟩
 ·
  rw [rdMark_eq, mkMark_st]
  exact rMeas_stick 2 4096 s h
 ·
  obtain ⟨d, a, c⟩ := cdText.back mark (by decide)
  refine ⟨d, a, fun rest => ?_⟩
  have e : rMeas 2 4096 (0, d ++ rest) = (mark, (0, rest)) := by
   have e := c rest
   unfold rdText at e
   simp only [Prod.mk.injEq, true_and] at e
   exact Prod.ext e.1 e.2
  rw [rdMark_eq, e]
  rfl
 ·
  rw [rdMark_eq, mkMark_st] at h0
  rw [rdMark_eq, mkMark_bad] at hb
  simp only [Bool.not_eq_false', decide_eq_true_eq] at hb
  obtain ⟨d, h1, h2, _⟩ := meas_form 2 4096 s [] (by decide) (by decide) h0
  rw [rdMark_eq, mkMark_st]
  refine ⟨d, h1, fun bs => ?_⟩
  obtain ⟨d', h3, h4, _⟩ := meas_form 2 4096 s bs (by decide) (by decide) h0
  have e : d' = d := List.append_cancel_right (h3.symm.trans h1)
  rw [← e]
  rw [hb] at h4
  exact h4
abbrev ImT := Unit × Str × Int × List Sg × List Nd × List Str × List Sym × List (List Int) × Int × List UInt64 × List Rl × List Sl × List Int × List Int × Int × Str
def mkIm (p : ImT) : Im :=
 let ⟨_, name, flags, segs, needed, run, syms, rows, shift, words, relocs, slots, init, fini, tlsSize, tls⟩ := p
 ⟨name, flags, segs, needed, run, syms, rows, words, shift, relocs, slots, init, fini, tls, tlsSize⟩
def unIm (x : Im) : ImT := ((), x.name, x.flags, x.segs, x.needed, x.run, x.syms, x.rows, x.shift, x.words, x.relocs, x.slots, x.init, x.fini, x.tlsSize, x.tls)
theorem etaIm (p : ImT) : unIm (mkIm p) = p := rfl
abbrev rdImP : St → ImT × Bool × St := rdPair rdMark (rdPair rdText (rdPair (rdNum 1) (rdPair (rdList 1 rdSg) (rdPair (rdList 1 rdNd) (rdPair rdTx (rdPair (rdList 2 rdSym) (rdPair (rdList 2 rdRow) (rdPair (rdNum 1) (rdPair (rdList 1 rdWd) (rdPair (rdList 2 rdRl) (rdPair (rdList 2 rdSl) (rdPair rdRuns (rdPair rdRuns (rdPair (rdNum 2) rdBlock))))))))))))))
def rdIm (s : St) : Im × Bool × St := (mkIm (rdImP s).1, (rdImP s).2)
theorem cdIm : Cd (fun x => Rg x ∧ Int64 x) im13 rdIm :=
 ((cdMark.pair (cdText.pair (cd1.pair ((cdSg.list1).pair ((cdNd.list1).pair (cdTx.pair ((cdSym.list2).pair ((cdRow.list2).pair (cd1.pair
  ((cdWd.list1).pair ((cdRl.list2).pair ((cdSl.list2).pair (cdRuns.pair (cdRuns.pair (cd2.pair cdBlock))))))))))))))).map mkIm unIm (fun _ => rfl) (fun _ _ _ => etaIm _)).same
  (fun x ⟨h, i⟩ => ⟨trivial, by have := h.name; show x.name.length ≤ 4096; omega, fit_1 (n := x.flags) (by have := h.flags; omega), ⟨fit_1 (n := (x.segs.length : Int)) (by have := h.segs; omega), h.seg⟩,
   ⟨fit_1 (n := (x.needed.length : Int)) (by have := h.needed; omega), fun s hs => ⟨by have := (h.need s hs).1; omega, by have := (h.need s hs).2.1; omega, fun v hv => by have := (h.need s hs).2.2 v hv; omega⟩⟩, ⟨by have := h.run; show x.run.length ≤ 255; omega, fun s hs => by have := h.runs s hs; omega⟩,
   ⟨fit_2 (n := (x.syms.length : Int)) (by have := h.syms; omega), fun s hs => by have q := h.sym s hs; have z := i.sym s hs; exact ⟨by omega, by omega, by omega, by omega, z.2.2.1, z.2.2.2⟩⟩,
   ⟨fit_2 (n := (x.rows.length : Int)) (by have := h.rows; omega), fun r hr => ⟨by have := (h.row r hr).1; omega, fun k hk => by have := (h.row r hr).2 k hk; omega⟩⟩, fit_1 (n := x.shift) (by have := h.shift; omega), ⟨fit_1 (n := (x.words.length : Int)) (by have := h.words; omega), fun _ _ => trivial⟩,
   ⟨fit_2 (n := (x.relocs.length : Int)) (by have := h.relocs; omega), fun r hr => ⟨by have := h.reloc r hr; omega, (i.reloc r hr).1, (i.reloc r hr).2.2.1, (i.reloc r hr).2.2.2⟩⟩, ⟨fit_2 (n := (x.slots.length : Int)) (by have := h.slots; omega), fun s hs => by have q := h.slot s hs; exact ⟨by omega, by omega, by omega⟩⟩,
   ⟨by have := h.init; show x.init.length ≤ 255; omega, h.inits⟩, ⟨by have := h.fini; show x.fini.length ≤ 255; omega, h.finis⟩, fit_2 (n := x.tlsSize) (by have := h.tlsSize; omega), by have := h.tls; show x.tls.length ≤ 1048576; omega⟩)
  (fun x s => rfl) (fun _ => rfl)
end Go.Proofs.YtfljignkjmabpaaGreat
namespace Go.Proofs.YtfljignkjmabpaaGreat
set_option maxRecDepth 100000
open Go.RowKit
theorem ok_mod {x : Im} (h : Rg x) : Mod x := by
 have room_le : ∀ (n m : Nat) (l : List Str), l.length ≤ n → (∀ v ∈ l, v.length ≤ m) → room l ≤ (m + 8) * l.length := by
  intro n m l
  induction l generalizing n with
  | nil => intro _ _; simp [room]
  | cons a l ih =>
   intro hl hv
   have h1 := ih l.length (Nat.le_refl _) (fun v hv' => hv v (by simp [hv']))
   have h2 := hv a (by simp)
   have e : room (a :: l) = a.length + 8 + room l := by simp [room]
   rw [e, List.length_cons, Nat.mul_succ]
   omega
 refine ⟨h.name, ⟨h.segs, fun s hs => (h.seg s hs).2.2.2⟩, ⟨h.needed, fun s hs => ?_⟩, ⟨h.run, ?_⟩, ⟨h.syms, fun s hs => ?_⟩, ⟨h.rows, fun r hr => (h.row r hr).1⟩, h.words, h.relocs, h.slots, h.init, h.fini, h.tls⟩
 ·
  have q := h.need s hs
  have := room_le 16 64 s.vers q.2.1 q.2.2
  unfold cNd cTx
  omega
 ·
  have := room_le 16 200 x.run h.run h.runs
  have := h.run
  unfold cTx
  omega
 ·
  have q := h.sym s hs
  unfold cSym
  omega
def formL (x : Im) : Str := (im13 x (0, [])).2
theorem form_ok {x : Im} (h : mayE x = 0) (hf : Fit x) : im13 x (0, []) = (0, formL x) ∧ (∀ rest, rdIm (0, formL x ++ rest) = (x, false, (0, rest))) ∧ (formL x).length ≤ 4000000 := by
 have hr := ok_rg (may_ok h)
 obtain ⟨d, a, b⟩ := cdIm.back x ⟨hr, hf.int⟩
 have a0 := a []
 rw [List.nil_append] at a0
 have e : formL x = d := by unfold formL; rw [a0]
 refine ⟨by rw [e]; exact a0, by rw [e]; exact b, ?_⟩
 have := im13_len (ok_mod hr) (0, [])
 unfold formL
 simp only [List.length_nil] at this
 omega
def Encoded (w : World) (l : Str) (e : Ending) (w' : World) : Prop :=
 ∃ A c, e = .returned (.tuple #[.slice A l.length c, .int .i64 0]) ∧ w'.ownsRow w.heap.size 5 1 (.slice A l.length c) l.length (cells l) ∧ Below w.heap.size w w'
set_option maxHeartbeats 1000000 in
theorem encode_yes (p : Pl) (x : Im) (w : World) (h : ImIn w (fun k => k < w.heap.size) p x) (hf : Fit x) (hm : mayE x = 0) :
  Calls Tryz.prog 12 #[imV p x] w (Encoded w (formL x)) := by
 have HB := hD (ibox_below w p x)
 have HX := hD (Ix.new w p x)
 have HM := may_im_any p x (w.alloc (.cells (imA p x) 40)) (h.lt (ibox_below w p x)) hf
 rw [hm] at HM
 have HM := hD HM
 have HI := hD h
 have HR := hD (ok_rg (may_ok hm))
 have HF := hD hf.int
 have HO := hD (form_ok hm hf)
 clear h hf hm
 go_enter Tryz.func12, Tryz.ntmps12
 go_upto_region 1 with (fail)
 change Code.wp _ _ _ _ (w.alloc (.cells (imA p x) 40))
 generalize hw1 : w.alloc (.cells (imA p x) 40) = w1 at *
 obtain ⟨c0, c1, c2, c3, c4, c5, c6, c7, c8, c9, c10, c11, c12, c13, c14⟩ := HX.out.cells
 clear hw1
 go_upto_region 4 with (go_at_call 15; (with_reducible refine (HM.out).mono ?_); rintro e w2 ⟨rfl, hb2⟩; have HB2 := hD hb2; clear hb2)
 clear c0 c1 c2 c3 c4 c5 c6 c7 c8 c9 c10 c11 c12 c13 c14 HM
 have HXX := hD (HX.out.below HB2.out)
 have HBB := hD (HB.out.trans (HB2.out.mono HB.out.size))
 clear HX HB HB2
 go_upto_region 5 with (go_at_call 22; (with_reducible refine (wnew_any _).mono ?_); rintro e w3 ⟨rfl, hw3, hb3, hz3⟩; have HW3 := hD hw3; have HB3 := hD hb3; have HZ3 := hD hz3; clear hw3 hb3 hz3)
 have hbx : Below w3.heap.size w3 (w3.alloc (.cells #[.pointer (some ⟨w2.heap.size, 0, none⟩)] 76)) := (Below.refl _ _).alloc (Nat.le_refl _) _
 have HWI := hD (show Wi (w3.alloc (.cells #[.pointer (some ⟨w2.heap.size, 0, none⟩)] 76)) (fun k => k < w2.heap.size ∨ k = w3.heap.size) w3.heap.size w2.heap.size (0, []) from by
  refine ⟨⟨_, none, 0, HW3.out.below hbx, ?_⟩, Bx.new _ _ _, .inr rfl, ?_⟩
  ·
   rintro k (hk | rfl)
   ·
    exact ⟨by omega, by simp [row]⟩
   ·
    have := HZ3.out
    exact ⟨by omega, by simp [row]⟩
  ·
   have := HZ3.out
   rintro k (hk | rfl)
   ·
    simp; omega
   ·
    simp)
 have HBX := hD ((HBB.out.trans (HB3.out.mono HBB.out.size)).trans (hbx.mono (Nat.le_trans HBB.out.size HB3.out.size)))
 have HX4 := hD ((HXX.out.below HB3.out).below hbx)
 have hs2 : w.heap.size ≤ w2.heap.size := HBB.out.size
 have HS2 := hD hs2
 clear hbx hs2 HXX HW3 HB3
 change Code.wp _ _ _ _ (w3.alloc (.cells #[.pointer (some ⟨w2.heap.size, 0, none⟩)] 76))
 generalize w3.alloc (.cells #[.pointer (some ⟨w2.heap.size, 0, none⟩)] 76) = w4 at *
 generalize w3.heap.size = G at *
 generalize hg : w2.heap.size = g at *
 obtain ⟨c0, c1, c2, c3, c4, c5, c6, c7, c8, c9, c10, c11, c12, c13, c14⟩ := HX4.out.cells
 have HIM := hD (wimage_any p x w4 HWI.out ((HI.out.keep fun k hk _ => HBX.out.block k hk).weak fun k hk => .inl (Nat.lt_of_lt_of_le hk HS2.out)) (ok_mod HR.out) HF.out (by simp))
 rw [HO.out.1] at HIM
 go_upto_region 6 with (go_at_call 23; (with_reducible refine (HIM.out).mono ?_); rintro e w5 ⟨rfl, hw5, hk5⟩; have HW5 := hD hw5; have HK5 := hD hk5; clear hw5 hk5)
 clear HIM c0 c1 c2 c3 c4 c5 c6 c7 c8 c9 c10 c11 c12 c13 c14
 have hc := HW5.out.c0
 have HB5 := hD (HBX.out.trans (HK5.out.to_below fun k hk => .inl (Nat.lt_of_lt_of_le hk HS2.out)))
 obtain ⟨B, A, c, hwr, -⟩ := HW5.out.wr
 have HBY := hD (bytes_ok B g A c (formL x) w5 hwr (by have := HO.out.2.2; omega))
 clear hwr
 go_wp2_with (go_at_call 24; (with_reducible refine (HBY.out).mono ?_); rintro e w6 ⟨A6, c6, rfl, hown, hb6⟩; have HOW := hD hown; have HB6 := hD hb6; clear hown hb6)
 go_ret2
 exact ⟨A6, c6, rfl, own_more HOW.out HB5.out.size, HB5.out.trans (HB6.out.mono HB5.out.size)⟩
end Go.Proofs.YtfljignkjmabpaaGreat
namespace Go.Proofs.YtfljignkjmabpaaGreat
set_option maxRecDepth 100000
open Go.RowKit
abbrev Box : Type := Nat × Array Value × TypeId
structure Dw (w : World) (F : Nat → Prop) (g : Nat) (s : St) : Prop where
 wr : ∃ B A c, Wm w B g s.1 A c s.2 ∧ ∀ k, F k → k ≠ g ∧ row A ≠ some k
 lt : ∀ k, F k → k < w.heap.size
def Wrd (w : World) (F : Nat → Prop) (g : Nat) (s : St) (en : Ending) (w' : World) : Prop := en = .returned (.tuple #[]) ∧ Dw w' F g s ∧ Kp F w w'
section
variable {w w' : World} {F F' : Nat → Prop} {g : Nat} {s : St}
theorem Dw.below (h : Dw w F g s) (hb : Below w.heap.size w w') : Dw w' F g s := by
 obtain ⟨⟨B, A, c, h1, h2⟩, h5⟩ := h
 exact ⟨⟨B, A, c, h1.below hb, h2⟩, fun k hk => Nat.lt_of_lt_of_le (h5 k hk) hb.size⟩
theorem Dw.weak (h : Dw w F g s) (hF : ∀ k, F' k → F k) : Dw w F' g s := by
 obtain ⟨⟨B, A, c, h1, h2⟩, h5⟩ := h
 exact ⟨⟨B, A, c, h1, fun k hk => h2 k (hF k hk)⟩, fun k hk => h5 k (hF k hk)⟩
theorem Dw.alloc (h : Dw w F g s) (o : Obj) : Dw (w.alloc o) (fun k => F k ∨ k = w.heap.size) g s := by
 have hb : Below w.heap.size w (w.alloc o) := (Below.refl _ _).alloc (Nat.le_refl _) _
 obtain ⟨⟨B, A, c, h1, h2⟩, h5⟩ := h
 refine ⟨⟨B, A, c, h1.below hb, ?_⟩, ?_⟩
 ·
  rintro k (hk | rfl)
  ·
   exact h2 k hk
  ·
   have hg := h1.lt
   exact ⟨by omega, fun e => by have := (h1.rowLt _ e).2; omega⟩
 ·
  rintro k (hk | rfl)
  ·
   have := h5 k hk
   have := hb.size
   omega
  ·
   simp
theorem Dw.at_ {B : Nat} {A : Option Addr} {s' : St} (h5 : ∀ k, F k → k < w.heap.size) (h2 : ∀ k, F k → k ≠ g ∧ row A ≠ some k) (ha : AtM w B g A s'.1 s'.2 w') : Dw w' F g s' ∧ Kp F w w' := by
 obtain ⟨A', c', hw, hs⟩ := ha
 have hk : Kp F w w' := ⟨hs.os, hs.tape, hs.output, hs.size, fun k hk => hs.block k (h5 k hk) (h2 k hk).1 (h2 k hk).2⟩
 refine ⟨⟨⟨B, A', c', hw, fun k hk' => ⟨(h2 k hk').1, ?_⟩⟩, fun k hk' => Nat.lt_of_lt_of_le (h5 k hk') hs.size⟩, hk⟩
 rcases hs.row with hr | ⟨j, hj, hr⟩
 ·
  rw [hr]; exact (h2 k hk').2
 ·
  rw [hr]
  intro e
  injection e with e
  have := h5 k hk'
  omega
theorem Dw.num (h : Dw w F g s) (size : Int) (An : Option Addr) (n cn : Nat) (ns : List Int) (hx : Src w F An n cn (ints ns)) (hn : s.2.length + 8 * n ≤ 140737488355328) :
  Calls Tryz.prog 71 #[.pointer (some ⟨g, 0, none⟩), .int .i64 size, .slice An n cn] w (Wrd w F g (wNumsA size ns s)) := by
 obtain ⟨⟨B, A, c, h1, h2⟩, h5⟩ := h
 refine (vnum_any B g s A c size An n cn ns w h1 (hx.weak h2) hn).mono ?_
 rintro en w' ⟨rfl, ha⟩
 exact ⟨rfl, Dw.at_ h5 h2 ha⟩
theorem Dw.text (h : Dw w F g s) (An : Option Addr) (n cn : Nat) (ss : List (List UInt8)) (hx : Src w F An n cn (strs ss)) (hn : s.2.length + room ss ≤ 140737488355328) :
  Calls Tryz.prog 70 #[.pointer (some ⟨g, 0, none⟩), .slice An n cn] w (Wrd w F g (wTexts ss s)) := by
 obtain ⟨⟨B, A, c, h1, h2⟩, h5⟩ := h
 refine (vtext_any B g s A c An n cn ss w h1 (hx.weak h2) hn).mono ?_
 rintro en w' ⟨rfl, ha⟩
 exact ⟨rfl, Dw.at_ h5 h2 ha⟩
theorem Dw.block (h : Dw w F g s) (An : Option Addr) (n cn : Nat) (l : List UInt8) (hx : Src w F An n cn (cells l)) (hn : s.2.length + 8 + n ≤ 140737488355328) :
  Calls Tryz.prog 72 #[.pointer (some ⟨g, 0, none⟩), .slice An n cn] w (Wrd w F g (wMeas 4 1048576 l s)) := by
 obtain ⟨⟨B, A, c, h1, h2⟩, h5⟩ := h
 refine (vblock_any B g s A c An n cn l w h1 (hx.weak h2) hn).mono ?_
 rintro en w' ⟨rfl, ha⟩
 exact ⟨rfl, Dw.at_ h5 h2 ha⟩
end
def FB (F : Nat → Prop) (bs : List Box) (k : Nat) : Prop := F k ∨ ∃ b ∈ bs, k = b.1
structure Wy (w : World) (F : Nat → Prop) (g : Nat) (bs : List Box) (s : St) (X : World) : Prop where
 dw : Dw X (FB F bs) g s
 kp : Kp F w X
 bx : ∀ b ∈ bs, Bx X b.1 b.2.1 b.2.2
section
variable {w X X' : World} {F : Nat → Prop} {g : Nat} {bs : List Box} {b b2 : Box} {s s' : St}
theorem Wy.b0 (h : Wy w F g (b :: bs) s X) : Bx X b.1 b.2.1 b.2.2 := h.bx b (by simp)
theorem Wy.b1 (h : Wy w F g (b2 :: b :: bs) s X) : Bx X b.1 b.2.1 b.2.2 := h.bx b (by simp)
theorem Wy.below (h : Wy w F g bs s X) (hb : Below X.heap.size X X') : Wy w F g bs s X' :=
 ⟨h.dw.below hb, h.kp.trans (Kp.of_below hb fun k hk => h.dw.lt k (.inl hk)), fun b hb' => (h.bx b hb').below hb⟩
theorem Wy.drew (h : Wy w F g bs s X) : Wy w F g bs s X.drew := h.below ⟨rfl, rfl, rfl, Nat.le_refl _, fun _ _ => rfl⟩
theorem Wy.new (h : Wy w F g bs s X) (o : Obj) : Wy w F g bs s (X.alloc o) := h.below ((Below.refl _ _).alloc (Nat.le_refl _) o)
theorem Wy.more (h : Wy w F g bs s X) (cs : Array Value) (ty : TypeId) : Wy w F g ((X.heap.size, cs, ty) :: bs) s (X.alloc (.cells cs ty)) := by
 have hb : Below X.heap.size X (X.alloc (.cells cs ty)) := (Below.refl _ _).alloc (Nat.le_refl _) _
 refine ⟨(h.dw.alloc (.cells cs ty)).weak ?_, h.kp.trans (Kp.of_below hb fun k hk => h.dw.lt k (.inl hk)), ?_⟩
 ·
  rintro k (hk | ⟨c, hc, rfl⟩)
  ·
   exact .inl (.inl hk)
  ·
   rcases List.mem_cons.1 hc with rfl | hc
   ·
    exact .inr rfl
   ·
    exact .inl (.inr ⟨c, hc, rfl⟩)
 ·
  intro c hc
  rcases List.mem_cons.1 hc with rfl | hc
  ·
   exact Bx.new _ _ _
  ·
   exact (h.bx c hc).below hb
theorem Wy.less (h : Wy w F g (b :: bs) s X) : Wy w F g bs s X :=
 ⟨h.dw.weak (fun k hk => hk.elim .inl fun ⟨c, hc, e⟩ => .inr ⟨c, List.mem_cons_of_mem _ hc, e⟩), h.kp, fun c hc => h.bx c (List.mem_cons_of_mem _ hc)⟩
theorem Wy.step {en : Ending} (h : Wy w F g bs s X) (k : Wrd X (FB F bs) g s' en X') : en = .returned (.tuple #[]) ∧ Wy w F g bs s' X' :=
 ⟨k.1, k.2.1, h.kp.trans (k.2.2.weak fun _ hk => .inl hk), fun b hb => k.2.2.bx (.inr ⟨b, hb, rfl⟩) (h.bx b hb)⟩
theorem Wy.num (h : Wy w F g bs s X) (size : Int) (An : Option Addr) (n cn : Nat) (ns : List Int) (hx : Src w F An n cn (ints ns)) (hn : s.2.length + 8 * n ≤ 140737488355328) :
  Calls Tryz.prog 71 #[.pointer (some ⟨g, 0, none⟩), .int .i64 size, .slice An n cn] X fun en X' => en = .returned (.tuple #[]) ∧ Wy w F g bs (wNumsA size ns s) X' :=
 (h.dw.num size An n cn ns ((hx.kp h.kp).weak fun _ hk => .inl hk) hn).mono fun _ _ k => h.step k
theorem Wy.text (h : Wy w F g bs s X) (An : Option Addr) (n cn : Nat) (ss : List (List UInt8)) (hx : Src w F An n cn (strs ss)) (hn : s.2.length + room ss ≤ 140737488355328) :
  Calls Tryz.prog 70 #[.pointer (some ⟨g, 0, none⟩), .slice An n cn] X fun en X' => en = .returned (.tuple #[]) ∧ Wy w F g bs (wTexts ss s) X' :=
 (h.dw.text An n cn ss ((hx.kp h.kp).weak fun _ hk => .inl hk) hn).mono fun _ _ k => h.step k
theorem Wy.block (h : Wy w F g bs s X) (An : Option Addr) (n cn : Nat) (l : List UInt8) (hx : Src w F An n cn (cells l)) (hn : s.2.length + 8 + n ≤ 140737488355328) :
  Calls Tryz.prog 72 #[.pointer (some ⟨g, 0, none⟩), .slice An n cn] X fun en X' => en = .returned (.tuple #[]) ∧ Wy w F g bs (wMeas 4 1048576 l s) X' :=
 (h.dw.block An n cn l ((hx.kp h.kp).weak fun _ hk => .inl hk) hn).mono fun _ _ k => h.step k
theorem Wy.nums (h : Wy w F g bs s X) (size : Int) (ns : List Int) (hn : s.2.length + 8 * ns.length ≤ 140737488355328) :
  Calls Tryz.prog 71 #[.pointer (some ⟨g, 0, none⟩), .int .i64 size, .slice (some ⟨X.heap.size, 0, none⟩) ns.length ns.length] (X.alloc (.cells (ints ns).toArray 3)) fun en X' => en = .returned (.tuple #[]) ∧ Wy w F g bs (wNumsA size ns s) X' := by
 have hl : (ints ns).length = ns.length := by simp [ints]
 have hs := src_new X (ints ns) 3
 rw [hl] at hs
 have hm := h.more (ints ns).toArray 3
 refine (hm.dw.num size _ ns.length ns.length ns (hs.weak fun k hk => .inr ⟨_, List.mem_cons_self, hk⟩) hn).mono ?_
 intro en w' k
 have := hm.step k
 exact ⟨this.1, this.2.less⟩
theorem Wy.texts (h : Wy w F g bs s X) (ss : List (List UInt8)) (hn : s.2.length + room ss ≤ 140737488355328) :
  Calls Tryz.prog 70 #[.pointer (some ⟨g, 0, none⟩), .slice (some ⟨X.heap.size, 0, none⟩) ss.length ss.length] (X.alloc (.cells (strs ss).toArray 9)) fun en X' => en = .returned (.tuple #[]) ∧ Wy w F g bs (wTexts ss s) X' := by
 have hl : (strs ss).length = ss.length := by simp [strs]
 have hs := src_new X (strs ss) 9
 rw [hl] at hs
 have hm := h.more (strs ss).toArray 9
 refine (hm.dw.text _ ss.length ss.length ss (hs.weak fun k hk => .inr ⟨_, List.mem_cons_self, hk⟩) hn).mono ?_
 intro en w' k
 have := hm.step k
 exact ⟨this.1, this.2.less⟩
theorem Wy.nums1 (h : Wy w F g bs s X) (size a : Int) (hn : s.2.length + 8 ≤ 140737488355328) :
  Calls Tryz.prog 71 #[.pointer (some ⟨g, 0, none⟩), .int .i64 size, .slice (some ⟨X.heap.size, 0, none⟩) 1 1] (X.alloc (.cells #[.int .i64 a] 3)) fun en X' => en = .returned (.tuple #[]) ∧ Wy w F g bs (wNumsA size [a] s) X' :=
 h.nums size [a] hn
theorem Wy.nums2 (h : Wy w F g bs s X) (size a b : Int) (hn : s.2.length + 16 ≤ 140737488355328) :
  Calls Tryz.prog 71 #[.pointer (some ⟨g, 0, none⟩), .int .i64 size, .slice (some ⟨X.heap.size, 0, none⟩) 2 2] (X.alloc (.cells #[.int .i64 a, .int .i64 b] 3)) fun en X' => en = .returned (.tuple #[]) ∧ Wy w F g bs (wNumsA size [a, b] s) X' :=
 h.nums size [a, b] hn
theorem Wy.texts1 (h : Wy w F g bs s X) (a : Str) (hn : s.2.length + ((a.length + 8)) ≤ 140737488355328) :
  Calls Tryz.prog 70 #[.pointer (some ⟨g, 0, none⟩), .slice (some ⟨X.heap.size, 0, none⟩) 1 1] (X.alloc (.cells #[str a] 9)) fun en X' => en = .returned (.tuple #[]) ∧ Wy w F g bs (wTexts [a] s) X' :=
 h.texts [a] (by simp [room]; omega)
theorem Wy.texts2 (h : Wy w F g bs s X) (a b : Str) (hn : s.2.length + ((a.length + 8) + (b.length + 8)) ≤ 140737488355328) :
  Calls Tryz.prog 70 #[.pointer (some ⟨g, 0, none⟩), .slice (some ⟨X.heap.size, 0, none⟩) 2 2] (X.alloc (.cells #[str a, str b] 9)) fun en X' => en = .returned (.tuple #[]) ∧ Wy w F g bs (wTexts [a, b] s) X' :=
 h.texts [a, b] (by simp [room]; omega)
theorem Wy.nums1d (h : Wy w F g bs s X) (size a : Int) (hn : s.2.length + 8 ≤ 140737488355328) :
  Calls Tryz.prog 71 #[.pointer (some ⟨g, 0, none⟩), .int .i64 size, .slice (some ⟨X.heap.size, 0, none⟩) 1 1] (X.alloc (.cells #[.int .i64 a] 3)).drew fun en X' => en = .returned (.tuple #[]) ∧ Wy w F g bs (wNumsA size [a] s) X' :=
 h.drew.nums size [a] hn
theorem Wy.nums2d (h : Wy w F g bs s X) (size a b : Int) (hn : s.2.length + 16 ≤ 140737488355328) :
  Calls Tryz.prog 71 #[.pointer (some ⟨g, 0, none⟩), .int .i64 size, .slice (some ⟨X.heap.size, 0, none⟩) 2 2] (X.alloc (.cells #[.int .i64 a, .int .i64 b] 3)).drew fun en X' => en = .returned (.tuple #[]) ∧ Wy w F g bs (wNumsA size [a, b] s) X' :=
 h.drew.nums size [a, b] hn
theorem Wy.nums3d (h : Wy w F g bs s X) (size a b c : Int) (hn : s.2.length + 24 ≤ 140737488355328) :
  Calls Tryz.prog 71 #[.pointer (some ⟨g, 0, none⟩), .int .i64 size, .slice (some ⟨X.heap.size, 0, none⟩) 3 3] (X.alloc (.cells #[.int .i64 a, .int .i64 b, .int .i64 c] 3)).drew fun en X' => en = .returned (.tuple #[]) ∧ Wy w F g bs (wNumsA size [a, b, c] s) X' :=
 h.drew.nums size [a, b, c] hn
theorem Wy.nums5d (h : Wy w F g bs s X) (size a b c d e : Int) (hn : s.2.length + 40 ≤ 140737488355328) :
  Calls Tryz.prog 71 #[.pointer (some ⟨g, 0, none⟩), .int .i64 size, .slice (some ⟨X.heap.size, 0, none⟩) 5 5] (X.alloc (.cells #[.int .i64 a, .int .i64 b, .int .i64 c, .int .i64 d, .int .i64 e] 3)).drew fun en X' => en = .returned (.tuple #[]) ∧ Wy w F g bs (wNumsA size [a, b, c, d, e] s) X' :=
 h.drew.nums size [a, b, c, d, e] hn
theorem Wy.texts1d (h : Wy w F g bs s X) (a : Str) (hn : s.2.length + ((a.length + 8)) ≤ 140737488355328) :
  Calls Tryz.prog 70 #[.pointer (some ⟨g, 0, none⟩), .slice (some ⟨X.heap.size, 0, none⟩) 1 1] (X.alloc (.cells #[str a] 9)).drew fun en X' => en = .returned (.tuple #[]) ∧ Wy w F g bs (wTexts [a] s) X' :=
 h.drew.texts [a] (by simp [room]; omega)
theorem Wy.texts2d (h : Wy w F g bs s X) (a b : Str) (hn : s.2.length + ((a.length + 8) + (b.length + 8)) ≤ 140737488355328) :
  Calls Tryz.prog 70 #[.pointer (some ⟨g, 0, none⟩), .slice (some ⟨X.heap.size, 0, none⟩) 2 2] (X.alloc (.cells #[str a, str b] 9)).drew fun en X' => en = .returned (.tuple #[]) ∧ Wy w F g bs (wTexts [a, b] s) X' :=
 h.drew.texts [a, b] (by simp [room]; omega)
end
def WY (w : World) (F : Nat → Prop) (g : Nat) (bs : List Box) (X : World) : Prop := ∃ t, Wy w F g bs t X
theorem WY.new {w : World} {F : Nat → Prop} {g : Nat} {bs : List Box} {X : World} (h : WY w F g bs X) (o : Obj) : WY w F g bs (X.alloc o) := by
 obtain ⟨t, h⟩ := h
 exact ⟨t, h.new o⟩
theorem done_any (b : Bool) (w : World) : Calls Tryz.prog 74 #[.bool b] w fun e w' => e = .returned (.int .i64 (oneI b)) ∧ w = w' := by
 cases b
 ·
  go_enter Tryz.func74, Tryz.ntmps74
  go_wp2
  go_ret
  exact ⟨rfl, rfl⟩
 ·
  go_enter Tryz.func74, Tryz.ntmps74
  go_wp2
  go_ret
  exact ⟨rfl, rfl⟩
set_option maxHeartbeats 400000 in
theorem dcounted_any {w X : World} {F : Nat → Prop} {g : Nat} {bs : List Box} {s : St} (A : Option Addr) (c : Nat) (l : List Str) (h : Wy w F g bs s X) (hx : Src w F A l.length c (strs l)) (hn : s.2.length + cTx l ≤ 140737488355328) :
  Calls Tryz.prog 73 #[.pointer (some ⟨g, 0, none⟩), .slice A l.length c] X fun en X' => en = .returned (.tuple #[]) ∧ Wy w F g bs (fTx l s) X' := by
 have HX := hD hx
 have hcap := hx.cap
 unfold cTx at hn
 have hr := room_ge l
 have H1 := wNumsA_len 1 [(l.length : Int)] s
 simp only [List.length_cons, List.length_nil] at H1
 have H2 := hD (show (wNumsA 1 [(l.length : Int)] s).2.length + room l ≤ 140737488355328 by omega)
 have HN := hD (h.nums1 1 (l.length : Int) (by omega))
 clear h hx
 go_enter Tryz.func73, Tryz.ntmps73
 go_upto_region 1 with (go_at_call 71; (with_reducible refine (HN.out).mono ?_); rintro en w1 ⟨rfl, hw⟩; have HW := hD hw; clear hw)
 clear HN
 have HM := hD (HW.out.text A l.length c l HX.out H2.out)
 go_wp2_with (go_at_call 70; (with_reducible refine (HM.out).mono ?_); rintro en w2 ⟨rfl, hw⟩; have HW2 := hD hw; clear hw)
 first | go_end0 | skip
 exact ⟨rfl, HW2.out⟩
end Go.Proofs.YtfljignkjmabpaaGreat
