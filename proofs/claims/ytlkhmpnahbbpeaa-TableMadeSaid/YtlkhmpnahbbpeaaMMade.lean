/-
  The law on what is found by the table that is made, walked.
-/
import Derived.Test.YtlkhmpnahbbpeaaL
import Derived.Test.YtlkhmpnahbbpeaaMLoad
import Derived.Test.YtlkhmpnahbbpeaaYTr
namespace Go.Proofs.Ytlkhmpnahbbpeaa
open Go.RowKit

theorem first_some {r : Sym} {ss : List Sym} {k : Nat} (hk : k < ss.length) (h : matchB r ss[k] (ss.any vdB) = true) : ∃ j, ∃ hj : j < ss.length, firstS r ss = (j : Int) ∧ j ≤ k ∧ ss[j].name = r.name := by
  cases hf : ss.findIdx? (fun d => matchB r d (ss.any vdB)) with
  | none =>
    rw [List.findIdx?_eq_none_iff] at hf
    rw [hf _ (List.getElem_mem hk)] at h
    cases h
  | some j =>
    have hf' := hf
    rw [List.findIdx?_eq_some_iff_getElem] at hf
    obtain ⟨hj, h1, h2⟩ := hf
    refine ⟨j, hj, by rw [firstS, hf'], ?_, (match_name h1).2⟩
    rcases Nat.lt_or_ge k j with hkj | hkj
    · have := h2 k hkj
      rw [h] at this
      exact absurd rfl this
    · exact hkj
/-- The reference that asks for a symbol's name and version. -/
def refS (x : Sym) : Sym := ⟨x.name, x.ver, false, 0, false, 0, false, 0, 0⟩
theorem right_match {x : Sym} {v : Bool} (h1 : seenB x = true) (h2 : rightB x = true) : matchB (refS x) x v = true := by
  unfold matchB
  rw [if_neg (by simp [h1, refS])]
  unfold rightB textB at h2
  simp only [Bool.and_eq_true] at h2
  by_cases hv : x.ver.isEmpty = true
  · rw [if_pos (show (refS x).ver.isEmpty = true from hv)]
    have := h2.1.1
    rw [if_pos hv] at this
    simp only [Bool.and_eq_true] at this
    exact this.2
  · rw [if_neg (show ¬ (refS x).ver.isEmpty = true from hv)]
    simp [refS]
set_option maxRecDepth 100000 in
set_option maxHeartbeats 4000000 in
theorem made_any (A : Option Addr) (n c : Nat) (ss : List Sym) (at_ : UInt16) (w : World) (h : Syl w (fun k => k < w.heap.size) A n c ss) (hn : n ≤ 1000000000000000000) (hs : ∀ s ∈ ss, s.name.length ≤ 140737488351232 ∧ s.ver.length ≤ 140737488351232) : Calls Try.prog 8 #[.slice A n c, .int .u16 (at_.toNat : Int)] w fun e w' => e = .returned (.bool true) ∧ Below w.heap.size w w' := by
  obtain rfl := h.len
  have H := Lib.hid h
  have HA := Lib.hid awake_any
  have HS := Lib.hid hs
  have hnm : Named ss := fun s hs' => (hs s hs').1
  by_cases h5 : 512 < ss.length
  · have HM := Lib.hid (fun X => tmake_no A ss.length c X h5 (by omega))
    clear h5 h
    go_enter Try.func8, Try.ntmps8
    go_upto_region 2 with (go_at_call 11; refine (HA.out _).mono ?_; rintro e w1 ⟨rfl, hb1⟩; have HB1 := Lib.hid hb1; clear hb1)
    go_upto_region 3 with (go_at_call 12; refine (HM.out _).mono ?_; rintro e w2 ⟨rfl, hb2⟩; have HB2 := Lib.hid (HB1.out.trans (hb2.mono HB1.out.size)); clear hb2)
    have HB3 := Lib.hid (HB2.out.trans ((tab_box w2 (tabA none 0 0 none 0 0 0)).1.mono HB2.out.size))
    change Code.wp _ _ _ _ (w2.alloc (.cells (tabA none 0 0 none 0 0 0) 29))
    generalize w2.alloc (.cells (tabA none 0 0 none 0 0 0) 29) = w3 at *
    go_upto_region 99 with (fail)
    first | go_ret | skip
    exact ⟨rfl, HB3.out⟩
  · have hss : ss.length ≤ 512 := by omega
    have HM := Lib.hid (fun (X : World) (hX : Below w.heap.size w X) => tmake_any A c ss X (H.out.lt hX) hss hnm)
    have hct := cntS_le hss
    have hwl : (filS ss).length = wlS ss := fil_len ss
    have hw64 : wlS ss ≤ 64 := by
      unfold wlS wcN
      repeat' split
      all_goals omega
    have HF := Lib.hid (fun (X : World) g Af cf r (hr : r.name.length ≤ 140737488351232) (ht : TabV X (fun k => k < X.heap.size) (some ⟨g, 0, none⟩) (cntS ss) (cntS ss) Af cf (fillS ss (cntS ss) ss.length) (filS ss)) (hX : Below w.heap.size w X) => tfind_any (some ⟨g, 0, none⟩) (cntS ss) (cntS ss) Af cf (fillS ss (cntS ss) ss.length) (filS ss) 6 r A c ss X ht (H.out.lt hX) (by omega) (by omega) (by omega) (by omega) (fun k _ => Nat.le_trans (fill_len ss (cntS ss) ss.length k) (by omega)))
    rw [hwl] at HF
    have HFF := Lib.hid (fun r => find_first (r := r) (made_right hss))
    have HQF := Lib.hid (fun (X : World) (hX : Below w.heap.size w X) r => qfirst_any r A ss.length c ss X (h.lt hX) (by omega))
    have HFS := Lib.hid (fun r k hk h1 => first_some (r := r) (ss := ss) (k := k) hk h1)
    clear h5 h hs hwl hw64 hnm
    go_enter Try.func8, Try.ntmps8
    go_upto_region 2 with (go_at_call 11; refine (HA.out _).mono ?_; rintro e w1 ⟨rfl, hb1⟩; have HB1 := Lib.hid hb1; clear hb1)
    go_upto_region 3 with (go_at_call 12; refine (HM.out _ HB1.out).mono ?_; rintro e w2 ⟨g, s, Af, cf, rfl, ht⟩; have HT2 := Lib.hid ht.tabv; have HB2 := Lib.hid (HB1.out.trans (ht.2.2.mono HB1.out.size)); clear ht)
    have hbx := tab_box w2 (tabA (some ⟨g, 0, none⟩) (cntS ss) (cntS ss) Af (wlS ss) cf 6)
    have HB3 := Lib.hid (HB2.out.trans (hbx.1.mono HB2.out.size))
    have HT3 := Lib.hid (HT2.out.lt hbx.1)
    have HX3 := Lib.hid hbx.2
    clear hbx HT2 HB1 HB2 HM
    change Code.wp _ _ _ _ (w2.alloc (.cells (tabA (some ⟨g, 0, none⟩) (cntS ss) (cntS ss) Af (wlS ss) cf 6) 29))
    generalize w2.alloc (.cells (tabA (some ⟨g, 0, none⟩) (cntS ss) (cntS ss) Af (wlS ss) cf 6) 29) = w3 at *
    generalize w2.heap.size = tb at *
    by_cases h0 : ss.length = 0
    · have d0 : ((ss.length : Int) == 0) = true := by simp [h0]
      clear h0
      go_upto_region 99 with (fail)
      first | go_ret | skip
      exact ⟨rfl, HB3.out⟩
    · have d0 : ((ss.length : Int) == 0) = false := beq_eq_false_iff_ne.2 (by omega)
      have hpos : 0 < ss.length := by omega
      have hu : at_.toNat < 65536 := at_.toNat_lt
      generalize at_.toNat = an at *
      obtain ⟨k, hkd⟩ : ∃ k, k = an % ss.length := ⟨_, rfl⟩
      have hkl : k < ss.length := by rw [hkd]; exact Nat.mod_lt _ hpos
      have m0 : ((an : Int)).tmod (ss.length : Int) = (k : Int) := by rw [Int.tmod_eq_emod_of_nonneg (by omega), hkd]; rfl
      have m1 : wrap64 (an : Int) = (an : Int) := IntWalk.wrap64_in _ (by omega)
      have m2 : wrap64 (k : Int) = (k : Int) := IntWalk.wrap64_in _ (by omega)
      have k0 : (0 : Int) ≤ (k : Int) := by omega
      have k1 : (k : Int) < (ss.length : Int) := by omega
      clear hkd hu h0
      obtain ⟨ad, rfl⟩ : ∃ ad, A = some ad := by
        cases A with
        | none => have := (H.out.nil rfl).1; omega
        | some ad => exact ⟨ad, rfl⟩
      obtain ⟨b, o, rfl⟩ := H.out.plain hpos
      have hcap := H.out.cap
      obtain ⟨c0, c1, c2, c3, c4, c5, c6, c7, c8⟩ := (H.out.below HB3.out (fun _ h => h)).get k hkl
      have hsm := HS.out ss[k] (List.getElem_mem hkl)
      have HFK := Lib.hid (fun r => HFS.out r k hkl)
      generalize hx : ss[k] = x at *
      have HXK := Lib.hid hx
      clear hx
      go_upto_region 6 with (fail)
      change Code.wp _ _ _ _ (w3.alloc (.cells (symA x) 43))
      have hbx := box_below w3 x
      have HB4 := Lib.hid (HB3.out.trans (hbx.mono HB3.out.size))
      have HY4 := Lib.hid (Sx.new w3 x)
      have HT4 := Lib.hid (HT3.out.lt hbx)
      have HX4 := Lib.hid (HX3.out.below hbx)
      clear c0 c1 c2 c3 c4 c5 c6 c7 c8 hbx HB3 HT3 HX3
      generalize w3.alloc (.cells (symA x) 43) = w4 at *
      generalize w3.heap.size = xb at *
      obtain ⟨x0, x1, -⟩ := HY4.out.cells
      go_upto_region 7 with (fail)
      change Code.wp _ _ _ _ (w4.alloc (.cells (symA (refS x)) 43))
      have hbx := box_below w4 (refS x)
      have HB5 := Lib.hid (HB4.out.trans (hbx.mono HB4.out.size))
      have HR5 := Lib.hid (Sx.new w4 (refS x))
      have HY5 := Lib.hid (HY4.out.below hbx)
      have HT5 := Lib.hid (HT4.out.lt hbx)
      have HX5 := Lib.hid (HX4.out.below hbx)
      clear x0 x1 hbx HB4 HT4 HX4 HY4
      generalize w4.alloc (.cells (symA (refS x)) 43) = w5 at *
      generalize w4.heap.size = rb at *
      have HF5 := Lib.hid (HF.out w5 g Af cf (refS x) hsm.1 HT5.out HB5.out)
      have hfi := (HFF.out (refS x)).1
      clear HF HFF HT5
      generalize findT (cntS ss) (fillS ss (cntS ss) ss.length) (filS ss) 6 (refS x) ss = ft at *
      obtain ⟨fi, fe⟩ := ft
      change fi = _ at hfi
      have HQ5 := Lib.hid (fun (X : World) (hX : Below w.heap.size w X) => HQF.out X hX (refS x))
      have HK5 := Lib.hid (HFK.out (refS x))
      rw [← hfi] at HQ5 HK5
      clear hfi HQF HFK HFS
      have t0 := cell_of_row w5 tb 0 _ _ _ HX5.out
      have t1 := cell_of_row w5 tb 1 _ _ _ HX5.out
      have t2 := cell_of_row w5 tb 2 _ _ _ HX5.out
      simp only [List.getElem?_toArray, List.getElem?_cons_succ, List.getElem?_cons_zero] at t0 t1 t2
      obtain ⟨r0, r1, r2, r3, r4, r5, r6, r7, r8⟩ := HR5.out.cells
      simp only [refS] at r0 r1 r2 r3 r4 r5 r6 r7 r8
      generalize cntS ss = cn at *
      generalize wlS ss = wl at *
      go_upto_region 8 with (go_at_call 19; refine (HF5.out).mono ?_; rintro e w6 ⟨rfl, hb6⟩)
      have HB6 := Lib.hid (HB5.out.trans (hb6.mono HB5.out.size))
      have HR6 := Lib.hid (HR5.out.below hb6)
      have HY6 := Lib.hid (HY5.out.below hb6)
      clear t0 t1 t2 r0 r1 r2 r3 r4 r5 r6 r7 r8 hb6 HX5 HR5 HY5 HB5 HF5
      have HSE := Lib.hid (fun X => rseen_any x X)
      have HRG := Lib.hid (fun X => rright_any x X (by omega) (by omega))
      have HMX := Lib.hid (fun h1 h2 => right_match (x := x) (v := ss.any vdB) h1 h2)
      obtain ⟨x0, x1, x2, x3, x4, x5, x6, x7, x8⟩ := HY6.out.cells
      generalize hse : seenB x = se at *
      generalize hrg : rightB x = rg at *
      cases se
      · go_upto_region 9 with (go_at_call 24; refine (HSE.out _).mono ?_; rintro e w7 ⟨rfl, hb7⟩; have HB7 := Lib.hid (HB6.out.trans (hb7.mono HB6.out.size)); have HR7 := Lib.hid (HR6.out.below hb7); clear hb7)
        clear x0 x1 x2 x3 x4 x5 x6 x7 x8
        obtain ⟨r0, r1, r2, r3, r4, r5, r6, r7, r8⟩ := HR7.out.cells
        simp only [refS] at r0 r1 r2 r3 r4 r5 r6 r7 r8
        go_upto_region 99 with (go_at_call 23; refine (HQ5.out _ HB7.out).mono ?_; rintro e w8 ⟨rfl, hb8⟩; have HB8 := Lib.hid (HB7.out.trans (hb8.mono HB7.out.size)); clear hb8)
        first | go_ret | skip
        exact ⟨rfl, HB8.out⟩
      · go_upto_region 8 with (fail)
        cases rg
        · go_upto_region 9 with (first | (go_at_call 24; refine (HSE.out _).mono ?_; rintro e w7 ⟨rfl, hb7⟩; have HB7 := Lib.hid (HB6.out.trans (hb7.mono HB6.out.size)); have HR7 := Lib.hid (HR6.out.below hb7); have z0 := cell_below hb7 x0; have z1 := cell_below hb7 x1; have z2 := cell_below hb7 x2; have z3 := cell_below hb7 x3; have z4 := cell_below hb7 x4; have z5 := cell_below hb7 x5; have z6 := cell_below hb7 x6; have z7 := cell_below hb7 x7; have z8 := cell_below hb7 x8; clear hb7) | (go_at_call 25; refine (HRG.out _).mono ?_; rintro e w8 ⟨rfl, hb8⟩; have HB8 := Lib.hid (HB7.out.trans (hb8.mono HB7.out.size)); have HR8 := Lib.hid (HR7.out.below hb8); clear hb8))
          clear x0 x1 x2 x3 x4 x5 x6 x7 x8 z0 z1 z2 z3 z4 z5 z6 z7 z8
          obtain ⟨r0, r1, r2, r3, r4, r5, r6, r7, r8⟩ := HR8.out.cells
          simp only [refS] at r0 r1 r2 r3 r4 r5 r6 r7 r8
          go_upto_region 99 with (go_at_call 23; refine (HQ5.out _ HB8.out).mono ?_; rintro e w9 ⟨rfl, hb9⟩; have HB9 := Lib.hid (HB8.out.trans (hb9.mono HB8.out.size)); clear hb9)
          first | go_ret | skip
          exact ⟨rfl, HB9.out⟩
        · obtain ⟨j, hj, rfl, hjk, hjn⟩ := HK5.out (HMX.out rfl rfl)
          have hjn' : ss[j].name = x.name := hjn
          have HJN := Lib.hid hjn'
          have j0 : (0 : Int) ≤ (j : Int) := by omega
          have j1 : (j : Int) < (ss.length : Int) := by omega
          have jk : (j : Int) ≤ (k : Int) := by omega
          clear hjn hjn' HK5 HMX
          go_upto_region 10 with (first | (go_at_call 24; refine (HSE.out _).mono ?_; rintro e w7 ⟨rfl, hb7⟩; have HB7 := Lib.hid (HB6.out.trans (hb7.mono HB6.out.size)); have HY7 := Lib.hid (HY6.out.below hb7); have z0 := cell_below hb7 x0; have z1 := cell_below hb7 x1; have z2 := cell_below hb7 x2; have z3 := cell_below hb7 x3; have z4 := cell_below hb7 x4; have z5 := cell_below hb7 x5; have z6 := cell_below hb7 x6; have z7 := cell_below hb7 x7; have z8 := cell_below hb7 x8; clear hb7) | (go_at_call 25; refine (HRG.out _).mono ?_; rintro e w8 ⟨rfl, hb8⟩; have HB8 := Lib.hid (HB7.out.trans (hb8.mono HB7.out.size)); have HY8 := Lib.hid (HY7.out.below hb8); clear hb8))
          clear x0 x1 x2 x3 x4 x5 x6 x7 x8 z0 z1 z2 z3 z4 z5 z6 z7 z8
          obtain ⟨x0, -⟩ := HY8.out.cells
          obtain ⟨q0, -⟩ := (H.out.below HB8.out (fun _ h => h)).get j hj
          rw [HJN.out] at q0
          have hsl : (x.name == x.name) = true := by simp
          go_quiet (fail)
          go_wp2_with fail
          first | go_ret | skip
          exact ⟨rfl, below_drewN HB8.out _⟩
end Go.Proofs.Ytlkhmpnahbbpeaa
