/-
  The law on how many are looked at, walked.
-/
import Derived.Test.YtlkhmpnahbbpeaaMLoad
namespace Go.Proofs.Ytlkhmpnahbbpeaa
open Go.RowKit

theorem bucket_step {ss : List Sym} {cn k br : Nat} (hk : k < ss.length) : (fillS ss cn (k + 1) br).length = (fillS ss cn k br).length + (if (seenB ss[k] && (bkt (hashS ss[k].name) cn == br)) = true then 1 else 0) := by
  rw [fill_succ, List.length_append, inB_at hk]
  split <;> simp
theorem wl_le (ss : List Sym) : wlS ss ≤ 64 := by
  unfold wlS wcN
  repeat' split
  all_goals omega
theorem take_at {P : Program} {md : Region.Mode} {ops : Array Oper} {Q : Exit → Act → World → Prop} {S : World → Prop} {i : Nat} {oi : Oper} {d : Tmp} {v : Value} {fuel : Nat} {listed : Array Bool} {a : Act} {w : World} (hi : ops[i]? = some oi) (hd : oi.dst = some d)
    (hs : Region.noSelect ops = true) (hf : Region.free md ops listed i = true) (hr : (Region.ready md ops listed).contains i = true)
    (hQ : ∀ c a w, Q (.panic c) (a.put (some d) v) w → Q (.panic c) a w) (hy : YieldsIf P ops S oi v a) (hS : S w)
    (h : wpAnyH P md ops Q S fuel (listed.setIfInBounds i true) (a.put (some d) v) w) : wpAnyH P md ops Q S (fuel + 1) listed a w :=
  wpAnyH_take hi hs hf hr (by rw [hd]; exact hQ) hy hS (by rw [hd]; exact h)
set_option maxRecDepth 100000 in
set_option maxHeartbeats 4000000 in
theorem looks_any (A : Option Addr) (n c : Nat) (ss : List Sym) (r : Sym) (w : World) (h : Syl w (fun k => k < w.heap.size) A n c ss) (hn : n ≤ 1000000000000000000) (hs : Named ss) (hr : r.name.length ≤ 140737488351232) : Calls Try.prog 9 #[.slice A n c, symV r] w fun e w' => e = .returned (.bool true) ∧ Below w.heap.size w w' := by
  obtain rfl := h.len
  have H := Lib.hid h
  have HA := Lib.hid awake_any
  have HB0 := Lib.hid (box_below w r)
  have HY0 := Lib.hid (Sx.new w r)
  go_enter Try.func9, Try.ntmps9
  go_upto_region 1 with (fail)
  change Code.wp _ _ _ _ (w.alloc (.cells (symA r) 43))
  generalize w.alloc (.cells (symA r) 43) = w0 at *
  by_cases h5 : 512 < ss.length
  · have HM := Lib.hid (fun X => tmake_no A ss.length c X h5 (by omega))
    clear h5 h
    go_upto_region 2 with (go_at_call 11; refine (HA.out _).mono ?_; rintro e w1 ⟨rfl, hb1⟩; have HB1 := Lib.hid (HB0.out.trans (hb1.mono HB0.out.size)); clear hb1)
    go_upto_region 3 with (go_at_call 12; refine (HM.out _).mono ?_; rintro e w2 ⟨rfl, hb2⟩; have HB2 := Lib.hid (HB1.out.trans (hb2.mono HB1.out.size)); clear hb2)
    have HB3 := Lib.hid (HB2.out.trans ((tab_box w2 (tabA none 0 0 none 0 0 0)).1.mono HB2.out.size))
    change Code.wp _ _ _ _ (w2.alloc (.cells (tabA none 0 0 none 0 0 0) 29))
    generalize w2.alloc (.cells (tabA none 0 0 none 0 0 0) 29) = w3 at *
    go_upto_region 99 with (fail)
    first | go_ret | skip
    exact ⟨rfl, HB3.out⟩
  · have hss : ss.length ≤ 512 := by omega
    have HM := Lib.hid (fun (X : World) (hX : Below w.heap.size w X) => tmake_any A c ss X (H.out.lt hX) hss hs)
    have hct := cntS_le hss
    have hwl : (filS ss).length = wlS ss := fil_len ss
    have HF := Lib.hid (fun (X : World) g Af cf (ht : TabV X (fun k => k < X.heap.size) (some ⟨g, 0, none⟩) (cntS ss) (cntS ss) Af cf (fillS ss (cntS ss) ss.length) (filS ss)) (hX : Below w.heap.size w X) => tfind_any (some ⟨g, 0, none⟩) (cntS ss) (cntS ss) Af cf (fillS ss (cntS ss) ss.length) (filS ss) 6 r A c ss X ht (H.out.lt hX) (by omega) (by have := wl_le ss; omega) (by omega) (by omega) (fun k _ => Nat.le_trans (fill_len ss (cntS ss) ss.length k) (by omega)))
    rw [hwl] at HF
    have HLA := Lib.hid (fun (X : World) g Af cf (ht : TabV X (fun k => k < X.heap.size) (some ⟨g, 0, none⟩) (cntS ss) (cntS ss) Af cf (fillS ss (cntS ss) ss.length) (filS ss)) => Siv.rLacks_any _ Af cf (filS ss) 6 (hashS r.name) X ht.words (by have := wl_le ss; omega))
    rw [hwl] at HLA
    have HFT := Lib.hid (show findT (cntS ss) (fillS ss (cntS ss) ss.length) (filS ss) 6 r ss = if cntS ss = 0 ∨ Siv.lacksB (filS ss) 6 (hashS r.name) = true then (-1, 0) else goF r ss (ss.any vdB) (fillS ss (cntS ss) ss.length (bkt (hashS r.name) (cntS ss))) 0 from rfl)
    obtain ⟨-, hq1, -, hq2⟩ := bucket_first r ss (cntS ss)
    have HST := Lib.hid (fun k hk => bucket_step (ss := ss) (cn := cntS ss) (k := k) (br := bkt (hashS r.name) (cntS ss)) hk)
    have HHA := Lib.hid (fun X => qhash_any r.name X (by omega))
    have hbr := bkt_lt (hashS r.name) hct.1
    have HTM := Lib.hid (show (((hashS r.name).toNat : Int).tmod ((cntS ss : Nat) : Int)) = (bkt (hashS r.name) (cntS ss) : Int) by rw [Int.tmod_eq_emod_of_nonneg (by omega)]; rfl)
    have HYT := Lib.hid (fun (y : Sym) => show (((hashS y.name).toNat : Int).tmod ((cntS ss : Nat) : Int)) = (bkt (hashS y.name) (cntS ss) : Int) by rw [Int.tmod_eq_emod_of_nonneg (by omega)]; rfl)
    have HNM := Lib.hid hs
    clear h5 h hs hwl
    go_upto_region 2 with (go_at_call 11; refine (HA.out _).mono ?_; rintro e w1 ⟨rfl, hb1⟩; have HB1 := Lib.hid (HB0.out.trans (hb1.mono HB0.out.size)); have HY1 := Lib.hid (HY0.out.below hb1); clear hb1)
    go_upto_region 3 with (go_at_call 12; refine (HM.out _ HB1.out).mono ?_; rintro e w2 ⟨g, s, Af, cf, rfl, ht⟩; have HT2 := Lib.hid ht.tabv; have HB2 := Lib.hid (HB1.out.trans (ht.2.2.mono HB1.out.size)); have HY2 := Lib.hid (HY1.out.below ht.2.2); clear ht)
    have hbx := tab_box w2 (tabA (some ⟨g, 0, none⟩) (cntS ss) (cntS ss) Af (wlS ss) cf 6)
    have HB3 := Lib.hid (HB2.out.trans (hbx.1.mono HB2.out.size))
    have HT3 := Lib.hid (HT2.out.lt hbx.1)
    have HX3 := Lib.hid hbx.2
    have HY3 := Lib.hid (HY2.out.below hbx.1)
    clear hbx HT2 HY2 HY1 HY0 HB0 HB1 HB2 HM
    change Code.wp _ _ _ _ (w2.alloc (.cells (tabA (some ⟨g, 0, none⟩) (cntS ss) (cntS ss) Af (wlS ss) cf 6) 29))
    generalize w2.alloc (.cells (tabA (some ⟨g, 0, none⟩) (cntS ss) (cntS ss) Af (wlS ss) cf 6) 29) = w3 at *
    generalize w2.heap.size = tb at *
    have HF3 := Lib.hid (HF.out _ g Af cf HT3.out HB3.out)
    have HLA3 := Lib.hid (fun (X : World) (hX : Below w3.heap.size w3 X) => HLA.out X g Af cf (HT3.out.lt hX))
    clear HF HLA HT3
    generalize hwv : wlS ss = wl at *
    generalize findT (cntS ss) (fillS ss (cntS ss) ss.length) (filS ss) 6 r ss = ft at *
    generalize Siv.lacksB (filS ss) 6 (hashS r.name) = lk at *
    generalize goF r ss (ss.any vdB) (fillS ss (cntS ss) ss.length (bkt (hashS r.name) (cntS ss))) 0 = gf at *
    generalize bkt (hashS r.name) (cntS ss) = br at *
    generalize cntS ss = cn at *
    generalize hashS r.name = rh at *
    obtain ⟨fi, fe⟩ := ft
    obtain ⟨gi, ge⟩ := gf
    have hcz : ((cn : Int) == 0) = false := beq_eq_false_iff_ne.2 (by omega)
    obtain ⟨y0, y1, y2, y3, y4, y5, y6, y7, y8⟩ := HY3.out.cells
    have t0 := cell_of_row w3 tb 0 _ _ _ HX3.out
    have t1 := cell_of_row w3 tb 1 _ _ _ HX3.out
    have t2 := cell_of_row w3 tb 2 _ _ _ HX3.out
    simp only [List.getElem?_toArray, List.getElem?_cons_succ, List.getElem?_cons_zero] at t0 t1 t2
    go_upto_region 6 with (go_at_call 19; refine (HF3.out).mono ?_; rintro e w4 ⟨rfl, hb4⟩)
    clear y0 y1 y2 y3 y4 y5 y6 y7 y8 t0 t1 t2
    have HB4 := Lib.hid (HB3.out.trans (hb4.mono HB3.out.size))
    have HX4 := Lib.hid (HX3.out.below hb4)
    have HY4 := Lib.hid (HY3.out.below hb4)
    have HLA4 := Lib.hid ((HLA3.out _ (hb4.trans ((drew_below w4).mono hb4.size))))
    clear HX3 HY3 HB3 HLA3 hb4
    have t0 : w4.cell? ⟨tb, 0, none⟩ = some (.slice (some ⟨g, 0, none⟩) cn cn) := cell_of_row w4 tb 0 _ _ _ HX4.out
    have t1 : w4.cell? ⟨tb, 1, none⟩ = some (.slice Af wl cf) := cell_of_row w4 tb 1 _ _ _ HX4.out
    have t2 : w4.cell? ⟨tb, 2, none⟩ = some (.int .i64 6) := cell_of_row w4 tb 2 _ _ _ HX4.out
    obtain ⟨y0, -⟩ := HY4.out.cells
    go_upto_region 8 with (fail)
    go_region_held3 (fun X => X.cell? ⟨tb, 1, none⟩ = some (.slice Af wl cf) ∧ X.cell? ⟨tb, 2, none⟩ = some (.int .i64 6) ∧ X.cell? ⟨w.heap.size, 0, none⟩ = some (str r.name)) (first | (exact ⟨by assumption, by assumption, by assumption⟩) | go_keep) (first
      | (go_at_call 27; (with_reducible refine (HHA.out _).mono ?_); rintro e w' ⟨rfl, rfl⟩)
      | (go_at_call 26; (with_reducible refine (HLA4.out).mono ?_); rintro e w5 ⟨rfl, hb5⟩; have t6 := cell_below ((drew_below w4).trans hb5) t1; have t7 := cell_below ((drew_below w4).trans hb5) t2; have t8 := cell_below ((drew_below w4).trans hb5) y0))
    have HB5 := Lib.hid (HB4.out.trans (((drew_below w4).trans hb5).mono HB4.out.size))
    have HX5 := Lib.hid (HX4.out.below ((drew_below w4).trans hb5))
    have HY5 := Lib.hid (HY4.out.below ((drew_below w4).trans hb5))
    clear t0 t1 t2 t6 t7 t8 y0 hb5 HB4 HX4 HY4 HLA4 HF3
    cases lk
    · have hft := HFT.out
      rw [if_neg (by simp; omega)] at hft
      obtain ⟨rfl, rfl⟩ := Prod.mk.inj hft
      clear hft HFT
      go_upto_region 12 with (fail)
      go_loopw [10, 11] (fun m t wr => ∃ k j : Nat, k ≤ ss.length ∧ t = .int .i64 k ∧ m = .int .i64 j ∧ j = (fillS ss cn k br).length ∧ j ≤ k ∧ Below w5.heap.size w5 wr) (fun _ t _ => ss.length - (intOf t).toNat)
      case atStart => exact ⟨0, 0, Nat.zero_le _, rfl, rfl, rfl, Nat.le_refl _, Below.refl _ _⟩
      case round =>
        obtain ⟨k, j, hk, rfl, rfl, hj, hjk, hb⟩ := hrel
        have HB := Lib.hid hb
        have HJ := Lib.hid hj
        clear hb hj
        by_cases hki : k < ss.length
        · obtain ⟨ad, rfl⟩ : ∃ ad, A = some ad := by
            cases A with
            | none => have := (H.out.nil rfl).1; omega
            | some ad => exact ⟨ad, rfl⟩
          obtain ⟨b, o, rfl⟩ := H.out.plain (by omega)
          have hcap := H.out.cap
          obtain ⟨c0, c1, c2, c3, c4, c5, c6, c7, c8⟩ := (H.out.below (HB5.out.trans (HB.out.mono HB5.out.size)) (fun _ h => h)).get k hki
          have HTK := Lib.hid (HST.out k hki)
          have hyl := HNM.out ss[k] (List.getElem_mem hki)
          generalize ss[k] = y at *
          have HSE := Lib.hid (fun X => rseen_any y X)
          generalize hse : seenB y = se at *
          have t0 : wr.cell? ⟨tb, 0, none⟩ = some (.slice (some ⟨g, 0, none⟩) cn cn) := cell_of_row wr tb 0 _ _ _ (HX5.out.below HB.out)
          obtain ⟨y0, -⟩ := (HY5.out.below HB.out).cells
          cases se
          · have HTN := Lib.hid (show j = (fillS ss cn (k + 1) br).length by rw [HTK.out, HJ.out]; simp)
            clear HTK
            go_upto_region 14 with (fail)
            refine wp_region_held_drew (S := (fun X => X.cell? ⟨b, o + k * 9, none⟩ = some (str y.name) ∧ X.cell? ⟨b, o + k * 9 + 1, none⟩ = some (str y.ver) ∧ X.cell? ⟨b, o + k * 9 + 2, none⟩ = some (.bool y.old) ∧ X.cell? ⟨b, o + k * 9 + 3, none⟩ = some (.int .i64 y.kind) ∧ X.cell? ⟨b, o + k * 9 + 4, none⟩ = some (.bool y.weak) ∧ X.cell? ⟨b, o + k * 9 + 5, none⟩ = some (.int .i64 y.vis) ∧ X.cell? ⟨b, o + k * 9 + 6, none⟩ = some (.bool y.dfd) ∧ X.cell? ⟨b, o + k * 9 + 7, none⟩ = some (.int .i64 y.val) ∧ X.cell? ⟨b, o + k * 9 + 8, none⟩ = some (.int .i64 y.size))) (by kernel_rfl) ⟨c0, c1, c2, c3, c4, c5, c6, c7, c8⟩ (fun hHeld => ?_)
            refine take_at (i := 0) (d := 53) (v := .slice (some ⟨b, o, none⟩) ss.length c) rfl rfl (by kernel_rfl) (by kernel_rfl) (by kernel_rfl) (fun _ _ _ h => h) (Or.inl ⟨by rfl, ?_⟩) (by assumption) ?_
            · (intro w hSw; (try dsimp only at hSw); go_simp)
            (try simp only [Act.put, List.setIfInBounds_toArray, List.set_cons_zero, List.set_cons_succ])
            refine take_at (i := 1) (d := 54) (v := .int .i64 (k : Int)) rfl rfl (by kernel_rfl) (by kernel_rfl) (by kernel_rfl) (fun _ _ _ h => h) (Or.inl ⟨by rfl, ?_⟩) (by assumption) ?_
            · (intro w hSw; (try dsimp only at hSw); go_simp)
            (try simp only [Act.put, List.setIfInBounds_toArray, List.set_cons_zero, List.set_cons_succ])
            refine take_at (i := 2) (d := 55) (v := .pointer (some ⟨b, o + k * 9, none⟩)) rfl rfl (by kernel_rfl) (by kernel_rfl) (by kernel_rfl) (fun _ _ _ h => h) (Or.inl ⟨by rfl, ?_⟩) (by assumption) ?_
            · (intro w hSw; (try dsimp only at hSw); go_simp)
            (try simp only [Act.put, List.setIfInBounds_toArray, List.set_cons_zero, List.set_cons_succ])
            refine take_at (i := 3) (d := 56) (v := symV y) rfl rfl (by kernel_rfl) (by kernel_rfl) (by kernel_rfl) (fun _ _ _ h => h) (Or.inl ⟨by rfl, ?_⟩) (by assumption) ?_
            · (intro w hSw; (try dsimp only at hSw); go_simp)
            (try simp only [Act.put, List.setIfInBounds_toArray, List.set_cons_zero, List.set_cons_succ])
            refine wpAnyH_ready (rs := [4]) (by kernel_rfl) (by simp) ?_
            refine AllReadyH.cons rfl (fun K hK => ?_) AllReadyH.nil
            go_simp
            refine (HSE.out _).mono ?_
            rintro e w4 ⟨rfl, hb4⟩
            have hq := (drew_below wr).trans hb4
            have HBN := Lib.hid (HB.out.trans (hq.mono HB.out.size))
            go_simp
            refine hK.out _ _ ⟨cell_below hq c0, cell_below hq c1, cell_below hq c2, cell_below hq c3, cell_below hq c4, cell_below hq c5, cell_below hq c6, cell_below hq c7, cell_below hq c8⟩ (fun hHeld2 => ?_)
            clear hK K hHeld
            (try simp only [Act.put, List.setIfInBounds_toArray, List.set_cons_zero, List.set_cons_succ])
            refine take_at (i := 5) (d := 58) (v := .bool false) rfl rfl (by kernel_rfl) (by kernel_rfl) (by kernel_rfl) (fun _ _ _ h => h) (Or.inl ⟨by rfl, ?_⟩) (by assumption) ?_
            · (intro w hSw; (try dsimp only at hSw); go_simp)
            (try simp only [Act.put, List.setIfInBounds_toArray, List.set_cons_zero, List.set_cons_succ])
            refine take_at (i := 6) (d := 59) (v := undef) rfl rfl (by kernel_rfl) (by kernel_rfl) (by kernel_rfl) (fun _ _ _ h => h) (Or.inr ⟨by rfl, rfl⟩) (by assumption) ?_
            (try simp only [Act.put, List.setIfInBounds_toArray, List.set_cons_zero, List.set_cons_succ])
            refine take_at (i := 7) (d := 60) (v := undef) rfl rfl (by kernel_rfl) (by kernel_rfl) (by kernel_rfl) (fun _ _ _ h => h) (Or.inr ⟨by rfl, rfl⟩) (by assumption) ?_
            (try simp only [Act.put, List.setIfInBounds_toArray, List.set_cons_zero, List.set_cons_succ])
            refine take_at (i := 8) (d := 61) (v := undef) rfl rfl (by kernel_rfl) (by kernel_rfl) (by kernel_rfl) (fun _ _ _ h => h) (Or.inr ⟨by rfl, rfl⟩) (by assumption) ?_
            (try simp only [Act.put, List.setIfInBounds_toArray, List.set_cons_zero, List.set_cons_succ])
            refine take_at (i := 9) (d := 62) (v := undef) rfl rfl (by kernel_rfl) (by kernel_rfl) (by kernel_rfl) (fun _ _ _ h => h) (Or.inr ⟨by rfl, rfl⟩) (by assumption) ?_
            (try simp only [Act.put, List.setIfInBounds_toArray, List.set_cons_zero, List.set_cons_succ])
            refine take_at (i := 10) (d := 63) (v := undef) rfl rfl (by kernel_rfl) (by kernel_rfl) (by kernel_rfl) (fun _ _ _ h => h) (Or.inr ⟨by rfl, rfl⟩) (by assumption) ?_
            (try simp only [Act.put, List.setIfInBounds_toArray, List.set_cons_zero, List.set_cons_succ])
            refine take_at (i := 11) (d := 64) (v := undef) rfl rfl (by kernel_rfl) (by kernel_rfl) (by kernel_rfl) (fun _ _ _ h => h) (Or.inr ⟨by rfl, rfl⟩) (by assumption) ?_
            (try simp only [Act.put, List.setIfInBounds_toArray, List.set_cons_zero, List.set_cons_succ])
            refine take_at (i := 12) (d := 65) (v := undef) rfl rfl (by kernel_rfl) (by kernel_rfl) (by kernel_rfl) (fun _ _ _ h => h) (Or.inr ⟨by rfl, rfl⟩) (by assumption) ?_
            (try simp only [Act.put, List.setIfInBounds_toArray, List.set_cons_zero, List.set_cons_succ])
            refine take_at (i := 13) (d := 66) (v := undef) rfl rfl (by kernel_rfl) (by kernel_rfl) (by kernel_rfl) (fun _ _ _ h => h) (Or.inr ⟨by rfl, rfl⟩) (by assumption) ?_
            (try simp only [Act.put, List.setIfInBounds_toArray, List.set_cons_zero, List.set_cons_succ])
            refine take_at (i := 14) (d := 67) (v := undef) rfl rfl (by kernel_rfl) (by kernel_rfl) (by kernel_rfl) (fun _ _ _ h => h) (Or.inr ⟨by rfl, rfl⟩) (by assumption) ?_
            (try simp only [Act.put, List.setIfInBounds_toArray, List.set_cons_zero, List.set_cons_succ])
            refine take_at (i := 15) (d := 68) (v := undef) rfl rfl (by kernel_rfl) (by kernel_rfl) (by kernel_rfl) (fun _ _ _ h => h) (Or.inr ⟨by rfl, rfl⟩) (by assumption) ?_
            (try simp only [Act.put, List.setIfInBounds_toArray, List.set_cons_zero, List.set_cons_succ])
            refine take_at (i := 16) (d := 69) (v := undef) rfl rfl (by kernel_rfl) (by kernel_rfl) (by kernel_rfl) (fun _ _ _ h => h) (Or.inr ⟨by rfl, rfl⟩) (by assumption) ?_
            (try simp only [Act.put, List.setIfInBounds_toArray, List.set_cons_zero, List.set_cons_succ])
            refine take_at (i := 17) (d := 70) (v := undef) rfl rfl (by kernel_rfl) (by kernel_rfl) (by kernel_rfl) (fun _ _ _ h => h) (Or.inr ⟨by rfl, rfl⟩) (by assumption) ?_
            (try simp only [Act.put, List.setIfInBounds_toArray, List.set_cons_zero, List.set_cons_succ])
            refine take_at (i := 18) (d := 71) (v := undef) rfl rfl (by kernel_rfl) (by kernel_rfl) (by kernel_rfl) (fun _ _ _ h => h) (Or.inr ⟨by rfl, rfl⟩) (by assumption) ?_
            (try simp only [Act.put, List.setIfInBounds_toArray, List.set_cons_zero, List.set_cons_succ])
            refine take_at (i := 19) (d := 72) (v := undef) rfl rfl (by kernel_rfl) (by kernel_rfl) (by kernel_rfl) (fun _ _ _ h => h) (Or.inr ⟨by rfl, rfl⟩) (by assumption) ?_
            (try simp only [Act.put, List.setIfInBounds_toArray, List.set_cons_zero, List.set_cons_succ])
            refine take_at (i := 20) (d := 73) (v := undef) rfl rfl (by kernel_rfl) (by kernel_rfl) (by kernel_rfl) (fun _ _ _ h => h) (Or.inr ⟨by rfl, rfl⟩) (by assumption) ?_
            (try simp only [Act.put, List.setIfInBounds_toArray, List.set_cons_zero, List.set_cons_succ])
            refine take_at (i := 21) (d := 74) (v := undef) rfl rfl (by kernel_rfl) (by kernel_rfl) (by kernel_rfl) (fun _ _ _ h => h) (Or.inr ⟨by rfl, rfl⟩) (by assumption) ?_
            (try simp only [Act.put, List.setIfInBounds_toArray, List.set_cons_zero, List.set_cons_succ])
            refine take_at (i := 22) (d := 75) (v := undef) rfl rfl (by kernel_rfl) (by kernel_rfl) (by kernel_rfl) (fun _ _ _ h => h) (Or.inr ⟨by rfl, rfl⟩) (by assumption) ?_
            (try simp only [Act.put, List.setIfInBounds_toArray, List.set_cons_zero, List.set_cons_succ])
            refine take_at (i := 23) (d := 76) (v := undef) rfl rfl (by kernel_rfl) (by kernel_rfl) (by kernel_rfl) (fun _ _ _ h => h) (Or.inr ⟨by rfl, rfl⟩) (by assumption) ?_
            (try simp only [Act.put, List.setIfInBounds_toArray, List.set_cons_zero, List.set_cons_succ])
            refine take_at (i := 24) (d := 77) (v := undef) rfl rfl (by kernel_rfl) (by kernel_rfl) (by kernel_rfl) (fun _ _ _ h => h) (Or.inr ⟨by rfl, rfl⟩) (by assumption) ?_
            (try simp only [Act.put, List.setIfInBounds_toArray, List.set_cons_zero, List.set_cons_succ])
            refine take_at (i := 25) (d := 78) (v := undef) rfl rfl (by kernel_rfl) (by kernel_rfl) (by kernel_rfl) (fun _ _ _ h => h) (Or.inr ⟨by rfl, rfl⟩) (by assumption) ?_
            (try simp only [Act.put, List.setIfInBounds_toArray, List.set_cons_zero, List.set_cons_succ])
            refine take_at (i := 26) (d := 79) (v := .bool false) rfl rfl (by kernel_rfl) (by kernel_rfl) (by kernel_rfl) (fun _ _ _ h => h) (Or.inl ⟨by rfl, ?_⟩) (by assumption) ?_
            · (intro w hSw; (try dsimp only at hSw); go_simp)
            (try simp only [Act.put, List.setIfInBounds_toArray, List.set_cons_zero, List.set_cons_succ])
            refine wpAnyH_done (by kernel_rfl) ?_ _
            clear hHeld2 hq hb4 c0 c1 c2 c3 c4 c5 c6 c7 c8 t0 y0
            go_wp2_with fail
            go_roundw
            case rel => exact ⟨k + 1, j, by omega, by go_num, rfl, HTN.out, by omega, HBN.out⟩
            case measure => simp [intOf]; omega
          · have HYH := Lib.hid (fun X => qhash_any y.name X (by omega))
            have HYM := Lib.hid (HYT.out y)
            have hyb := bkt_lt (hashS y.name) hct.1
            generalize bkt (hashS y.name) cn = yb at *
            generalize hashS y.name = yh at *
            simp only [Bool.true_and] at HTK
            have e1 : (cn : Int) % 4294967296 = (cn : Int) := by omega
            have e2 : IntKind.u32.wrap (cn : Int) = (cn : Int) := by rw [IntKind.wrap_u32]; exact e1
            have e3 : IntKind.u32.wrap (yb : Int) = (yb : Int) := by rw [IntKind.wrap_u32]; omega
            have e4 : IntKind.u32.wrap (br : Int) = (br : Int) := by rw [IntKind.wrap_u32]; omega
            have e5 : (yb : Int) % 4294967296 = (yb : Int) := by omega
            have e6 : (br : Int) % 4294967296 = (br : Int) := by omega
            have hc0 : ¬ cn = 0 := by omega
            have m1 := HYM.out
            have m2 := HTM.out
            by_cases hbe : yb = br
            · subst hbe
              have hbt : ((yb : Int) == (yb : Int)) = true := by simp
              have HTN := Lib.hid (show j + 1 = (fillS ss cn (k + 1) yb).length by rw [HTK.out, HJ.out]; simp)
              clear HTK
              go_upto_region 14 with (fail)
              go_region_held3 (fun X => X.cell? ⟨tb, 0, none⟩ = some (.slice (some ⟨g, 0, none⟩) cn cn) ∧ X.cell? ⟨w.heap.size, 0, none⟩ = some (str r.name) ∧ X.cell? ⟨b, o + k * 9, none⟩ = some (str y.name) ∧ X.cell? ⟨b, o + k * 9 + 1, none⟩ = some (str y.ver) ∧ X.cell? ⟨b, o + k * 9 + 2, none⟩ = some (.bool y.old) ∧ X.cell? ⟨b, o + k * 9 + 3, none⟩ = some (.int .i64 y.kind) ∧ X.cell? ⟨b, o + k * 9 + 4, none⟩ = some (.bool y.weak) ∧ X.cell? ⟨b, o + k * 9 + 5, none⟩ = some (.int .i64 y.vis) ∧ X.cell? ⟨b, o + k * 9 + 6, none⟩ = some (.bool y.dfd) ∧ X.cell? ⟨b, o + k * 9 + 7, none⟩ = some (.int .i64 y.val) ∧ X.cell? ⟨b, o + k * 9 + 8, none⟩ = some (.int .i64 y.size)) (first | (exact ⟨by assumption, by assumption, by assumption, by assumption, by assumption, by assumption, by assumption, by assumption, by assumption, by assumption, by assumption⟩) | go_keep) (first
                | (go_at_call 24; (with_reducible refine (HSE.out _).mono ?_); rintro e w4 ⟨rfl, hb4⟩; have hq := (drew_below wr).trans hb4; have q0 := cell_below hq c0; have q1 := cell_below hq c1; have q2 := cell_below hq c2; have q3 := cell_below hq c3; have q4 := cell_below hq c4; have q5 := cell_below hq c5; have q6 := cell_below hq c6; have q7 := cell_below hq c7; have q8 := cell_below hq c8; have q9 := cell_below hq t0; have qa := cell_below hq y0; have HBN := Lib.hid (HB.out.trans (hq.mono HB.out.size)); clear hb4 hq)
                | (go_at_call 27; (with_reducible refine (HYH.out _).mono ?_); rintro e w' ⟨rfl, rfl⟩)
                | (go_at_call 27; (with_reducible refine (HHA.out _).mono ?_); rintro e w' ⟨rfl, rfl⟩))
              clear c0 c1 c2 c3 c4 c5 c6 c7 c8 t0 y0 q0 q1 q2 q3 q4 q5 q6 q7 q8 q9 qa m1 m2
              go_wp2_with fail
              go_roundw
              case rel => exact ⟨k + 1, j + 1, by omega, by go_num, by go_num, HTN.out, by omega, HBN.out⟩
              case measure => simp [intOf]; omega
            · have hbf : ((yb : Int) == (br : Int)) = false := beq_eq_false_iff_ne.2 (by omega)
              have hbg : (yb == br) = false := beq_eq_false_iff_ne.2 hbe
              have HTN := Lib.hid (show j = (fillS ss cn (k + 1) br).length by rw [HTK.out, HJ.out]; simp [hbe])
              clear HTK
              go_upto_region 14 with (fail)
              go_region_held3 (fun X => X.cell? ⟨tb, 0, none⟩ = some (.slice (some ⟨g, 0, none⟩) cn cn) ∧ X.cell? ⟨w.heap.size, 0, none⟩ = some (str r.name) ∧ X.cell? ⟨b, o + k * 9, none⟩ = some (str y.name) ∧ X.cell? ⟨b, o + k * 9 + 1, none⟩ = some (str y.ver) ∧ X.cell? ⟨b, o + k * 9 + 2, none⟩ = some (.bool y.old) ∧ X.cell? ⟨b, o + k * 9 + 3, none⟩ = some (.int .i64 y.kind) ∧ X.cell? ⟨b, o + k * 9 + 4, none⟩ = some (.bool y.weak) ∧ X.cell? ⟨b, o + k * 9 + 5, none⟩ = some (.int .i64 y.vis) ∧ X.cell? ⟨b, o + k * 9 + 6, none⟩ = some (.bool y.dfd) ∧ X.cell? ⟨b, o + k * 9 + 7, none⟩ = some (.int .i64 y.val) ∧ X.cell? ⟨b, o + k * 9 + 8, none⟩ = some (.int .i64 y.size)) (first | (exact ⟨by assumption, by assumption, by assumption, by assumption, by assumption, by assumption, by assumption, by assumption, by assumption, by assumption, by assumption⟩) | go_keep) (first
                | (go_at_call 24; (with_reducible refine (HSE.out _).mono ?_); rintro e w4 ⟨rfl, hb4⟩; have hq := (drew_below wr).trans hb4; have q0 := cell_below hq c0; have q1 := cell_below hq c1; have q2 := cell_below hq c2; have q3 := cell_below hq c3; have q4 := cell_below hq c4; have q5 := cell_below hq c5; have q6 := cell_below hq c6; have q7 := cell_below hq c7; have q8 := cell_below hq c8; have q9 := cell_below hq t0; have qa := cell_below hq y0; have HBN := Lib.hid (HB.out.trans (hq.mono HB.out.size)); clear hb4 hq)
                | (go_at_call 27; (with_reducible refine (HYH.out _).mono ?_); rintro e w' ⟨rfl, rfl⟩)
                | (go_at_call 27; (with_reducible refine (HHA.out _).mono ?_); rintro e w' ⟨rfl, rfl⟩))
              clear c0 c1 c2 c3 c4 c5 c6 c7 c8 t0 y0 q0 q1 q2 q3 q4 q5 q6 q7 q8 q9 qa m1 m2
              go_wp2_with fail
              go_roundw
              case rel => exact ⟨k + 1, j, by omega, by go_num, rfl, HTN.out, by omega, HBN.out⟩
              case measure => simp [intOf]; omega
        · obtain rfl : k = ss.length := by omega
          have HN1 := Lib.hid (show fe ≤ j by rw [HJ.out]; exact hq1)
          have HN2 := Lib.hid (show 0 ≤ fi ∨ fe = j by rw [HJ.out]; exact hq2)
          have HB6 := Lib.hid (HB5.out.trans (HB.out.mono HB5.out.size))
          clear hq1 hq2
          have d1 : (fe : Int) ≤ (j : Int) := by have := HN1.out; omega
          by_cases hf : 0 ≤ fi
          · clear hjk hki
            go_upto_region 99 with (fail)
            first | go_ret | skip
            exact ⟨rfl, HB6.out⟩
          · have hfe : fe = j := HN2.out.resolve_left hf
            subst hfe
            clear hjk hki
            go_upto_region 99 with (fail)
            first | go_ret | skip
            exact ⟨rfl, HB6.out⟩
    · have hft := HFT.out
      rw [if_pos (.inr rfl)] at hft
      obtain ⟨rfl, rfl⟩ := Prod.mk.inj hft
      clear hft HFT hq1 hq2
      go_upto_region 99 with (fail)
      first | go_ret | skip
      exact ⟨rfl, HB5.out⟩
end Go.Proofs.Ytlkhmpnahbbpeaa
