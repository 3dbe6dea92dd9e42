/-
  The law ScopeCounts, walked (written by mkl.py).
-/
import Derived.Test.YtpcgedngikpnoaaI
namespace Go.Proofs.Ytpcgedngikpnoaa
set_option maxRecDepth 100000
set_option linter.unusedSimpArgs false
set_option linter.unusedVariables false
open Go.RowKit

theorem bucket_step {ss : List Sym} {cn k br : Nat} (hk : k < ss.length) : (fillS ss cn (k + 1) br).length = (fillS ss cn k br).length + (if (seenB ss[k] && (bkt (hashS ss[k].name) cn == br)) = true then 1 else 0) := by
  rw [fill_succ, List.length_append, inB_at hk]
  split <;> simp
theorem rightI_len {x : Im} (h : rightI x = true) : 1 ≤ x.rows.length ∧ x.rows.length ≤ 512 := by
  unfold rightI rightT formT at h
  simp only [Bool.and_eq_true, decide_eq_true_eq] at h
  exact h.1.1.2
/-- No more are looked at than share the bucket; none where the filter lacks the name. -/
theorem counts_row {r : Sym} {x : Im} (h : rightI x = true) : (Siv.lacksB x.words x.shift (hashS r.name) = true → tabN r x = 0) ∧ tabN r x ≤ (fillS x.syms x.rows.length x.syms.length (bkt (hashS r.name) x.rows.length)).length := by
  have hl := rightI_len h
  unfold rightI rightT rowsB at h
  simp only [Bool.and_eq_true, decide_eq_true_eq, Bool.not_eq_true', true_and] at h
  obtain ⟨_, h2, _⟩ := h
  unfold tabN tabI findT
  by_cases hk : Siv.lacksB x.words x.shift (hashS r.name) = true
  · rw [if_pos (.inr hk)]
    exact ⟨fun _ => rfl, Nat.zero_le _⟩
  · rw [if_neg (by rintro (h | h); omega; exact hk h), goF_rows (by omega) h2]
    obtain ⟨_, q1, _, _⟩ := bucket_first r x.syms x.rows.length
    exact ⟨fun e => absurd e hk, q1⟩
/-- A row of so many numbers. -/
def Nw (l : List Int) (n nb : Nat) (w : World) : Prop := ∃ B, w.ownsRow B 3 1 (.slice (some ⟨nb, 0, none⟩) n n) n (ints l)
theorem Nw.keepb {l : List Int} {n nb : Nat} {w w' : World} (h : Nw l n nb w) (hb : Below w.heap.size w w') : Nw l n nb w' := by
  obtain ⟨B, h⟩ := h
  exact ⟨B, own_kept h fun k hk => hb.block k (h.lt k hk).2⟩
theorem Nw.at_ {l : List Int} {n nb k : Nat} {w : World} (h : Nw l n nb w) (hk : k < l.length) : w.cell? ⟨nb, k, none⟩ = some (.int .i64 (l.getD k 0)) := by
  obtain ⟨B, h⟩ := h
  rw [← getD_get l 0 hk]
  exact own_at h (ints_get l k hk)
set_option maxRecDepth 100000 in
set_option maxHeartbeats 4000000 in
theorem counts_any (r : Sym) (skip : Int) (A : Option Addr) (n c : Nat) (xs : List Im) (w : World) (h : Ims w (fun k => k < w.heap.size) A n c xs) (hf : FitsS xs) (hn : n ≤ 17592186044416) (hrn : r.name.length ≤ 140737488355328) :
    Calls Try.prog 11 #[symV r, .int .i64 skip, .slice A n c] w fun e w' => e = .returned (.bool true) ∧ Below w.heap.size w w' := by
  obtain rfl := h.len
  have hbx := box_below w r
  have HB1 := Lib.hid hbx
  have HR1 := Lib.hid (Sx.new w r)
  have HI1 := Lib.hid (h.lt hbx)
  have HF := Lib.hid hf
  clear hbx h hf
  go_enter Try.func11, Try.ntmps11
  go_upto_region 1 with (fail)
  change Code.wp _ _ _ _ (w.alloc (.cells (symA r) 25))
  generalize w.alloc (.cells (symA r) 25) = w1 at *
  go_upto_region 2 with (go_at_call 12; (with_reducible refine (awake_any _).mono ?_); rintro e w2 ⟨rfl, hb2⟩; have HR2 := Lib.hid (HR1.out.below hb2); have HI2 := Lib.hid (HI1.out.lt hb2); have HB2 := Lib.hid (HB1.out.trans (hb2.mono HB1.out.size)); clear hb2 HR1 HI1 HB1)
  have HRT := Lib.hid (fun (X : World) (hX : Ims X (fun k => k < X.heap.size) A xs.length c xs) => dright_any A xs.length c xs X hX HF.out hn)
  have HRI := Lib.hid (show rightsB xs = true → rightsB xs = true from id)
  by_cases hri : rightsB xs = true
  case neg =>
    have e : rightsB xs = false := by simpa using hri
    rw [e] at HRT
    clear hri e
    go_upto_region 3 with (go_at_call 23; (with_reducible refine (HRT.out _ HI2.out).mono ?_); rintro e w3 ⟨rfl, hb3⟩; have HR3 := Lib.hid (HR2.out.below hb3); have HI3 := Lib.hid (HI2.out.lt hb3); have HB3 := Lib.hid (HB2.out.trans (hb3.mono HB2.out.size)); clear HR2 HI2 HB2)
    go_wp2
    first | go_ret2 | go_ret | skip
    exact ⟨rfl, HB3.out⟩
  rw [hri] at HRT
  have HRI := Lib.hid hri
  clear hri
  go_upto_region 4 with (go_at_call 23; (with_reducible refine (HRT.out _ HI2.out).mono ?_); rintro e w3 ⟨rfl, hb3⟩; have HR3 := Lib.hid (HR2.out.below hb3); have HI3 := Lib.hid (HI2.out.lt hb3); have HB3 := Lib.hid (HB2.out.trans (hb3.mono HB2.out.size)); clear HR2 HI2 HB2; clear hb3)
  have HLK := Lib.hid (fun (X : World) (hX : Ims X (fun k => k < X.heap.size) A xs.length c xs) => look_any r skip A xs.length c xs X hX HF.out hn hrn)
  generalize lookP (fun x => (tabI r x).1) skip 0 xs = L at *
  generalize goneP (fun x => (tabI r x).1) skip 0 xs = G at *
  obtain ⟨y0, y1, y2, y3, y4, y5, y6, y7, y8⟩ := HR3.out.cells
  go_upto_region 5 with (go_at_call 13; (with_reducible refine (HLK.out _ HI3.out).mono ?_); rintro e w4 ⟨nb, rfl, ho, hb4⟩; have HNA4 := Lib.hid (show Nw (numL (tabN r) skip xs G) xs.length nb w4 from ⟨_, ho⟩); clear ho; have HR4 := Lib.hid (HR3.out.below hb4); have HI4 := Lib.hid (HI3.out.lt hb4); have HB4 := Lib.hid (HB3.out.trans (hb4.mono HB3.out.size)); clear HR3 HI3 HB3)
  clear y0 y1 y2 y3 y4 y5 y6 y7 y8 hb4
  have hbx : Below w4.heap.size w4 (w4.alloc (.cells (fdA L) 29)) := (Below.refl _ _).alloc (Nat.le_refl _) _
  have HFA5 := Lib.hid (Bx.new w4 (fdA L) 29)
  have HR5 := Lib.hid (HR4.out.below hbx)
  have HI5 := Lib.hid (HI4.out.lt hbx)
  have HNA5 := Lib.hid (HNA4.out.keepb hbx)
  have HB5 := Lib.hid (HB4.out.trans (hbx.mono HB4.out.size))
  clear HR4 HI4 HNA4 HB4
  clear hbx
  change Code.wp _ _ _ _ (w4.alloc (.cells (fdA L) 29))
  generalize (w4.alloc (.cells (fdA L) 29)) = w5 at *
  generalize w4.heap.size = g5 at *
  clear HFA5
  have HHA := Lib.hid (fun X => qhash_any r.name X (by omega))
  have HCR := Lib.hid (fun (x : Im) (hx : rightI x = true) => counts_row (r := r) hx)
  have HRR := Lib.hid (fun (x : Im) (hx : x ∈ xs) => List.all_eq_true.1 HRI.out x hx)
  obtain ⟨y0, y1, y2, y3, y4, y5, y6, y7, y8⟩ := HR5.out.cells
  generalize hrh : hashS r.name = rh at *
  have hln : (numL (tabN r) skip xs G).length = xs.length := numL_len _ _ _ _
  have HLN := Lib.hid hln
  have HNV := Lib.hid (show ∀ i, i < xs.length → (numL (tabN r) skip xs G).getD i 0 = 0 ∨ (numL (tabN r) skip xs G).getD i 0 = (tabN r (xs.getD i noIm) : Int) from fun i hi => by
    rw [← getD_get _ 0 (by rw [hln]; exact hi)]
    simp only [numL, numA, List.getElem_map, List.getElem_range]
    split
    · exact .inr rfl
    · exact .inl rfl)
  clear hln hrh
  generalize numL (tabN r) skip xs G = nl at *
  go_upto_region 9 with (go_at_call 26; (with_reducible refine (HHA.out _).mono ?_); rintro e w' ⟨rfl, rfl⟩)
  clear y0 y1 y2 y3 y4 y5 y6 y7 y8
  have hcap := HI5.out.ex
  obtain ⟨q, hels, hsy⟩ := hcap
  have hcap := hels.cap
  have HE := Lib.hid hels
  have HY := Lib.hid hsy
  clear hels hsy
  go_loopw [11] (fun t wr => ∃ i : Nat, i ≤ xs.length ∧ t = .int .i64 (i : Int) ∧ Below w5.heap.size w5 wr) (fun t _ => xs.length - (intOf t).toNat)
  case atStart => exact ⟨0, Nat.zero_le _, rfl, Below.refl _ _⟩
  case round =>
    obtain ⟨i, hi, rfl, hb⟩ := hrel
    have HBR := Lib.hid hb
    clear hb
    by_cases hlt : i < xs.length
    · obtain ⟨ad, rfl⟩ : ∃ ad, A = some ad := by
        cases A with
        | none => have := (HE.out.nil rfl).1; omega
        | some ad => exact ⟨ad, rfl⟩
      obtain ⟨b, o, rfl⟩ := HE.out.plain (by omega) rfl
      have hx := getD_mem xs noIm hlt
      have HC := Lib.hid (HCR.out _ (HRR.out _ hx))
      have HRL := Lib.hid (rightI_len (HRR.out _ hx))
      have HFX := Lib.hid (HF.out.2 _ hx)
      have HV := Lib.hid (HNV.out i hlt)
      have HCE := Lib.hid (fun (X : World) (hX : Below w5.heap.size w5 X) => Ims.cells (HE.out.lt hX) i hlt)
      have HSY := Lib.hid (fun (X : World) (hX : Below w5.heap.size w5 X) => (HY.out i hlt).lt hX)
      have hnl : i < nl.length := by rw [HLN.out]; exact hlt
      have HNI := Lib.hid (fun (X : World) (hX : Below w5.heap.size w5 X) => (HNA5.out.keepb hX).at_ hnl)
      generalize nl.getD i 0 = v at *
      generalize xs.getD i noIm = x at *
      generalize q i = p at *
      have HST := Lib.hid (fun k hk => bucket_step (ss := x.syms) (cn := x.rows.length) (k := k) (br := bkt rh x.rows.length) hk)
      have hbr := bkt_lt rh (show 0 < x.rows.length from HRL.out.1)
      have HTM := Lib.hid (show ((rh.toNat : Int).tmod ((x.rows.length : Nat) : Int)) = (bkt rh x.rows.length : Int) by rw [Int.tmod_eq_emod_of_nonneg (by omega)]; rfl)
      have HYT := Lib.hid (fun (y : Sym) => show (((hashS y.name).toNat : Int).tmod ((x.rows.length : Nat) : Int)) = (bkt (hashS y.name) x.rows.length : Int) by rw [Int.tmod_eq_emod_of_nonneg (by omega)]; rfl)
      have HNM := Lib.hid HFX.out.name
      have HSL := Lib.hid HFX.out.syms
      have HWL := Lib.hid HFX.out.words
      have HLA := Lib.hid (fun (X : World) (hX : Below w5.heap.size w5 X) => Siv.rLacks_any _ p.fw.1 p.fw.2 x.words x.shift rh X (HSY.out X hX).tab.words (Nat.le_trans HFX.out.words (by decide)))
      have HV1 := Lib.hid (show Siv.lacksB x.words x.shift rh = true → v = 0 from fun h => by
        rcases HV.out with e | e
        · exact e
        · rw [e, HC.out.1 h]; rfl)
      have HV2 := Lib.hid (show 0 ≤ v ∧ v ≤ ((fillS x.syms x.rows.length x.syms.length (bkt rh x.rows.length)).length : Int) from by
        have h2 := HC.out.2
        rcases HV.out with e | e
        · rw [e]; omega
        · rw [e]; omega)
      clear hx
      obtain ⟨c0, c1, c2, c3, c4, c5, c6, c7, c8, c9, c10, c11, c12, c13, c14⟩ := HCE.out _ HBR.out
      clear c0 c1 c2 c3 c4 c9 c10 c11 c12 c13 c14
      have HCE5 := Lib.hid (fun (X : World) (hX : Below w5.heap.size w5 X) => (HCE.out X hX).2.2.2.2.2.1)
      generalize Siv.lacksB x.words x.shift rh = lk at *
      generalize bkt rh x.rows.length = br at *
      have hcn := HRL.out
      generalize hcnn : x.rows.length = cn at *
      generalize hwl : x.words.length = wl at *
      have HSS := Lib.hid (fun (X : World) (hX : Below w5.heap.size w5 X) => (HSY.out X hX).syms)
      clear hcnn hwl HCE HC HCR HSY HFX HV
      generalize x.syms = ss at *
      have hi0 : (0 : Int) ≤ (i : Int) := by omega
      have hi1 : (i : Int) < (xs.length : Int) := by omega
      go_upto_region 12 with (fail)
      have hbt := tab_box wr (tabA p.bk.1 cn p.bk.2 p.fw.1 wl p.fw.2 x.shift)
      have HX7 := Lib.hid hbt.2
      have HB7 := Lib.hid (HBR.out.trans (hbt.1.mono HBR.out.size))
      clear hbt c5 c6 c7 c8
      change Code.wp _ _ _ _ (wr.alloc (.cells (tabA p.bk.1 cn p.bk.2 p.fw.1 wl p.fw.2 x.shift) 57))
      generalize wr.alloc (.cells (tabA p.bk.1 cn p.bk.2 p.fw.1 wl p.fw.2 x.shift) 57) = w7 at *
      generalize wr.heap.size = tb at *
      go_upto_region 14 with (fail)
      go_loopw [13, 14] (fun m t w8 => ∃ k j : Nat, k ≤ ss.length ∧ t = .int .i64 (k : Int) ∧ m = .int .i64 (j : Int) ∧ j = (fillS ss cn k br).length ∧ j ≤ k ∧ Below w7.heap.size w7 w8) (fun _ t _ => ss.length - (intOf t).toNat)
      case atStart => exact ⟨0, 0, Nat.zero_le _, rfl, rfl, rfl, Nat.le_refl _, Below.refl _ _⟩
      case round =>
        rename World => w8
        obtain ⟨k, j, hk, rfl, rfl, hj, hjk, hb⟩ := hrel
        have HB8 := Lib.hid (HB7.out.trans (hb.mono HB7.out.size))
        have HBI := Lib.hid hb
        have HJ := Lib.hid hj
        clear hb hj
        have c5 := HCE5.out _ HB8.out
        have hss := HSL.out
        by_cases hki : k < ss.length
        · generalize hsA : p.sy.1 = sA at *
          obtain ⟨sa, rfl⟩ : ∃ sa, sA = some sa := by
            cases sA with
            | none => have := ((HSS.out _ HB8.out).nil rfl).1; omega
            | some sa => exact ⟨sa, rfl⟩
          obtain ⟨sb, so, rfl⟩ := (HSS.out _ HB8.out).plain (by omega)
          have hsc := (HSS.out _ HB8.out).cap
          obtain ⟨s0, s1, s2, s3, s4, s5, s6, s7, s8⟩ := (HSS.out _ HB8.out).get k hki
          have HTK := Lib.hid (HST.out k hki)
          have hyl := HNM.out ss[k] (List.getElem_mem hki)
          generalize ss[k] = y at *
          have HSE := Lib.hid (fun X => rseen_any y X)
          generalize hse : seenB y = se at *
          have hk0 : (0 : Int) ≤ (k : Int) := by omega
          have hk1 : (k : Int) < (ss.length : Int) := by omega
          go_upto_region 17 with (fail)
          have hby := box_below w8 y
          have HYB8 := Lib.hid (Sx.new w8 y)
          have HBJ := Lib.hid (HBI.out.trans (hby.mono HBI.out.size))
          clear hby s0 s1 s2 s3 s4 s5 s6 s7 s8 c5
          change Code.wp _ _ _ _ (w8.alloc (.cells (symA y) 25))
          generalize w8.alloc (.cells (symA y) 25) = wy at *
          generalize w8.heap.size = yb8 at *
          have t0 : wy.drew.cell? ⟨tb, 0, none⟩ = some (.slice p.bk.1 cn p.bk.2) := cell_of_row wy tb 0 _ _ _ (HX7.out.below HBJ.out)
          have HYB := Lib.hid (show Sx wy.drew yb8 y from HYB8.out.below (drew_below wy))
          have HBJ2 := Lib.hid (HBJ.out.trans ((drew_below wy).mono HBJ.out.size))
          refine wp_region_held_drew (S := fun X => Below wy.drew.heap.size wy.drew X) (by kernel_rfl) (Below.refl _ _) (fun hHeld0 => ?_)
          generalize wy.drew = wd at *
          cases se
          · have HTN := Lib.hid (show j = (fillS ss cn (k + 1) br).length by rw [HTK.out, HJ.out]; simp)
            clear HTK
            refine take_at (i := 0) (d := 65) (v := (symV y)) rfl rfl (by kernel_rfl) (by kernel_rfl) (by kernel_rfl) (fun _ _ _ h => h) (Or.inl ⟨by rfl, ?_⟩) (by assumption) ?_
            · intro X hX; obtain ⟨y0, y1, y2, y3, y4, y5, y6, y7, y8⟩ := (HYB.out.below hX).cells; go_simp
            (try simp only [Act.put, List.setIfInBounds_toArray, List.set_cons_zero, List.set_cons_succ])
            refine wpAnyH_ready (rs := [1]) (by kernel_rfl) (by simp) ?_
            refine AllReadyH.cons rfl (fun K hK => ?_) AllReadyH.nil
            go_simp
            (with_reducible refine (HSE.out _).mono ?_)
            rintro e w9 ⟨rfl, hb9⟩
            have HB9 := Lib.hid hb9; clear hb9
            go_simp
            refine hK.out _ _ (hHeld0.trans (HB9.out.mono hHeld0.size)) (fun hHeld1 => ?_)
            clear hK K
            (try simp only [Act.put, List.setIfInBounds_toArray, List.set_cons_zero, List.set_cons_succ])
            refine take_at (i := 2) (d := 67) (v := (.bool false)) rfl rfl (by kernel_rfl) (by kernel_rfl) (by kernel_rfl) (fun _ _ _ h => h) (Or.inl ⟨by rfl, ?_⟩) (by assumption) ?_
            · intro X hX; go_simp
            (try simp only [Act.put, List.setIfInBounds_toArray, List.set_cons_zero, List.set_cons_succ])
            refine take_at (i := 3) (d := 68) (v := undef) rfl rfl (by kernel_rfl) (by kernel_rfl) (by kernel_rfl) (fun _ _ _ h => h) (Or.inr ⟨by rfl, rfl⟩) (by assumption) ?_
            (try simp only [Act.put, List.setIfInBounds_toArray, List.set_cons_zero, List.set_cons_succ])
            refine take_at (i := 4) (d := 69) (v := undef) rfl rfl (by kernel_rfl) (by kernel_rfl) (by kernel_rfl) (fun _ _ _ h => h) (Or.inr ⟨by rfl, rfl⟩) (by assumption) ?_
            (try simp only [Act.put, List.setIfInBounds_toArray, List.set_cons_zero, List.set_cons_succ])
            refine take_at (i := 5) (d := 70) (v := undef) rfl rfl (by kernel_rfl) (by kernel_rfl) (by kernel_rfl) (fun _ _ _ h => h) (Or.inr ⟨by rfl, rfl⟩) (by assumption) ?_
            (try simp only [Act.put, List.setIfInBounds_toArray, List.set_cons_zero, List.set_cons_succ])
            refine take_at (i := 6) (d := 71) (v := undef) rfl rfl (by kernel_rfl) (by kernel_rfl) (by kernel_rfl) (fun _ _ _ h => h) (Or.inr ⟨by rfl, rfl⟩) (by assumption) ?_
            (try simp only [Act.put, List.setIfInBounds_toArray, List.set_cons_zero, List.set_cons_succ])
            refine take_at (i := 7) (d := 72) (v := undef) rfl rfl (by kernel_rfl) (by kernel_rfl) (by kernel_rfl) (fun _ _ _ h => h) (Or.inr ⟨by rfl, rfl⟩) (by assumption) ?_
            (try simp only [Act.put, List.setIfInBounds_toArray, List.set_cons_zero, List.set_cons_succ])
            refine take_at (i := 8) (d := 73) (v := undef) rfl rfl (by kernel_rfl) (by kernel_rfl) (by kernel_rfl) (fun _ _ _ h => h) (Or.inr ⟨by rfl, rfl⟩) (by assumption) ?_
            (try simp only [Act.put, List.setIfInBounds_toArray, List.set_cons_zero, List.set_cons_succ])
            refine take_at (i := 9) (d := 74) (v := undef) rfl rfl (by kernel_rfl) (by kernel_rfl) (by kernel_rfl) (fun _ _ _ h => h) (Or.inr ⟨by rfl, rfl⟩) (by assumption) ?_
            (try simp only [Act.put, List.setIfInBounds_toArray, List.set_cons_zero, List.set_cons_succ])
            refine take_at (i := 10) (d := 75) (v := undef) rfl rfl (by kernel_rfl) (by kernel_rfl) (by kernel_rfl) (fun _ _ _ h => h) (Or.inr ⟨by rfl, rfl⟩) (by assumption) ?_
            (try simp only [Act.put, List.setIfInBounds_toArray, List.set_cons_zero, List.set_cons_succ])
            refine take_at (i := 11) (d := 76) (v := undef) rfl rfl (by kernel_rfl) (by kernel_rfl) (by kernel_rfl) (fun _ _ _ h => h) (Or.inr ⟨by rfl, rfl⟩) (by assumption) ?_
            (try simp only [Act.put, List.setIfInBounds_toArray, List.set_cons_zero, List.set_cons_succ])
            refine take_at (i := 12) (d := 77) (v := undef) rfl rfl (by kernel_rfl) (by kernel_rfl) (by kernel_rfl) (fun _ _ _ h => h) (Or.inr ⟨by rfl, rfl⟩) (by assumption) ?_
            (try simp only [Act.put, List.setIfInBounds_toArray, List.set_cons_zero, List.set_cons_succ])
            refine take_at (i := 13) (d := 78) (v := undef) rfl rfl (by kernel_rfl) (by kernel_rfl) (by kernel_rfl) (fun _ _ _ h => h) (Or.inr ⟨by rfl, rfl⟩) (by assumption) ?_
            (try simp only [Act.put, List.setIfInBounds_toArray, List.set_cons_zero, List.set_cons_succ])
            refine take_at (i := 14) (d := 79) (v := undef) rfl rfl (by kernel_rfl) (by kernel_rfl) (by kernel_rfl) (fun _ _ _ h => h) (Or.inr ⟨by rfl, rfl⟩) (by assumption) ?_
            (try simp only [Act.put, List.setIfInBounds_toArray, List.set_cons_zero, List.set_cons_succ])
            refine take_at (i := 15) (d := 80) (v := undef) rfl rfl (by kernel_rfl) (by kernel_rfl) (by kernel_rfl) (fun _ _ _ h => h) (Or.inr ⟨by rfl, rfl⟩) (by assumption) ?_
            (try simp only [Act.put, List.setIfInBounds_toArray, List.set_cons_zero, List.set_cons_succ])
            refine take_at (i := 16) (d := 81) (v := undef) rfl rfl (by kernel_rfl) (by kernel_rfl) (by kernel_rfl) (fun _ _ _ h => h) (Or.inr ⟨by rfl, rfl⟩) (by assumption) ?_
            (try simp only [Act.put, List.setIfInBounds_toArray, List.set_cons_zero, List.set_cons_succ])
            refine take_at (i := 17) (d := 82) (v := undef) rfl rfl (by kernel_rfl) (by kernel_rfl) (by kernel_rfl) (fun _ _ _ h => h) (Or.inr ⟨by rfl, rfl⟩) (by assumption) ?_
            (try simp only [Act.put, List.setIfInBounds_toArray, List.set_cons_zero, List.set_cons_succ])
            refine take_at (i := 18) (d := 83) (v := (.bool false)) rfl rfl (by kernel_rfl) (by kernel_rfl) (by kernel_rfl) (fun _ _ _ h => h) (Or.inl ⟨by rfl, ?_⟩) (by assumption) ?_
            · intro X hX; go_simp
            (try simp only [Act.put, List.setIfInBounds_toArray, List.set_cons_zero, List.set_cons_succ])
            refine wpAnyH_done (by kernel_rfl) ?_ _
            have HBN := Lib.hid (HBJ2.out.trans (hHeld1.mono HBJ2.out.size))
            go_wp2
            go_roundw
            case rel => exact ⟨k + 1, j, by omega, by go_num, rfl, HTN.out, by omega, HBN.out⟩
            case measure => simp [intOf]; omega
          · have HYH := Lib.hid (fun X => qhash_any y.name X (by omega))
            have HYM := Lib.hid (HYT.out y)
            have hyb := bkt_lt (hashS y.name) (show 0 < cn by omega)
            generalize bkt (hashS y.name) cn = yb at *
            generalize hashS y.name = yh at *
            simp only [Bool.true_and] at HTK
            have e1 : (cn : Int) % 4294967296 = (cn : Int) := by omega
            have e2 : IntKind.u32.wrap (cn : Int) = (cn : Int) := by rw [IntKind.wrap_u32]; exact e1
            have e3 : IntKind.u32.wrap (yb : Int) = (yb : Int) := by rw [IntKind.wrap_u32]; omega
            have e4 : IntKind.u32.wrap (br : Int) = (br : Int) := by rw [IntKind.wrap_u32]; omega
            have e5 : (yb : Int) % 4294967296 = (yb : Int) := by omega
            have e6 : (br : Int) % 4294967296 = (br : Int) := by omega
            have hc0 : ¬ cn = 0 := by omega
            have hcz : ((cn : Int) == 0) = false := beq_eq_false_iff_ne.2 (by omega)
            have m1 := HYM.out
            have m2 := HTM.out
            by_cases hbe : yb = br
            · subst hbe
              have hbt : ((yb : Int) == (yb : Int)) = true := by simp
              have HTN := Lib.hid (show j + 1 = (fillS ss cn (k + 1) yb).length by rw [HTK.out, HJ.out]; simp)
              clear HTK
              refine take_at (i := 0) (d := 65) (v := (symV y)) rfl rfl (by kernel_rfl) (by kernel_rfl) (by kernel_rfl) (fun _ _ _ h => h) (Or.inl ⟨by rfl, ?_⟩) (by assumption) ?_
              · intro X hX; obtain ⟨y0, y1, y2, y3, y4, y5, y6, y7, y8⟩ := (HYB.out.below hX).cells; go_simp
              (try simp only [Act.put, List.setIfInBounds_toArray, List.set_cons_zero, List.set_cons_succ])
              refine wpAnyH_ready (rs := [1]) (by kernel_rfl) (by simp) ?_
              refine AllReadyH.cons rfl (fun K hK => ?_) AllReadyH.nil
              go_simp
              (with_reducible refine (HSE.out _).mono ?_)
              rintro e w9 ⟨rfl, hb9⟩
              have HB9 := Lib.hid hb9; clear hb9
              go_simp
              refine hK.out _ _ (hHeld0.trans (HB9.out.mono hHeld0.size)) (fun hHeld1 => ?_)
              clear hK K
              (try simp only [Act.put, List.setIfInBounds_toArray, List.set_cons_zero, List.set_cons_succ])
              refine take_at (i := 2) (d := 67) (v := (.bool true)) rfl rfl (by kernel_rfl) (by kernel_rfl) (by kernel_rfl) (fun _ _ _ h => h) (Or.inl ⟨by rfl, ?_⟩) (by assumption) ?_
              · intro X hX; go_simp
              (try simp only [Act.put, List.setIfInBounds_toArray, List.set_cons_zero, List.set_cons_succ])
              refine take_at (i := 3) (d := 68) (v := (.pointer (some ⟨yb8, 0, none⟩))) rfl rfl (by kernel_rfl) (by kernel_rfl) (by kernel_rfl) (fun _ _ _ h => h) (Or.inl ⟨by rfl, ?_⟩) (by assumption) ?_
              · intro X hX; go_simp
              (try simp only [Act.put, List.setIfInBounds_toArray, List.set_cons_zero, List.set_cons_succ])
              refine take_at (i := 4) (d := 69) (v := (str y.name)) rfl rfl (by kernel_rfl) (by kernel_rfl) (by kernel_rfl) (fun _ _ _ h => h) (Or.inl ⟨by rfl, ?_⟩) (by assumption) ?_
              · intro X hX; obtain ⟨y0, y1, y2, y3, y4, y5, y6, y7, y8⟩ := (HYB.out.below hX).cells; go_simp
              (try simp only [Act.put, List.setIfInBounds_toArray, List.set_cons_zero, List.set_cons_succ])
              refine take_at (i := 6) (d := 71) (v := (.pointer (some ⟨tb, 0, none⟩))) rfl rfl (by kernel_rfl) (by kernel_rfl) (by kernel_rfl) (fun _ _ _ h => h) (Or.inl ⟨by rfl, ?_⟩) (by assumption) ?_
              · intro X hX; go_simp
              (try simp only [Act.put, List.setIfInBounds_toArray, List.set_cons_zero, List.set_cons_succ])
              refine take_at (i := 7) (d := 72) (v := (.slice p.bk.1 cn p.bk.2)) rfl rfl (by kernel_rfl) (by kernel_rfl) (by kernel_rfl) (fun _ _ _ h => h) (Or.inl ⟨by rfl, ?_⟩) (by assumption) ?_
              · intro X hX; have t0 := cell_below hX t0; go_simp
              (try simp only [Act.put, List.setIfInBounds_toArray, List.set_cons_zero, List.set_cons_succ])
              refine take_at (i := 8) (d := 73) (v := (.int .i64 (cn : Int))) rfl rfl (by kernel_rfl) (by kernel_rfl) (by kernel_rfl) (fun _ _ _ h => h) (Or.inl ⟨by rfl, ?_⟩) (by assumption) ?_
              · intro X hX; go_simp
              (try simp only [Act.put, List.setIfInBounds_toArray, List.set_cons_zero, List.set_cons_succ])
              refine take_at (i := 9) (d := 74) (v := (.int .u32 (cn : Int))) rfl rfl (by kernel_rfl) (by kernel_rfl) (by kernel_rfl) (fun _ _ _ h => h) (Or.inl ⟨by rfl, ?_⟩) (by assumption) ?_
              · intro X hX; go_simp
              (try simp only [Act.put, List.setIfInBounds_toArray, List.set_cons_zero, List.set_cons_succ])
              refine take_at (i := 11) (d := 76) (v := (hv rh)) rfl rfl (by kernel_rfl) (by kernel_rfl) (by kernel_rfl) (fun _ _ _ h => h) (Or.inl ⟨by rfl, ?_⟩) (by assumption) ?_
              · intro X hX; go_simp
              (try simp only [Act.put, List.setIfInBounds_toArray, List.set_cons_zero, List.set_cons_succ])
              refine take_at (i := 12) (d := 77) (v := (.pointer (some ⟨tb, 0, none⟩))) rfl rfl (by kernel_rfl) (by kernel_rfl) (by kernel_rfl) (fun _ _ _ h => h) (Or.inl ⟨by rfl, ?_⟩) (by assumption) ?_
              · intro X hX; go_simp
              (try simp only [Act.put, List.setIfInBounds_toArray, List.set_cons_zero, List.set_cons_succ])
              refine take_at (i := 13) (d := 78) (v := (.slice p.bk.1 cn p.bk.2)) rfl rfl (by kernel_rfl) (by kernel_rfl) (by kernel_rfl) (fun _ _ _ h => h) (Or.inl ⟨by rfl, ?_⟩) (by assumption) ?_
              · intro X hX; have t0 := cell_below hX t0; go_simp
              (try simp only [Act.put, List.setIfInBounds_toArray, List.set_cons_zero, List.set_cons_succ])
              refine take_at (i := 14) (d := 79) (v := (.int .i64 (cn : Int))) rfl rfl (by kernel_rfl) (by kernel_rfl) (by kernel_rfl) (fun _ _ _ h => h) (Or.inl ⟨by rfl, ?_⟩) (by assumption) ?_
              · intro X hX; go_simp
              (try simp only [Act.put, List.setIfInBounds_toArray, List.set_cons_zero, List.set_cons_succ])
              refine take_at (i := 15) (d := 80) (v := (.int .u32 (cn : Int))) rfl rfl (by kernel_rfl) (by kernel_rfl) (by kernel_rfl) (fun _ _ _ h => h) (Or.inl ⟨by rfl, ?_⟩) (by assumption) ?_
              · intro X hX; go_simp
              (try simp only [Act.put, List.setIfInBounds_toArray, List.set_cons_zero, List.set_cons_succ])
              refine take_at (i := 16) (d := 81) (v := (.int .u32 (yb : Int))) rfl rfl (by kernel_rfl) (by kernel_rfl) (by kernel_rfl) (fun _ _ _ h => h) (Or.inl ⟨by rfl, ?_⟩) (by assumption) ?_
              · intro X hX; go_simp
              (try simp only [Act.put, List.setIfInBounds_toArray, List.set_cons_zero, List.set_cons_succ])
              refine wpAnyH_ready (rs := [5]) (by kernel_rfl) (by simp) ?_
              refine AllReadyH.cons rfl (fun K hK => ?_) AllReadyH.nil
              go_simp
              (with_reducible refine (HYH.out _).mono ?_)
              rintro e wq ⟨rfl, rfl⟩
              skip
              go_simp
              refine hK.out _ _ (hHeld1) (fun hHeld2 => ?_)
              clear hK K
              (try simp only [Act.put, List.setIfInBounds_toArray, List.set_cons_zero, List.set_cons_succ])
              refine take_at (i := 10) (d := 75) (v := (.int .u32 (yb : Int))) rfl rfl (by kernel_rfl) (by kernel_rfl) (by kernel_rfl) (fun _ _ _ h => h) (Or.inl ⟨by rfl, ?_⟩) (by assumption) ?_
              · intro X hX; go_simp
              (try simp only [Act.put, List.setIfInBounds_toArray, List.set_cons_zero, List.set_cons_succ])
              refine take_at (i := 17) (d := 82) (v := (.bool true)) rfl rfl (by kernel_rfl) (by kernel_rfl) (by kernel_rfl) (fun _ _ _ h => h) (Or.inl ⟨by rfl, ?_⟩) (by assumption) ?_
              · intro X hX; go_simp
              (try simp only [Act.put, List.setIfInBounds_toArray, List.set_cons_zero, List.set_cons_succ])
              refine take_at (i := 18) (d := 83) (v := (.bool true)) rfl rfl (by kernel_rfl) (by kernel_rfl) (by kernel_rfl) (fun _ _ _ h => h) (Or.inl ⟨by rfl, ?_⟩) (by assumption) ?_
              · intro X hX; go_simp
              (try simp only [Act.put, List.setIfInBounds_toArray, List.set_cons_zero, List.set_cons_succ])
              refine wpAnyH_done (by kernel_rfl) ?_ _
              have HBN := Lib.hid (HBJ2.out.trans (hHeld2.mono HBJ2.out.size))
              clear m1 m2 e1 e2 e3 e4 e5 e6
              go_wp2
              go_roundw
              case rel => exact ⟨k + 1, j + 1, by omega, by go_num, by go_num, HTN.out, by omega, HBN.out⟩
              case measure => simp [intOf]; omega
            · have hbf : ((yb : Int) == (br : Int)) = false := beq_eq_false_iff_ne.2 (by omega)
              have hbg : (yb == br) = false := beq_eq_false_iff_ne.2 hbe
              have HTN := Lib.hid (show j = (fillS ss cn (k + 1) br).length by rw [HTK.out, HJ.out]; simp [hbe])
              clear HTK
              refine take_at (i := 0) (d := 65) (v := (symV y)) rfl rfl (by kernel_rfl) (by kernel_rfl) (by kernel_rfl) (fun _ _ _ h => h) (Or.inl ⟨by rfl, ?_⟩) (by assumption) ?_
              · intro X hX; obtain ⟨y0, y1, y2, y3, y4, y5, y6, y7, y8⟩ := (HYB.out.below hX).cells; go_simp
              (try simp only [Act.put, List.setIfInBounds_toArray, List.set_cons_zero, List.set_cons_succ])
              refine wpAnyH_ready (rs := [1]) (by kernel_rfl) (by simp) ?_
              refine AllReadyH.cons rfl (fun K hK => ?_) AllReadyH.nil
              go_simp
              (with_reducible refine (HSE.out _).mono ?_)
              rintro e w9 ⟨rfl, hb9⟩
              have HB9 := Lib.hid hb9; clear hb9
              go_simp
              refine hK.out _ _ (hHeld0.trans (HB9.out.mono hHeld0.size)) (fun hHeld1 => ?_)
              clear hK K
              (try simp only [Act.put, List.setIfInBounds_toArray, List.set_cons_zero, List.set_cons_succ])
              refine take_at (i := 2) (d := 67) (v := (.bool true)) rfl rfl (by kernel_rfl) (by kernel_rfl) (by kernel_rfl) (fun _ _ _ h => h) (Or.inl ⟨by rfl, ?_⟩) (by assumption) ?_
              · intro X hX; go_simp
              (try simp only [Act.put, List.setIfInBounds_toArray, List.set_cons_zero, List.set_cons_succ])
              refine take_at (i := 3) (d := 68) (v := (.pointer (some ⟨yb8, 0, none⟩))) rfl rfl (by kernel_rfl) (by kernel_rfl) (by kernel_rfl) (fun _ _ _ h => h) (Or.inl ⟨by rfl, ?_⟩) (by assumption) ?_
              · intro X hX; go_simp
              (try simp only [Act.put, List.setIfInBounds_toArray, List.set_cons_zero, List.set_cons_succ])
              refine take_at (i := 4) (d := 69) (v := (str y.name)) rfl rfl (by kernel_rfl) (by kernel_rfl) (by kernel_rfl) (fun _ _ _ h => h) (Or.inl ⟨by rfl, ?_⟩) (by assumption) ?_
              · intro X hX; obtain ⟨y0, y1, y2, y3, y4, y5, y6, y7, y8⟩ := (HYB.out.below hX).cells; go_simp
              (try simp only [Act.put, List.setIfInBounds_toArray, List.set_cons_zero, List.set_cons_succ])
              refine take_at (i := 6) (d := 71) (v := (.pointer (some ⟨tb, 0, none⟩))) rfl rfl (by kernel_rfl) (by kernel_rfl) (by kernel_rfl) (fun _ _ _ h => h) (Or.inl ⟨by rfl, ?_⟩) (by assumption) ?_
              · intro X hX; go_simp
              (try simp only [Act.put, List.setIfInBounds_toArray, List.set_cons_zero, List.set_cons_succ])
              refine take_at (i := 7) (d := 72) (v := (.slice p.bk.1 cn p.bk.2)) rfl rfl (by kernel_rfl) (by kernel_rfl) (by kernel_rfl) (fun _ _ _ h => h) (Or.inl ⟨by rfl, ?_⟩) (by assumption) ?_
              · intro X hX; have t0 := cell_below hX t0; go_simp
              (try simp only [Act.put, List.setIfInBounds_toArray, List.set_cons_zero, List.set_cons_succ])
              refine take_at (i := 8) (d := 73) (v := (.int .i64 (cn : Int))) rfl rfl (by kernel_rfl) (by kernel_rfl) (by kernel_rfl) (fun _ _ _ h => h) (Or.inl ⟨by rfl, ?_⟩) (by assumption) ?_
              · intro X hX; go_simp
              (try simp only [Act.put, List.setIfInBounds_toArray, List.set_cons_zero, List.set_cons_succ])
              refine take_at (i := 9) (d := 74) (v := (.int .u32 (cn : Int))) rfl rfl (by kernel_rfl) (by kernel_rfl) (by kernel_rfl) (fun _ _ _ h => h) (Or.inl ⟨by rfl, ?_⟩) (by assumption) ?_
              · intro X hX; go_simp
              (try simp only [Act.put, List.setIfInBounds_toArray, List.set_cons_zero, List.set_cons_succ])
              refine take_at (i := 11) (d := 76) (v := (hv rh)) rfl rfl (by kernel_rfl) (by kernel_rfl) (by kernel_rfl) (fun _ _ _ h => h) (Or.inl ⟨by rfl, ?_⟩) (by assumption) ?_
              · intro X hX; go_simp
              (try simp only [Act.put, List.setIfInBounds_toArray, List.set_cons_zero, List.set_cons_succ])
              refine take_at (i := 12) (d := 77) (v := (.pointer (some ⟨tb, 0, none⟩))) rfl rfl (by kernel_rfl) (by kernel_rfl) (by kernel_rfl) (fun _ _ _ h => h) (Or.inl ⟨by rfl, ?_⟩) (by assumption) ?_
              · intro X hX; go_simp
              (try simp only [Act.put, List.setIfInBounds_toArray, List.set_cons_zero, List.set_cons_succ])
              refine take_at (i := 13) (d := 78) (v := (.slice p.bk.1 cn p.bk.2)) rfl rfl (by kernel_rfl) (by kernel_rfl) (by kernel_rfl) (fun _ _ _ h => h) (Or.inl ⟨by rfl, ?_⟩) (by assumption) ?_
              · intro X hX; have t0 := cell_below hX t0; go_simp
              (try simp only [Act.put, List.setIfInBounds_toArray, List.set_cons_zero, List.set_cons_succ])
              refine take_at (i := 14) (d := 79) (v := (.int .i64 (cn : Int))) rfl rfl (by kernel_rfl) (by kernel_rfl) (by kernel_rfl) (fun _ _ _ h => h) (Or.inl ⟨by rfl, ?_⟩) (by assumption) ?_
              · intro X hX; go_simp
              (try simp only [Act.put, List.setIfInBounds_toArray, List.set_cons_zero, List.set_cons_succ])
              refine take_at (i := 15) (d := 80) (v := (.int .u32 (cn : Int))) rfl rfl (by kernel_rfl) (by kernel_rfl) (by kernel_rfl) (fun _ _ _ h => h) (Or.inl ⟨by rfl, ?_⟩) (by assumption) ?_
              · intro X hX; go_simp
              (try simp only [Act.put, List.setIfInBounds_toArray, List.set_cons_zero, List.set_cons_succ])
              refine take_at (i := 16) (d := 81) (v := (.int .u32 (br : Int))) rfl rfl (by kernel_rfl) (by kernel_rfl) (by kernel_rfl) (fun _ _ _ h => h) (Or.inl ⟨by rfl, ?_⟩) (by assumption) ?_
              · intro X hX; go_simp
              (try simp only [Act.put, List.setIfInBounds_toArray, List.set_cons_zero, List.set_cons_succ])
              refine wpAnyH_ready (rs := [5]) (by kernel_rfl) (by simp) ?_
              refine AllReadyH.cons rfl (fun K hK => ?_) AllReadyH.nil
              go_simp
              (with_reducible refine (HYH.out _).mono ?_)
              rintro e wq ⟨rfl, rfl⟩
              skip
              go_simp
              refine hK.out _ _ (hHeld1) (fun hHeld2 => ?_)
              clear hK K
              (try simp only [Act.put, List.setIfInBounds_toArray, List.set_cons_zero, List.set_cons_succ])
              refine take_at (i := 10) (d := 75) (v := (.int .u32 (yb : Int))) rfl rfl (by kernel_rfl) (by kernel_rfl) (by kernel_rfl) (fun _ _ _ h => h) (Or.inl ⟨by rfl, ?_⟩) (by assumption) ?_
              · intro X hX; go_simp
              (try simp only [Act.put, List.setIfInBounds_toArray, List.set_cons_zero, List.set_cons_succ])
              refine take_at (i := 17) (d := 82) (v := (.bool false)) rfl rfl (by kernel_rfl) (by kernel_rfl) (by kernel_rfl) (fun _ _ _ h => h) (Or.inl ⟨by rfl, ?_⟩) (by assumption) ?_
              · intro X hX; go_simp
              (try simp only [Act.put, List.setIfInBounds_toArray, List.set_cons_zero, List.set_cons_succ])
              refine take_at (i := 18) (d := 83) (v := (.bool false)) rfl rfl (by kernel_rfl) (by kernel_rfl) (by kernel_rfl) (fun _ _ _ h => h) (Or.inl ⟨by rfl, ?_⟩) (by assumption) ?_
              · intro X hX; go_simp
              (try simp only [Act.put, List.setIfInBounds_toArray, List.set_cons_zero, List.set_cons_succ])
              refine wpAnyH_done (by kernel_rfl) ?_ _
              have HBN := Lib.hid (HBJ2.out.trans (hHeld2.mono HBJ2.out.size))
              clear m1 m2 e1 e2 e3 e4 e5 e6
              go_wp2
              go_roundw
              case rel => exact ⟨k + 1, j, by omega, by go_num, rfl, HTN.out, by omega, HBN.out⟩
              case measure => simp [intOf]; omega
        · obtain rfl : k = ss.length := by omega
          have HVJ := Lib.hid (show 0 ≤ v ∧ v ≤ (j : Int) from by rw [HJ.out]; exact HV2.out)
          have t1 : w8.cell? ⟨tb, 1, none⟩ = some (.slice p.fw.1 wl p.fw.2) := cell_of_row w8 tb 1 _ _ _ (HX7.out.below HBI.out)
          have t2 : w8.cell? ⟨tb, 2, none⟩ = some (.int .i64 x.shift) := cell_of_row w8 tb 2 _ _ _ (HX7.out.below HBI.out)
          have HLA8 := Lib.hid (HLA.out _ HB8.out)
          have d1 : decide (v < 0) = false := decide_eq_false (by have := HVJ.out; omega)
          have d2 : decide ((j : Int) < v) = false := decide_eq_false (by have := HVJ.out; omega)
          cases lk
          · go_wp2_with (go_at_call 28; (with_reducible refine (HLA8.out).mono ?_); rintro e w9 ⟨rfl, hb9⟩; have HB9 := Lib.hid (HB8.out.trans (hb9.mono HB8.out.size)); clear hb9; have n0 := HNI.out _ HB9.out)
            go_roundw
            case rel => exact ⟨i + 1, by omega, by go_num, HB9.out⟩
            case measure => simp [intOf]; omega
          · obtain rfl := HV1.out rfl
            go_wp2_with (go_at_call 28; (with_reducible refine (HLA8.out).mono ?_); rintro e w9 ⟨rfl, hb9⟩; have HB9 := Lib.hid (HB8.out.trans (hb9.mono HB8.out.size)); clear hb9; have n0 := HNI.out _ HB9.out)
            go_roundw
            case rel => exact ⟨i + 1, by omega, by go_num, HB9.out⟩
            case measure => simp [intOf]; omega
    · obtain rfl : i = xs.length := by omega
      go_wp2
      first | go_ret2 | go_ret | skip
      exact ⟨rfl, HB5.out.trans (HBR.out.mono HB5.out.size)⟩
end Go.Proofs.Ytpcgedngikpnoaa
