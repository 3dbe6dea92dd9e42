/-
  The instruction of a line: the document's.
-/
import Derived.Test.YtoebboimdkogpaaDoorTc
import Derived.Deep.RegionHeld3
namespace Go.Proofs.YtoebboimdkogpaaDoor
open Go.RowKit

theorem wordsM_hit (x : Str) (xs : List Str) (k : Nat) (hk : k < 23) (h : (shapes[k]'hk).name = x) : wordsM (x :: xs) = match argsM (formL (shapes[k]'hk)) xs ⟨k, 0, 0, 0, 0⟩ with
    | none => none
    | some i => if mayB i = true then some i else none := by
  have hsk : shapes[k]? = some (shapes[k]'hk) := List.getElem?_eq_getElem (show k < shapes.length from hk)
  have hox := opIdx_at x k hk h
  generalize shapes[k]'hk = s at *
  unfold wordsM
  simp only [hox, hsk]
  cases argsM (formL s) xs ⟨k, 0, 0, 0, 0⟩ <;> rfl
theorem wordsM_miss (x : Str) (xs : List Str) (h : ∀ (k : Nat) (hk : k < 23), (shapes[k]'hk).name = x → (formL (shapes[k]'hk)).length ≠ xs.length) : wordsM (x :: xs) = none := by
  cases hx : opIdx x with
  | none => unfold wordsM; simp only [hx]
  | some k =>
    obtain ⟨hk, hn⟩ := opIdx_some hx
    rw [wordsM_hit x xs k hk hn, argsM_len _ _ _ (h k hk hn)]
theorem argsM_step (f : UInt8) (y : Str) (fs : Str) (xs : List Str) (i : Ins) (j : Nat) (hj : j < fs.length) (hx : j < xs.length) (hf : fs[j] = f) (hy : xs[j] = y) :
    argsM (fs.drop j) (xs.drop j) i = match numOf f y with
      | none => none
      | some n => argsM (fs.drop (j + 1)) (xs.drop (j + 1)) (withP i f n) := by
  rw [List.drop_eq_getElem_cons hj, List.drop_eq_getElem_cons hx, hf, hy, argsM]
  cases numOf f y <;> rfl
theorem form_short (k : Nat) (hk : k < 23) : (formL (shapes[k]'hk)).length ≤ 4 := shape_len k hk

set_option maxRecDepth 100000 in
set_option maxHeartbeats 16000000 in
theorem rtyped_any (l : Str) (w : World) (hl : l.length ≤ 1048576) (he : Env w) : Calls Tryd.prog 44 #[str l] w (Lined w l) := by
  have HE := Lib.hid he
  have hb1 : Below w.heap.size w (w.alloc (.cells #[.int .i64 0, .int .i64 0, .int .i64 0, .int .i64 0, .int .i64 0] 35)) := (Below.refl _ _).alloc (Nat.le_refl _) _
  have HR1 := Lib.hid (show Bx (w.alloc (.cells #[.int .i64 0, .int .i64 0, .int .i64 0, .int .i64 0, .int .i64 0] 35)) w.heap.size #[.int .i64 0, .int .i64 0, .int .i64 0, .int .i64 0, .int .i64 0] 35 from Bx.new _ _ _)
  have HCU := Lib.hid (fun w1 => rcut_any l 32 w1 (by omega))
  have HTY := Lib.hid (show typedM l = wordsM (cut 32 l) from rfl)
  have hcl := cut_le 32 l
  obtain ⟨x, xs, hcx⟩ : ∃ x xs, cut 32 l = x :: xs := by
    cases h : cut 32 l with
    | nil => exact absurd h (cut_ne 32 l)
    | cons x xs => exact ⟨x, xs, rfl⟩
  rw [hcx] at HCU HTY hcl
  have HCL := Lib.hid hcl
  have hxl : xs.length ≤ 1048576 := by have := cut_length 32 l; rw [hcx] at this; simp at this; omega
  generalize hL : Lined w l = L
  have HL := Lib.hid hL
  have HB1 := Lib.hid hb1
  clear he hb1 hcx hcl hL
  go_enter Tryd.func44, Tryd.ntmps44
  go_wp2_with fail
  refine (HCU.out _).mono ?_
  rintro e w2 ⟨A2, d2, rfl, hb2, ho2⟩
  obtain ⟨gw, rfl⟩ : ∃ g, A2 = some ⟨g, 0, none⟩ := by
    rcases ho2.2 with ⟨h1, _⟩ | ⟨g, _, _, h1, _⟩
    · cases h1
    · cases h1; exact ⟨g, rfl⟩
  have HW2 := Lib.hid ((Src.of_own ho2).lt)
  have HB2 := Lib.hid (HB1.out.trans (hb2.mono HB1.out.size))
  have HR2 := Lib.hid (HR1.out.below hb2)
  clear hb2 ho2 HR1 HB1 HCU
  simp only [List.length_cons] at HW2 ⊢
  go_wp2_with fail
  go_loopw [5] (fun t5 wr => ∃ k : Nat, k ≤ 23 ∧ t5 = .int .i64 k ∧ (∀ (j : Nat) (hj : j < 23), j < k → (shapes[j]'hj).name = x → (formL (shapes[j]'hj)).length ≠ xs.length) ∧ Below w2.heap.size w2 wr) (fun t5 _ => 23 - (intOf t5).toNat)
  case atStart => exact ⟨0, by omega, rfl, by intro j hj h; omega, Below.refl _ _⟩
  case round =>
    obtain ⟨k, hk, rfl, hno, hb⟩ := hrel
    have HNO := Lib.hid hno
    have HB := Lib.hid hb
    clear hno hb
    by_cases hk23 : k < 23
    · have HN := Lib.hid (rname_in k hk23 wr)
      have hle : (k : Int) ≤ 22 := by omega
      have hx0 : wr.cell? ⟨gw, 0, none⟩ = some (str x) := by
        have := (HW2.out.below HB.out (fun _ h => h)).at_ _ rfl 0 (str x) rfl
        rwa [plainAdd] at this
      have HHIT := Lib.hid (wordsM_hit x xs k hk23)
      have hfs := form_short k hk23
      have HMISS := Lib.hid (show ((shapes[k]'hk23).name = x → (formL (shapes[k]'hk23)).length ≠ xs.length) → ∀ (j : Nat) (hj : j < 23), j < k + 1 → (shapes[j]'hj).name = x → (formL (shapes[j]'hj)).length ≠ xs.length by
        intro h j hj hjk
        by_cases hjk' : j = k
        · subst hjk'; exact h
        · exact HNO.out j hj (by omega))
      generalize hfo : formL (shapes[k]'hk23) = fo at *
      generalize hnm : (shapes[k]'hk23).name = nm at *
      clear hfo hnm
      by_cases hnx : nm = x
      · subst hnx
        by_cases hlen : fo.length = xs.length
        · have HTY2 := Lib.hid (HTY.out.trans (HHIT.out rfl))
          have hlz : ((xs.length : Int) != (fo.length : Int)) = false := by simp; omega
          clear HMISS HHIT HNO HTY
          go_wp2_with fail
          refine HN.out.mono ?_
          rintro e w3 ⟨rfl, rfl⟩
          go_wp2_with fail
          generalize hg9 : wr.heap.size = g9 at *
          go_loopw [10] (fun t10 wr => ∃ (j : Nat) (i : Ins), j ≤ fo.length ∧ t10 = .int .i64 j ∧ argsM fo xs ⟨k, 0, 0, 0, 0⟩ = argsM (fo.drop j) (xs.drop j) i ∧ LineAt w wr g9 i ∧ Below w2.heap.size w2 wr) (fun t10 _ => fo.length - (intOf t10).toNat)
          case atStart => exact ⟨0, ⟨k, 0, 0, 0, 0⟩, Nat.zero_le _, rfl, rfl, ⟨(HB2.out.trans (HB.out.mono HB2.out.size)).alloc (HB2.out.trans (HB.out.mono HB2.out.size)).size _, by rw [← hg9]; exact Bx.new _ _ _, (HR2.out.below HB.out).alloc _⟩, HB.out.alloc HB.out.size _⟩
          case round =>
            obtain ⟨j, i, hj, rfl, har, hla, hbw⟩ := hrel
            have HAR := Lib.hid har
            have HLA := Lib.hid hla
            have HBW := Lib.hid hbw
            have HG9 := Lib.hid (show w2.heap.size ≤ g9 by rw [← hg9]; exact HB.out.size)
            clear har hla hbw
            obtain ⟨op, a, b, c, nn⟩ := i
            by_cases hjf : j < fo.length
            · have hjx : j < xs.length := by omega
              have hcell : wr.cell? ⟨gw, j + 1, none⟩ = some (str xs[j]) := by
                have := (HW2.out.below HBW.out (fun _ h => h)).at_ _ rfl (j + 1) (str xs[j]) (by simp [strs, hjx])
                rw [plainAdd, Nat.zero_add] at this
                exact this
              have HST := Lib.hid (argsM_step fo[j] xs[j] fo xs ⟨op, a, b, c, nn⟩ j hjf hjx rfl rfl)
              have hyl : xs[j].length ≤ 1048576 := Nat.le_trans (HCL.out _ (List.mem_cons_of_mem _ (List.getElem_mem hjx))) hl
              generalize xs[j] = y at *
              have he : ((((⟨fo.toArray⟩ : ByteArray)[j]'(by simpa [ByteArray.size] using hjf)).toNat : Int) == 110) = (fo[j] == 110) := u8_int fo[j] 110
              obtain ⟨c0, c1, c2, c3, c4, r0, r1, r2, r3, r4, s0, s1, s2, s3, s4⟩ := HLA.out.cells
              simp only at c0 c1 c2 c3 c4
              have hwj : wrap64 ((j : Int) + 1) = ((j + 1 : Nat) : Int) := by rw [IntWalk.wrap64_in _ (by omega)]; omega
              by_cases hf : fo[j] = 110
              · have HZ := Lib.hid (show decM y = numOf fo[j] y by unfold numOf; rw [if_pos hf])
                obtain ⟨z, hz⟩ : ∃ z, z = y := ⟨y, rfl⟩
                subst hz
                rw [beq_iff_eq.2 hf] at he
                clear hf
                go_wp2_with fail
                refine (number_any z wr (HE.out.below HLA.out.below) (by omega)).mono ?_
                rintro e w5 ⟨hb5, v, ok, rfl, hok⟩
                have HLA5 := Lib.hid (HLA.out.on hb5)
                have HBW5 := Lib.hid (HBW.out.trans (hb5.mono HBW.out.size))
                rw [HZ.out] at hok
                have HOK := Lib.hid hok
                clear hb5 hok HLA HBW c0 c1 c2 c3 c4
                cases ok
                · have HNN := Lib.hid (show typedM l = none by rw [HTY2.out, HAR.out, HST.out, HOK.out]; rfl)
                  obtain ⟨p0, p1, p2, p3, p4, p5, p6, p7, p8, p9, p10, p11, p12, p13, p14⟩ := HLA5.out.cells
                  simp only at p0 p1 p2 p3 p4
                  clear HAR HST HOK HTY2
                  go_wp2_with fail
                  have hq := set5_bx HLA5.out.res (.int .i64 op) (.int .i64 a) (.int .i64 b) (.int .i64 c) (.int .i64 nn)
                  have hbq := Lib.hid (below_set5 HLA5.out.below (Nat.le_refl _) (.int .i64 op) (.int .i64 a) (.int .i64 b) (.int .i64 c) (.int .i64 nn))
                  generalize ((((w5.setCell ⟨w.heap.size, 0, none⟩ (.int .i64 op)).setCell ⟨w.heap.size, 1, none⟩ (.int .i64 a)).setCell ⟨w.heap.size, 2, none⟩ (.int .i64 b)).setCell ⟨w.heap.size, 3, none⟩ (.int .i64 c)).setCell ⟨w.heap.size, 4, none⟩ (.int .i64 nn) = w8 at *
                  have v0 := hq.c 0
                  have v1 := hq.c 1
                  have v2 := hq.c 2
                  have v3 := hq.c 3
                  have v4 := hq.c 4
                  refine bodyPost_ret (v := .tuple #[insV ⟨op, a, b, c, nn⟩, .bool false]) (by simp [results, Tryd.results44, go_sem, v0, v1, v2, v3, v4]) rfl ?_
                  rw [← HL.out]
                  exact ⟨hbq.out, _, false, rfl, HNN.out⟩

                · have HAR5 := Lib.hid (show argsM fo xs ⟨k, 0, 0, 0, 0⟩ = argsM (fo.drop (j + 1)) (xs.drop (j + 1)) (withP ⟨op, a, b, c, nn⟩ fo[j] v) by rw [HAR.out, HST.out, HOK.out]; rfl)
                  obtain ⟨p0, p1, p2, p3, p4, p5, p6, p7, p8, p9, p10, p11, p12, p13, p14⟩ := HLA5.out.cells
                  simp only at p0 p1 p2 p3 p4
                  have HAF := Lib.hid (HLA5.out.box.f)
                  have HWI := Lib.hid (fun w1 => rwith_any ⟨op, a, b, c, nn⟩ fo[j] v w1)
                  have HRE := Lib.hid (show ∀ w7, Below w5.drew.heap.size w5.drew w7 → LineAt w w7 g9 ⟨op, a, b, c, nn⟩ ∧ Below w2.heap.size w2 w7 from fun w7 h7 => ⟨HLA5.out.on ((drew_below w5).trans h7), HBW5.out.trans (((drew_below w5).trans h7).mono HBW5.out.size)⟩)
                  clear HAR HST HOK
                  generalize hwp : withP ⟨op, a, b, c, nn⟩ fo[j] v = i2 at *
                  obtain ⟨op2, a2, b2, c2, nn2⟩ := i2
                  clear hwp
                  go_wp2_with fail
                  first | (go_region_with (first
                    | (go_at_call 54; (refine (HWI.out _).mono ?_); rintro e w7 ⟨rfl, hb7⟩; obtain ⟨hla7, hbw7⟩ := HRE.out w7 hb7; have HLA7 := Lib.hid hla7; have HBW7 := Lib.hid hbw7; have y0 := hla7.box.c 0; have y1 := hla7.box.c 1; have y2 := hla7.box.c 2; have y3 := hla7.box.c 3; have y4 := hla7.box.c 4; have z0 := hla7.box.f 0; have z1 := hla7.box.f 1; have z2 := hla7.box.f 2; have z3 := hla7.box.f 3; have z4 := hla7.box.f 4; clear hla7 hbw7 hb7))) | fail
                  all_goals
                    have hq := set5_bx HLA7.out.box (.int .i64 op2) (.int .i64 a2) (.int .i64 b2) (.int .i64 c2) (.int .i64 nn2)
                    have hbq := below_set5 HLA7.out.below (Nat.le_trans (Nat.le_of_lt HR2.out.lt) HG9.out) (.int .i64 op2) (.int .i64 a2) (.int .i64 b2) (.int .i64 c2) (.int .i64 nn2)
                    have hbw := below_set5 HBW7.out HG9.out (.int .i64 op2) (.int .i64 a2) (.int .i64 b2) (.int .i64 c2) (.int .i64 nn2)
                    have hne : w.heap.size ≠ g9 := Nat.ne_of_lt (Nat.lt_of_lt_of_le HR2.out.lt HG9.out)
                    have hres := ((((HLA7.out.res.other (a := ⟨g9, 0, none⟩) hne (.int .i64 op2)).other (a := ⟨g9, 1, none⟩) hne (.int .i64 a2)).other (a := ⟨g9, 2, none⟩) hne (.int .i64 b2)).other (a := ⟨g9, 3, none⟩) hne (.int .i64 c2)).other (a := ⟨g9, 4, none⟩) hne (.int .i64 nn2)
                    generalize ((((w7.setCell ⟨g9, 0, none⟩ (.int .i64 op2)).setCell ⟨g9, 1, none⟩ (.int .i64 a2)).setCell ⟨g9, 2, none⟩ (.int .i64 b2)).setCell ⟨g9, 3, none⟩ (.int .i64 c2)).setCell ⟨g9, 4, none⟩ (.int .i64 nn2) = w8 at *
                    have HQ := Lib.hid hq
                    have HBQ := Lib.hid hbq
                    have HBW8 := Lib.hid hbw
                    have HRS := Lib.hid hres
                    clear hq hbq hbw hne hres HLA7 HBW7 y0 y1 y2 y3 y4 z0 z1 z2 z3 z4 p0 p1 p2 p3 p4 p5 p6 p7 p8 p9 p10 p11 p12 p13 p14
                    go_wp2_with fail
                    exact ⟨⟨j + 1, ⟨op2, a2, b2, c2, nn2⟩, by omega, by go_num, HAR5.out, ⟨HBQ.out, HQ.out, HRS.out⟩, HBW8.out⟩, by simp [intOf]; omega⟩
              · rw [beq_eq_false_iff_ne.2 hf] at he
                cases y with
                | nil =>
                  have HNN := Lib.hid (show typedM l = none by rw [HTY2.out, HAR.out, HST.out]; unfold numOf; rw [if_neg hf])
                  clear hf HAR HST HTY2
                  go_wp2_with fail
                  have hq := set5_bx HLA.out.res (.int .i64 op) (.int .i64 a) (.int .i64 b) (.int .i64 c) (.int .i64 nn)
                  have hbq := Lib.hid (below_set5 HLA.out.below (Nat.le_refl _) (.int .i64 op) (.int .i64 a) (.int .i64 b) (.int .i64 c) (.int .i64 nn))
                  generalize ((((wr.setCell ⟨w.heap.size, 0, none⟩ (.int .i64 op)).setCell ⟨w.heap.size, 1, none⟩ (.int .i64 a)).setCell ⟨w.heap.size, 2, none⟩ (.int .i64 b)).setCell ⟨w.heap.size, 3, none⟩ (.int .i64 c)).setCell ⟨w.heap.size, 4, none⟩ (.int .i64 nn) = w8 at *
                  have v0 := hq.c 0
                  have v1 := hq.c 1
                  have v2 := hq.c 2
                  have v3 := hq.c 3
                  have v4 := hq.c 4
                  refine bodyPost_ret (v := .tuple #[insV ⟨op, a, b, c, nn⟩, .bool false]) (by simp [results, Tryd.results44, go_sem, v0, v1, v2, v3, v4]) rfl ?_
                  rw [← HL.out]
                  exact ⟨hbq.out, _, false, rfl, HNN.out⟩
                | cons r z =>
                  by_cases hr : r = 114
                  · subst hr
                    have HZ := Lib.hid (show decM z = numOf fo[j] (114 :: z) by unfold numOf; rw [if_neg hf]; rfl)
                    have hsl : ∀ w', (Instr.slice 9 (str (114 :: z)) (some (.int .i64 1)) none none).run Tryd.prog w' = .ok (str z) w' := by
                      intro w'
                      have hz : (ByteArray.mk (114 :: z).toArray).size = z.length + 1 := by simp [ByteArray.size]
                      rw [str, run_slice_string_l (w := w') 9 ⟨(114 :: z).toArray⟩ (by kernel_rfl) .i64 (1 : Int) (by omega) (by rw [hz]; omega), ByteArray.extract_mk, hz]
                      simp
                    have hzl : z.length ≤ 1048576 := by simp at hyl; omega
                    clear hf
                    go_wp2_with fail
                    refine (number_any z wr (HE.out.below HLA.out.below) (by omega)).mono ?_
                    rintro e w5 ⟨hb5, v, ok, rfl, hok⟩
                    have HLA5 := Lib.hid (HLA.out.on hb5)
                    have HBW5 := Lib.hid (HBW.out.trans (hb5.mono HBW.out.size))
                    rw [HZ.out] at hok
                    have HOK := Lib.hid hok
                    clear hb5 hok HLA HBW c0 c1 c2 c3 c4
                    cases ok
                    · have HNN := Lib.hid (show typedM l = none by rw [HTY2.out, HAR.out, HST.out, HOK.out]; rfl)
                      obtain ⟨p0, p1, p2, p3, p4, p5, p6, p7, p8, p9, p10, p11, p12, p13, p14⟩ := HLA5.out.cells
                      simp only at p0 p1 p2 p3 p4
                      clear HAR HST HOK HTY2
                      go_wp2_with fail
                      have hq := set5_bx HLA5.out.res (.int .i64 op) (.int .i64 a) (.int .i64 b) (.int .i64 c) (.int .i64 nn)
                      have hbq := Lib.hid (below_set5 HLA5.out.below (Nat.le_refl _) (.int .i64 op) (.int .i64 a) (.int .i64 b) (.int .i64 c) (.int .i64 nn))
                      generalize ((((w5.setCell ⟨w.heap.size, 0, none⟩ (.int .i64 op)).setCell ⟨w.heap.size, 1, none⟩ (.int .i64 a)).setCell ⟨w.heap.size, 2, none⟩ (.int .i64 b)).setCell ⟨w.heap.size, 3, none⟩ (.int .i64 c)).setCell ⟨w.heap.size, 4, none⟩ (.int .i64 nn) = w8 at *
                      have v0 := hq.c 0
                      have v1 := hq.c 1
                      have v2 := hq.c 2
                      have v3 := hq.c 3
                      have v4 := hq.c 4
                      refine bodyPost_ret (v := .tuple #[insV ⟨op, a, b, c, nn⟩, .bool false]) (by simp [results, Tryd.results44, go_sem, v0, v1, v2, v3, v4]) rfl ?_
                      rw [← HL.out]
                      exact ⟨hbq.out, _, false, rfl, HNN.out⟩

                    · have HAR5 := Lib.hid (show argsM fo xs ⟨k, 0, 0, 0, 0⟩ = argsM (fo.drop (j + 1)) (xs.drop (j + 1)) (withP ⟨op, a, b, c, nn⟩ fo[j] v) by rw [HAR.out, HST.out, HOK.out]; rfl)
                      obtain ⟨p0, p1, p2, p3, p4, p5, p6, p7, p8, p9, p10, p11, p12, p13, p14⟩ := HLA5.out.cells
                      simp only at p0 p1 p2 p3 p4
                      have HAF := Lib.hid (HLA5.out.box.f)
                      have HWI := Lib.hid (fun w1 => rwith_any ⟨op, a, b, c, nn⟩ fo[j] v w1)
                      have HRE := Lib.hid (show ∀ w7, Below w5.drew.heap.size w5.drew w7 → LineAt w w7 g9 ⟨op, a, b, c, nn⟩ ∧ Below w2.heap.size w2 w7 from fun w7 h7 => ⟨HLA5.out.on ((drew_below w5).trans h7), HBW5.out.trans (((drew_below w5).trans h7).mono HBW5.out.size)⟩)
                      clear HAR HST HOK
                      generalize hwp : withP ⟨op, a, b, c, nn⟩ fo[j] v = i2 at *
                      obtain ⟨op2, a2, b2, c2, nn2⟩ := i2
                      clear hwp
                      go_wp2_with fail
                      first | (go_region_with (first
                        | (go_at_call 54; (refine (HWI.out _).mono ?_); rintro e w7 ⟨rfl, hb7⟩; obtain ⟨hla7, hbw7⟩ := HRE.out w7 hb7; have HLA7 := Lib.hid hla7; have HBW7 := Lib.hid hbw7; have y0 := hla7.box.c 0; have y1 := hla7.box.c 1; have y2 := hla7.box.c 2; have y3 := hla7.box.c 3; have y4 := hla7.box.c 4; have z0 := hla7.box.f 0; have z1 := hla7.box.f 1; have z2 := hla7.box.f 2; have z3 := hla7.box.f 3; have z4 := hla7.box.f 4; clear hla7 hbw7 hb7))) | fail
                      all_goals
                        have hq := set5_bx HLA7.out.box (.int .i64 op2) (.int .i64 a2) (.int .i64 b2) (.int .i64 c2) (.int .i64 nn2)
                        have hbq := below_set5 HLA7.out.below (Nat.le_trans (Nat.le_of_lt HR2.out.lt) HG9.out) (.int .i64 op2) (.int .i64 a2) (.int .i64 b2) (.int .i64 c2) (.int .i64 nn2)
                        have hbw := below_set5 HBW7.out HG9.out (.int .i64 op2) (.int .i64 a2) (.int .i64 b2) (.int .i64 c2) (.int .i64 nn2)
                        have hne : w.heap.size ≠ g9 := Nat.ne_of_lt (Nat.lt_of_lt_of_le HR2.out.lt HG9.out)
                        have hres := ((((HLA7.out.res.other (a := ⟨g9, 0, none⟩) hne (.int .i64 op2)).other (a := ⟨g9, 1, none⟩) hne (.int .i64 a2)).other (a := ⟨g9, 2, none⟩) hne (.int .i64 b2)).other (a := ⟨g9, 3, none⟩) hne (.int .i64 c2)).other (a := ⟨g9, 4, none⟩) hne (.int .i64 nn2)
                        generalize ((((w7.setCell ⟨g9, 0, none⟩ (.int .i64 op2)).setCell ⟨g9, 1, none⟩ (.int .i64 a2)).setCell ⟨g9, 2, none⟩ (.int .i64 b2)).setCell ⟨g9, 3, none⟩ (.int .i64 c2)).setCell ⟨g9, 4, none⟩ (.int .i64 nn2) = w8 at *
                        have HQ := Lib.hid hq
                        have HBQ := Lib.hid hbq
                        have HBW8 := Lib.hid hbw
                        have HRS := Lib.hid hres
                        clear hq hbq hbw hne hres HLA7 HBW7 y0 y1 y2 y3 y4 z0 z1 z2 z3 z4 p0 p1 p2 p3 p4 p5 p6 p7 p8 p9 p10 p11 p12 p13 p14
                        go_wp2_with fail
                        exact ⟨⟨j + 1, ⟨op2, a2, b2, c2, nn2⟩, by omega, by go_num, HAR5.out, ⟨HBQ.out, HQ.out, HRS.out⟩, HBW8.out⟩, by simp [intOf]; omega⟩
                  · have HNN := Lib.hid (show typedM l = none by rw [HTY2.out, HAR.out, HST.out]; unfold numOf; rw [if_neg hf]; simp only [if_neg hr])
                    have hrn : ((((⟨(r :: z).toArray⟩ : ByteArray)[0]'(by simp [ByteArray.size])).toNat : Int) != 114) = true := by
                      have h := u8_int r 114
                      rw [beq_eq_false_iff_ne.2 hr] at h
                      show (((r.toNat : Int)) != 114) = true
                      rw [bne, show (((r.toNat : Int)) == 114) = false from h]
                      rfl
                    clear hf HAR HST HTY2
                    go_wp2_with fail
                    have hq := set5_bx HLA.out.res (.int .i64 op) (.int .i64 a) (.int .i64 b) (.int .i64 c) (.int .i64 nn)
                    have hbq := Lib.hid (below_set5 HLA.out.below (Nat.le_refl _) (.int .i64 op) (.int .i64 a) (.int .i64 b) (.int .i64 c) (.int .i64 nn))
                    generalize ((((wr.setCell ⟨w.heap.size, 0, none⟩ (.int .i64 op)).setCell ⟨w.heap.size, 1, none⟩ (.int .i64 a)).setCell ⟨w.heap.size, 2, none⟩ (.int .i64 b)).setCell ⟨w.heap.size, 3, none⟩ (.int .i64 c)).setCell ⟨w.heap.size, 4, none⟩ (.int .i64 nn) = w8 at *
                    have v0 := hq.c 0
                    have v1 := hq.c 1
                    have v2 := hq.c 2
                    have v3 := hq.c 3
                    have v4 := hq.c 4
                    refine bodyPost_ret (v := .tuple #[insV ⟨op, a, b, c, nn⟩, .bool false]) (by simp [results, Tryd.results44, go_sem, v0, v1, v2, v3, v4]) rfl ?_
                    rw [← HL.out]
                    exact ⟨hbq.out, _, false, rfl, HNN.out⟩
            · obtain rfl : j = fo.length := by omega
              have HTY3 := Lib.hid (show typedM l = if mayB ⟨op, a, b, c, nn⟩ = true then some ⟨op, a, b, c, nn⟩ else none by
                rw [HTY2.out, HAR.out, List.drop_of_length_le (Nat.le_refl _), List.drop_of_length_le (by omega)]
                rfl)
              have HMY := Lib.hid (fun (w1 : World) => rmay_any ⟨op, a, b, c, nn⟩ w1)
              have HLD := Lib.hid (HLA.out.on (drew_below _))
              obtain ⟨p0, p1, p2, p3, p4, p5, p6, p7, p8, p9, p10, p11, p12, p13, p14⟩ := HLD.out.cells
              simp only at p0 p1 p2 p3 p4
              generalize mayB ⟨op, a, b, c, nn⟩ = mb at *
              have hne : w.heap.size ≠ g9 := Nat.ne_of_lt (Nat.lt_of_lt_of_le HR2.out.lt HG9.out)
              clear HAR HTY2 HBW
              have HKE := Lib.hid (show ∀ w7, Below wr.drew.heap.size wr.drew w7 → LineAt w w7 g9 ⟨op, a, b, c, nn⟩ from fun w7 h7 => HLD.out.on h7)
              go_wp2_with fail
              first | (go_region_with (first
                | (go_at_call 17; (with_reducible refine (HMY.out wr.drew).mono ?_); rintro e w7 ⟨rfl, hb7⟩; have HLA7 := Lib.hid (HKE.out w7 hb7); obtain ⟨y0, y1, y2, y3, y4, y5, y6, y7, y8, y9, z0, z1, z2, z3, z4⟩ := HLA7.out.cells; simp only at y0 y1 y2 y3 y4; clear hb7)
                | (go_at_call 17; (with_reducible refine (HMY.out _).mono ?_); rintro e w7 ⟨rfl, hb7⟩; have HB7 := Lib.hid hb7; clear hb7))) | fail
              all_goals
                clear y0 y1 y2 y3 y4 y5 y6 y7 y8 y9 z0 z1 z2 z3 z4
                have hq := set5_bx HLA7.out.res (.int .i64 op) (.int .i64 a) (.int .i64 b) (.int .i64 c) (.int .i64 nn)
                have hbq := Lib.hid (below_set5 HLA7.out.below (Nat.le_refl _) (.int .i64 op) (.int .i64 a) (.int .i64 b) (.int .i64 c) (.int .i64 nn))
                generalize ((((w7.setCell ⟨w.heap.size, 0, none⟩ (.int .i64 op)).setCell ⟨w.heap.size, 1, none⟩ (.int .i64 a)).setCell ⟨w.heap.size, 2, none⟩ (.int .i64 b)).setCell ⟨w.heap.size, 3, none⟩ (.int .i64 c)).setCell ⟨w.heap.size, 4, none⟩ (.int .i64 nn) = w8 at *
                have v0 := hq.c 0
                have v1 := hq.c 1
                have v2 := hq.c 2
                have v3 := hq.c 3
                have v4 := hq.c 4
                go_wp2_with fail
                refine bodyPost_ret (v := .tuple #[insV ⟨op, a, b, c, nn⟩, .bool mb]) (by simp [results, Tryd.results44, go_sem, v0, v1, v2, v3, v4]) rfl ?_
                rw [← HL.out]
                exact ⟨hbq.out, _, mb, rfl, HTY3.out⟩
        · have HNO2 := Lib.hid (HMISS.out (fun _ => hlen))
          have hlz : ((xs.length : Int) != (fo.length : Int)) = true := by simp; omega
          clear HMISS HHIT HNO hlen
          go_wp2_with fail
          refine HN.out.mono ?_
          rintro e w3 ⟨rfl, rfl⟩
          go_wp2_with fail
          exact ⟨⟨k + 1, by omega, by go_num, HNO2.out, HB.out⟩, by simp [intOf]; omega⟩
      · have HNO2 := Lib.hid (HMISS.out (fun h => absurd h hnx))
        have hnz : (nm == x) = false := eqb _ _ hnx
        clear HMISS HHIT HNO hnx
        go_wp2_with fail
        refine HN.out.mono ?_
        rintro e w3 ⟨rfl, rfl⟩
        go_wp2_with fail
        exact ⟨⟨k + 1, by omega, by go_num, HNO2.out, HB.out⟩, by simp [intOf]; omega⟩
    · obtain rfl : k = 23 := by omega
      have HNN := Lib.hid (show typedM l = none by rw [HTY.out]; exact wordsM_miss x xs (fun j hj => HNO.out j hj hj))
      have HR3 := Lib.hid (HR2.out.below HB.out)
      have HB3 := Lib.hid (HB2.out.trans (HB.out.mono HB2.out.size))
      have f0 := HR3.out.f 0
      have f1 := HR3.out.f 1
      have f2 := HR3.out.f 2
      have f3 := HR3.out.f 3
      have f4 := HR3.out.f 4
      have c0 := HR3.out.c 0
      have c1 := HR3.out.c 1
      have c2 := HR3.out.c 2
      have c3 := HR3.out.c 3
      have c4 := HR3.out.c 4
      clear HNO HTY
      go_wp2
      have hq := set5_bx HR3.out (.int .i64 0) (.int .i64 0) (.int .i64 0) (.int .i64 0) (.int .i64 0)
      have hbq := Lib.hid (below_set5 HB3.out (Nat.le_refl _) (.int .i64 0) (.int .i64 0) (.int .i64 0) (.int .i64 0) (.int .i64 0))
      generalize ((((wr.setCell ⟨w.heap.size, 0, none⟩ (.int .i64 0)).setCell ⟨w.heap.size, 1, none⟩ (.int .i64 0)).setCell ⟨w.heap.size, 2, none⟩ (.int .i64 0)).setCell ⟨w.heap.size, 3, none⟩ (.int .i64 0)).setCell ⟨w.heap.size, 4, none⟩ (.int .i64 0) = w6 at *
      have q0 := hq.c 0
      have q1 := hq.c 1
      have q2 := hq.c 2
      have q3 := hq.c 3
      have q4 := hq.c 4
      refine bodyPost_ret (v := .tuple #[insV ⟨0, 0, 0, 0, 0⟩, .bool false]) (by simp [results, Tryd.results44, go_sem, q0, q1, q2, q3, q4]) rfl ?_
      rw [← HL.out]
      exact ⟨hbq.out, _, false, rfl, HNN.out⟩
end Go.Proofs.YtoebboimdkogpaaDoor
