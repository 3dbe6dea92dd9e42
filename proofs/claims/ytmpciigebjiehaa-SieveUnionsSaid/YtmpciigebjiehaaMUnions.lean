/-
  The law of unions, walked.
-/
import Derived.Test.YtmpciigebjiehaaP
import Derived.Test.YtmpciigebjiehaaO
namespace Go.Proofs.Ytmpciigebjiehaa
open Go.RowKit

theorem Try.info_flt : (Try.prog.info? 30).map (fun i => (i.zero, i.size, i.bytes)) = some (some (.agg #[.slice none 0 0, .int .i64 0]), 2, 32) := by kernel_rfl
theorem lay_one (rs : List Ri) : ∀ u ∈ lay rs, u.oneCell' = true := by
  intro u hu
  simp only [lay, List.mem_flatMap] at hu
  obtain ⟨r, _, hr⟩ := hu
  simp only [List.mem_cons, List.not_mem_nil, or_false] at hr
  rcases hr with rfl | rfl <;> rfl
theorem own_slice2 {w : World} {base : Nat} {e : TypeId} {sz : Nat} {v : Value} {n : Nat} {xs : List Value} (h : w.ownsRow base e sz v n xs) : ∃ A c, v = .slice A n c := by
  rcases h.2 with ⟨rfl, rfl⟩ | ⟨g, cap, cur, rfl, _⟩
  · exact ⟨_, _, rfl⟩
  · exact ⟨_, _, rfl⟩

set_option maxHeartbeats 1000000 in
theorem unions_any (A : Option Addr) (n c : Nat) (fs : List Fi) (w : World) (hx : Fls w (fun k => k < w.heap.size) A n c fs) (hn : n * 32 ≤ 140737488351232) (hb : ∀ f ∈ fs, f.ws.length * 8 ≤ 140737488351232 ∧ I64 f.s) :
    Calls Try.prog 7 #[.slice A n c] w fun e w' => e = .returned (.bool true) ∧ Below w.heap.size w w' := by
  obtain ⟨i0, hi, hz0, hz1, hz2⟩ := info_parts Try.info_flt
  have HX := Lib.hid hx
  have HBD := Lib.hid hb
  have hln := hx.len
  have HLN := Lib.hid hln
  clear hx hb hln
  go_enter Try.func7, Try.ntmps7
  go_wp2_with (fail)
  refine (awake_any _).mono ?_
  rintro e w1 ⟨rfl, hb1⟩
  have HB1 := Lib.hid hb1
  clear hb1
  go_wp2_with (fail)
  go_loopw [4, 5] (fun v i wr => ∃ k : Nat, k ≤ n ∧ i = .int .i64 k ∧ Below w.heap.size w wr ∧ ∃ Ao co rs, v = .slice Ao k co ∧ OwnL wr w.heap.size Ao k co rs ∧ rs.map (·.f) = fs.take k) (fun _ i _ => n - (intOf i).toNat)
  case atStart => exact ⟨0, Nat.zero_le _, rfl, HB1.out, none, 0, [], rfl, ⟨rfl, World.ownsRow_nil _ _ _ _, by intro r hr; cases hr⟩, by simp⟩
  case round =>
    obtain ⟨k, hk, rfl, hb, Ao, co, rs, rfl, hol, hrs⟩ := hrel
    by_cases hlt : k < n
    · cases A with
      | none => have := (HX.out.nil rfl).1; omega
      | some ad =>
        have hkl : k < fs.length := by rw [HLN.out]; exact hlt
        obtain ⟨b, o, rfl⟩ := HX.out.plain (by omega)
        obtain ⟨A1, c1, hs1, e0', e1'⟩ := HX.out.get k hkl
        have e0 := (hb.cell (World.block_lt_of_cell? w _ e0')).trans e0'
        have e1 := (hb.cell (World.block_lt_of_cell? w _ e1')).trans e1'
        have hg8 := (HBD.out _ (List.getElem_mem hkl)).1
        have HT := Lib.hid (show fs.take (k + 1) = fs.take k ++ [fs[k]] from List.take_succ_eq_append_getElem hkl)
        clear e0' e1'
        generalize fs[k] = f at hs1 e0 e1 hg8 HT
        clear hkl
        have HC := Lib.hid ((radd_nil _ A1 f.ws.length c1 f.s f.ws wr (hs1.below hb (fun _ h => h)) (by omega)))
        have HB := Lib.hid hb
        have HOL := Lib.hid hol
        have HRS := Lib.hid hrs
        clear hb hol hrs hs1 hg8
        go_wp2_with (fail)
        refine HC.out.mono ?_
        rintro e w2 ⟨A2, c2, rfl, ho2, hb2⟩
        have bl2 := (Below.refl w2.heap.size w2).alloc (Nat.le_refl _) (.cells #[.slice A2 f.ws.length c2, .int .i64 f.s] 30)
        have e2 := hb2.trans (bl2.mono hb2.size)
        have HB2 := Lib.hid (HB.out.trans (e2.mono HB.out.size))
        have HOL2 := Lib.hid (HOL.out.below e2)
        have HO2 := Lib.hid (own_more (own_below ho2 bl2) HB.out.size)
        have hnews : ∀ j u, [Value.slice A2 f.ws.length c2, .int .i64 f.s][j]? = some u → (w2.alloc (.cells #[.slice A2 f.ws.length c2, .int .i64 f.s] 30)).cell? ((⟨w2.heap.size, 0, none⟩ : Addr).add j) = some u := by
          intro j u hu
          have hbx := Bx.new w2 A2 f.ws.length c2 f.s
          rw [plainAdd, Nat.zero_add]
          match j, hu with
          | 0, hu => cases hu; exact hbx.c0
          | 1, hu => cases hu; exact hbx.c1
        have HNEWS := Lib.hid hnews
        have h1c := lay_one [⟨A2, c2, f⟩]
        have H1C := Lib.hid h1c
        have m1 : k + 1 ≤ maxLen := by simp only [maxLen]; omega
        have m2 : (k + 1) * 32 ≤ 140737488355328 := by omega
        have m3 : w.heap.size ≤ (w2.alloc (.cells #[.slice A2 f.ws.length c2, .int .i64 f.s] 30)).heap.size := HB2.out.size
        clear bl2 e2 hb2 ho2 hnews h1c
        go_wp2_with (at_builtin; refine wpList_append_own_at _ rfl (.tmp 19) (.tmp 25) _ rfl w.heap.size 30 i0 _ 2 32 Try.underlying44 hi hz0 hz1 hz2 rfl (by omega) (.slice Ao k co) k (lay rs) rfl HOL2.out.row ⟨w2.heap.size, 0, none⟩ 1 1 [.slice A2 f.ws.length c2, .int .i64 f.s] rfl rfl HNEWS.out H1C.out m1 m2 m3 ?_; intro v' w3 hown hg _ hat; obtain ⟨A3, c3, rfl⟩ := own_slice2 hown; have HOW := Lib.hid hown; have HG := Lib.hid hg; have HAT := Lib.hid hat; clear hown hg hat)
        have hgr : (w2.alloc (.cells #[.slice A2 f.ws.length c2, .int .i64 f.s] 30)).grownBy w3 (row Ao) := by
          have h := HG.out
          rw [row_own] at h
          exact h
        have hol3 := HOL2.out.snoc ⟨A2, c2, f⟩ HO2.out HOW.out hgr
        have hb3 := HB2.out.grown hgr HB2.out.size (fun j hj => (HOL2.out.row.lt j (by rw [row_own]; exact hj)).1)
        have HOL3 := Lib.hid hol3
        have HB3 := Lib.hid hb3
        clear hgr hol3 hb3
        go_roundw
        case rel => exact ⟨k + 1, by omega, by go_num, HB3.out, A3, c3, _, rfl, HOL3.out, by rw [HT.out, List.map_append, HRS.out]; rfl⟩
        case measure => simp [intOf]; omega
    · obtain rfl : k = n := by omega
      rw [List.take_of_length_le (by rw [HLN.out]; exact Nat.le_refl _)] at hrs
      have HB := Lib.hid hb
      have HOL := Lib.hid hol
      have HRS := Lib.hid hrs
      have hfl := hol.fls
      rw [hrs] at hfl
      have HFL := Lib.hid hfl
      have hwl : ∀ f ∈ fs, f.ws.length ≤ 4611686018427387904 := fun f hf => by have := (HBD.out f hf).1; omega
      have HWL := Lib.hid hwl
      clear hb hol hrs hfl hwl
      cases ha : alikeB fs
      · have HA := Lib.hid ha
        clear ha
        go_wp2_with (fail)
        refine (union_no _ Ao _ co fs wr HFL.out (by omega) HWL.out HA.out).mono ?_
        rintro e w2 ⟨rfl, hb2⟩
        have HB2 := Lib.hid ((HB.out.trans (hb2.mono HB.out.size)))
        have HB2a := Lib.hid (HB2.out.alloc HB2.out.size (.cells #[.slice none 0 0, .int .i64 0] 30))
        have HF2 := Lib.hid (Bx.new w2 none 0 0 0)
        clear hb2
        go_wp2_with (fail)
        have hru : Calls Try.prog 28 #[.slice A k c] (w2.alloc (.cells #[.slice none 0 0, .int .i64 0] 30)) (NoU (w2.alloc (.cells #[.slice none 0 0, .int .i64 0] 30))) := by
          have hx2 := HX.out.below HB2a.out (fun _ h => h)
          have hl := HLN.out
          match fs, hx2, hl with
          | [], _, hl =>
            obtain rfl : k = 0 := by simpa using hl.symm
            exact runion_nil A c _
          | f :: r, hx2, hl =>
            obtain rfl : r.length + 1 = k := hl
            cases hf : formB f.ws.length f.s
            · exact runion_bad _ A c f r _ hx2 (by omega) hf
            · refine (runion_main _ A c f r _ hx2 (by omega) (fun g hg => HWL.out g (by simp [hg])) hf).mono ?_
              rintro e w' (⟨h1, _⟩ | ⟨_, h2⟩)
              · rw [HA.out] at h1; cases h1
              · exact h2
        refine hru.mono ?_
        rintro e w3 ⟨rfl, hb3⟩
        have HB3 := Lib.hid (HB2a.out.trans (hb3.mono HB2a.out.size))
        have HF3 := HF2.out.below hb3
        have k0 := cell_alloc HF3.c0 (.cells #[.slice none 0 0, .int .i64 0] 30)
        have k1 := cell_alloc HF3.c1 (.cells #[.slice none 0 0, .int .i64 0] 30)
        clear hb3 HF3 hru
        go_wp2_with (fail)
        go_ret
        exact ⟨rfl, HB3.out.alloc HB3.out.size _⟩
      · obtain ⟨f, r, rfl⟩ : ∃ f r, fs = f :: r := by
          cases fs with
          | nil => simp [alikeB] at ha
          | cons f r => exact ⟨f, r, rfl⟩
        obtain rfl : r.length + 1 = k := HLN.out
        have hfm : formB f.ws.length f.s = true ∧ ∀ g ∈ r, g.ws.length = f.ws.length ∧ g.s = f.s := by
          simpa [alikeB, likeB] using ha
        obtain ⟨hf, hlike⟩ := hfm
        obtain ⟨p0, p1, p2, p3⟩ := form_pos hf
        have HN := Lib.hid (uniAll_len r f.ws (fun g hg => (hlike g hg).1))
        have HUN := Lib.hid (union_ok _ Ao co f r wr HFL.out (by omega) ha)
        have HRU := Lib.hid (fun (w1 : World) (hb : Below w.heap.size w w1) => (runion_main _ A c f r w1 (HX.out.below hb (fun _ h => h)) (by omega) (fun g hg => HWL.out g (by simp [hg])) hf).mono (R' := MadeU w1 (uniAll f.ws r) f.s) (fun e w' h => by
          rcases h with ⟨_, h⟩ | ⟨h, _⟩
          · exact h
          · rw [ha] at h; cases h))
        clear ha hf hlike
        generalize uniAll f.ws r = l at HN HUN HRU
        go_wp2_with (fail)
        refine HUN.out.mono ?_
        rintro e w2 hm
        obtain ⟨A2, c2, rfl, ho2, hb2⟩ := made_len hm _ HN.out
        have bl2 := (Below.refl w2.heap.size w2).alloc (Nat.le_refl _) (.cells #[.slice A2 f.ws.length c2, .int .i64 f.s] 30)
        have e2 := hb2.trans (bl2.mono hb2.size)
        have HW2 := Lib.hid e2
        have HF2 := Lib.hid (Bx.new w2 A2 f.ws.length c2 f.s)
        have HO2 := Lib.hid (own_below ho2 bl2)
        clear hm ho2 hb2 bl2 e2 HUN
        go_wp2_with (fail)
        generalize w2.alloc (.cells #[.slice A2 f.ws.length c2, .int .i64 f.s] 30) = v2 at HW2 HF2 HO2 ⊢
        refine (HRU.out v2 (HB.out.trans (HW2.out.mono HB.out.size))).mono ?_
        rintro e w3 ⟨A3, c3, rfl, ho3, hb3⟩
        rw [HN.out] at ho3 ⊢
        have bl3 := (Below.refl w3.heap.size w3).alloc (Nat.le_refl _) (.cells #[.slice A3 f.ws.length c3, .int .i64 f.s] 30)
        have e3 := hb3.trans (bl3.mono hb3.size)
        have HW3 := Lib.hid (HW2.out.trans (e3.mono HW2.out.size))
        have HF3 := Lib.hid (HF2.out.below e3)
        have HG3 := Lib.hid (Bx.new w3 A3 f.ws.length c3 f.s)
        have HO3 := Lib.hid (own_below HO2.out e3)
        have HOG3 := Lib.hid (own_below ho3 bl3)
        have k0 := HF3.out.c0
        have k1 := HF3.out.c1
        clear ho3 hb3 bl3 e3 HRU HW2 HF2 HO2
        go_wp2_with (fail)
        generalize w3.alloc (.cells #[.slice A3 f.ws.length c3, .int .i64 f.s] 30) = v3 at HW3 HF3 HG3 HO3 HOG3 k0 k1 ⊢
        refine (same_n _ _ A2 A3 c2 c3 f.ws.length l f.s _ (Src.of_own HO3.out) (Src.of_own HOG3.out) (by omega)).mono ?_
        rintro e w4 ⟨rfl, hb4⟩
        have HW4 := Lib.hid (HW3.out.trans (hb4.mono HW3.out.size))
        have HF4 := Lib.hid (HF3.out.below hb4)
        have HO4 := Lib.hid (own_below HO3.out hb4)
        have k0 := HF4.out.c0
        have k1 := HF4.out.c1
        clear hb4 HW3 HF3 HG3 HO3 HOG3
        go_wp2_with (fail)
        refine (spoil_any _ A2 c2 f.ws.length f.s _ _ HO4.out (by omega)).mono ?_
        rintro e w5 ⟨rfl, hg5⟩
        have HW5 := Lib.hid (HW4.out.grown hg5 HW4.out.size (fun j hj => (HO4.out.lt j (by rw [row_own]; exact hj)).1))
        have HOL5 := Lib.hid (HOL.out.below HW5.out)
        have HB5 := Lib.hid (HB.out.trans (HW5.out.mono HB.out.size))
        clear hg5 HW4 HF4 HO4 k0 k1
        go_wp2_with (fail)
        go_loopw [10, 11] (fun v i wx => v = .bool true ∧ ∃ k : Nat, k ≤ r.length + 1 ∧ i = .int .i64 k ∧ Below w.heap.size w wx ∧ OwnL wx w.heap.size Ao (r.length + 1) co rs) (fun _ i _ => r.length + 1 - (intOf i).toNat)
        case atStart => exact ⟨rfl, 0, Nat.zero_le _, rfl, HB5.out, HOL5.out⟩
        clear HB5 HOL5 HW5
        case round =>
          obtain ⟨rfl, k, hk, rfl, hb, hol⟩ := hrel
          by_cases hlt : k < r.length + 1
          · cases A with
            | none => have := (HX.out.nil rfl).1; omega
            | some ad =>
              cases Ao with
              | none => have := (hol.fls.nil rfl).1; omega
              | some ao =>
                obtain ⟨b, o, rfl⟩ := HX.out.plain (by omega)
                have hfl := hol.fls
                rw [HRS.out] at hfl
                obtain ⟨b2, o2, rfl⟩ := hfl.plain (by omega)
                obtain ⟨A1, c1, hs1, e0', e1'⟩ := HX.out.get k (by simpa using hlt)
                have e0 := (hb.cell (World.block_lt_of_cell? w _ e0')).trans e0'
                have e1 := (hb.cell (World.block_lt_of_cell? w _ e1')).trans e1'
                obtain ⟨A4, c4, hs4, d0, d1⟩ := hfl.get k (by simpa using hlt)
                have hg8 := HWL.out _ (List.getElem_mem (show k < (f :: r).length by simpa using hlt))
                have hs1 := hs1.below hb (fun _ h => h)
                clear e0' e1' hfl
                generalize (f :: r)[k] = g at hs1 e0 e1 hs4 d0 d1 hg8
                have HCS := Lib.hid ((same_n _ _ A4 A1 c4 c1 g.ws.length g.ws g.s wr.drew (hs4.keep (fun _ _ _ => rfl)) (hs1.keep (fun _ _ _ => rfl)) hg8).mono (R' := fun e w' => e = .returned (.bool true) ∧ Below wr.heap.size wr w') (fun e w' h => ⟨h.1, (drew_below wr).trans h.2⟩))
                have HB := Lib.hid hb
                have HOL := Lib.hid hol
                clear hb hol hs1 hs4 hg8
                go_wp2
                go_still_tail 10, (by kernel_rfl)
                change wpList _ _ _ _ _ wr.drew
                go_wp2_with (fail)
                refine HCS.out.mono ?_
                rintro e w6 ⟨rfl, hb6⟩
                have HB6 := Lib.hid (HB.out.trans (hb6.mono HB.out.size))
                have HOL6 := Lib.hid (HOL.out.below hb6)
                clear hb6
                go_wp2_with (fail)
                go_roundw
                case rel => exact ⟨rfl, k + 1, by omega, by go_num, HB6.out, HOL6.out⟩
                case measure => simp [intOf]; omega
          · obtain rfl : k = r.length + 1 := by omega
            have HB := Lib.hid hb
            clear hb hol
            go_wp2_with (fail)
            go_ret
            exact ⟨rfl, HB.out⟩
end Go.Proofs.Ytmpciigebjiehaa
