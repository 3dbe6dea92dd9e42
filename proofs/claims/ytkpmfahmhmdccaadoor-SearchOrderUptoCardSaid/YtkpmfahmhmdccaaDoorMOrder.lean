/-
  The law SearchOrder, walked.
-/
import Derived.Test.YtkpmfahmhmdccaaDoorK
namespace Go.Proofs.YtkpmfahmhmdccaaDoor
open Go.RowKit

theorem sys_len (o nm : Str) : (candL o nm [] [] []).length = (inD o nm [libS, usrS]).length := by simp [candL, inD, cacheP]
theorem rp_take (o nm : Str) (rp : List Str) : (candL o nm rp [] []).take ((candL o nm rp [] []).length - (candL o nm [] [] []).length) = inD o nm rp ∧ (candL o nm [] [] []).length ≤ (candL o nm rp [] []).length := by
  have h : candL o nm rp [] [] = inD o nm rp ++ inD o nm [libS, usrS] := by simp [candL, inD, cacheP]
  rw [h, sys_len, List.length_append]
  refine ⟨?_, by omega⟩
  rw [show (inD o nm rp).length + (inD o nm [libS, usrS]).length - (inD o nm [libS, usrS]).length = (inD o nm rp).length by omega, List.take_left']
  rfl
theorem ps_take (o nm : Str) (ps : List Str) : (candL o nm [] ps []).take ((candL o nm [] ps []).length - (candL o nm [] [] []).length) = inD o nm ps ∧ (candL o nm [] [] []).length ≤ (candL o nm [] ps []).length := by
  have h : candL o nm [] ps [] = inD o nm ps ++ inD o nm [libS, usrS] := by simp [candL, inD, cacheP]
  rw [h, sys_len, List.length_append]
  refine ⟨?_, by omega⟩
  rw [show (inD o nm ps).length + (inD o nm [libS, usrS]).length - (inD o nm [libS, usrS]).length = (inD o nm ps).length by omega, List.take_left']
  rfl
theorem kn_le (o nm : Str) (kn : List (Str × Str)) : (candL o nm [] [] []).length ≤ (candL o nm [] [] kn).length := by
  have h : candL o nm [] [] kn = cacheP nm kn ++ inD o nm [libS, usrS] := by simp [candL, inD]
  rw [h, sys_len, List.length_append]
  omega
theorem all_eq (o nm : Str) (rp ps : List Str) (kn : List (Str × Str)) : inD o nm rp ++ inD o nm ps ++ candL o nm [] [] kn = candL o nm rp ps kn := by simp [candL, inD]
/-- A slice of the first ones. -/
theorem src_take {w : World} {P : Nat → Prop} {A : Option Addr} {c m : Nat} {L : List Str} (h : Src w P A L.length c (strs L)) (hm : m ≤ L.length) : Src w P A m c (strs (L.take m)) :=
  ⟨by simp; omega, fun hA => by have := h.nil hA; omega, by have := h.cap; omega, fun ad hA h0 => h.blk ad hA (by omega), fun ad hA j u hu => h.at_ ad hA j u (by
    simp only [strs, List.map_take] at hu
    rw [List.getElem?_take] at hu
    split at hu
    · exact hu
    · cases hu)⟩
theorem slice_first (A : Option Addr) (n c m : Nat) (hm : m ≤ n) (hn : n ≤ c) : ∀ w', (Instr.slice 22 (.slice A n c) none (some (.int .i64 (m : Int))) none).run Tryd.prog w' = .ok (.slice A m c) w' := by
  intro w'
  have hz : (sizeOf (Tryd.prog.elem 22)).run Tryd.prog w' = .ok 1 w' := by kernel_rfl
  rw [run_slice_h (w := w') 22 A n c (by kernel_rfl) .i64 m (by omega) (by omega), hz]
  simp only [Result.andThen, sliced]
  cases A with
  | none => simp
  | some ad => split <;> simp [Addr.add]
theorem Fits.part {o nm : Str} {rp ps : List Str} {kn : List (Str × Str)} (h : Fits o nm rp ps kn) {rp' ps' : List Str} {kn' : List (Str × Str)} (h1 : rp' = rp ∨ rp' = []) (h2 : ps' = ps ∨ ps' = []) (h3 : kn' = kn ∨ kn' = []) : Fits o nm rp' ps' kn' := by
  have l1 : rp'.length ≤ rp.length := by rcases h1 with rfl | rfl <;> simp
  have l2 : ps'.length ≤ ps.length := by rcases h2 with rfl | rfl <;> simp
  have l3 : kn'.length ≤ kn.length := by rcases h3 with rfl | rfl <;> simp
  refine ⟨h.lo, h.ln, ?_, ?_, ?_, Nat.le_trans (Nat.mul_le_mul_right 16 (by omega)) h.len, Nat.le_trans l3 h.kl⟩
  · rcases h1 with rfl | rfl
    · exact h.lr
    · intro d hd; cases hd
  · rcases h2 with rfl | rfl
    · exact h.lp
    · intro d hd; cases hd
  · rcases h3 with rfl | rfl
    · exact h.lk
    · intro d hd; cases hd
theorem part_len (o nm : Str) (rp ps : List Str) (kn : List (Str × Str)) {m : Nat} (h : rp.length + ps.length ≤ m) : (candL o nm rp ps kn).length ≤ m + 3 := Nat.le_trans (candL_len o nm rp ps kn) (by omega)
set_option maxRecDepth 100000 in
set_option maxHeartbeats 4000000 in
theorem order_any (q : Wp) (x : Wt) (w : World) (h : WtIn w (fun k => k < w.heap.size) q x) (hf : Fits x.o x.nm x.rp x.ps x.kn) (hm : Ml w) (hsm : x.rp.length + x.ps.length ≤ 10000000) :
    Calls Tryd.prog 4 #[.agg (wtA q x)] w fun e w' => e = .returned (.bool true) ∧ Below w.heap.size w w' := by
  have hb0 := (Below.refl w.heap.size w).alloc (Nat.le_refl _) (.cells (wtA q x) 27)
  have hx0 := Bx.new w (wtA q x) 27
  have hs0 : (w.alloc (.cells (wtA q x) 27)).heap.size = w.heap.size + 1 := by simp
  have hi0 := h.keep (fun k hk => hb0.block k hk)
  have HM0 := Lib.hid (hm.below hb0)
  have HFW := Lib.hid (few_any q x)
  have HF := Lib.hid hf
  have hnl := hf.ln
  have HAW := Lib.hid (fun W (h : Ml W) => awake_any W h)
  have HB0 := Lib.hid hb0
  have HX0 := Lib.hid hx0
  have HI0 := Lib.hid hi0
  clear h hm hb0 hx0 hi0 hf
  go_enter Tryd.func4, Tryd.ntmps4
  go_upto_region 1 with (fail)
  change Code.wp _ _ _ _ (w.alloc (.cells (wtA q x) 27))
  generalize w.alloc (.cells (wtA q x) 27) = w0 at *
  go_upto_region 2 with (go_at_call 6; refine (HAW.out _ HM0.out).mono ?_; rintro e w1 ⟨rfl, hb1⟩)
  have HB1 := Lib.hid (HB0.out.trans (hb1.mono HB0.out.size))
  have hx1 := HX0.out.below hb1
  have HX1 := Lib.hid hx1
  have HI1 := Lib.hid (HI0.out.keep (fun k hk => hb1.block k (by omega)))
  have HM1 := Lib.hid (HM0.out.below hb1)
  have hs1 := hb1.size
  have x0 := hx1.c 0
  have x1 := hx1.c 1
  have x2 := hx1.c 2
  have x3 := hx1.c 3
  have x4 := hx1.c 4
  simp only [List.getElem?_toArray, List.getElem?_cons_succ, List.getElem?_cons_zero] at x0 x1 x2 x3 x4
  clear hb1 hx1 HAW HX0 HI0 HM0 HB0
  have hz : (ByteArray.mk x.nm.toArray).size = x.nm.length := str_size x.nm
  go_upto_region 3 with (fail)
  go_loop [4] (fun t => ∃ k : Nat, k ≤ x.nm.length ∧ t = .int .i64 (k : Int) ∧ 47 ∉ x.nm.take k) (fun t => x.nm.length - (intOf t).toNat)
  case atStart => exact ⟨0, Nat.zero_le _, rfl, by simp⟩
  case round =>
    obtain ⟨k, hk, rfl, hn⟩ := hrel
    by_cases hlt : k < x.nm.length
    · have htk : x.nm.take (k + 1) = x.nm.take k ++ [x.nm[k]] := List.take_succ_eq_append_getElem hlt
      have hget : ({ data := x.nm.toArray } : ByteArray)[k]'(by rw [hz]; exact hlt) = x.nm[k] := rfl
      by_cases h47 : x.nm[k] = 47
      · have hb : (((({ data := x.nm.toArray } : ByteArray)[k]'(by rw [hz]; exact hlt)).toNat : Int) == 47) = true := by rw [hget, h47]; rfl
        clear htk hn h47 hget
        go_upto_region 99 with (fail)
        first | go_ret | skip
        exact ⟨rfl, HB1.out⟩
      · have HN := Lib.hid (show 47 ∉ x.nm.take (k + 1) by
          rw [htk, List.mem_append, List.mem_singleton]
          rintro (h | h)
          · exact hn h
          · exact h47 h.symm)
        have hb : (((({ data := x.nm.toArray } : ByteArray)[k]'(by rw [hz]; exact hlt)).toNat : Int) == 47) = false := by
          rw [hget, beq_eq_false_iff_ne]
          intro e
          apply h47
          apply UInt8.toNat_inj.1
          show x.nm[k].toNat = 47
          omega
        clear htk hn h47 hget
        go_upto_region 99 with (fail)
        go_round
        case rel => exact ⟨k + 1, by omega, by go_num, HN.out⟩
        case measure => simp [intOf]; omega
    · obtain rfl : k = x.nm.length := by omega
      rw [List.take_length] at hn
      have HNS := Lib.hid hn
      clear hn hlt
      by_cases lo : x.o.length ≤ 5000
      · rw [decide_eq_true lo] at HFW
        by_cases hne : x.nm = []
        · have hz0 : x.nm.length = 0 := by rw [hne]; rfl
          have hz1 : ((x.nm.length : Int) == 0) = true := by rw [hz0]; rfl
          clear hne
          go_upto_region 8 with (go_at_call 7; refine (HFW.out _).mono ?_; rintro e w2 ⟨rfl, hb2⟩; have y0 := Fil.cell_below hb2 x0)
          go_upto_region 99 with (fail)
          first | go_ret | skip
          exact ⟨rfl, HB1.out.trans (hb2.mono HB1.out.size)⟩
        · have hz1 : ((x.nm.length : Int) == 0) = false := by
            rw [beq_eq_false_iff_ne]
            intro e
            exact hne (List.length_eq_zero_iff.1 (by omega))
          by_cases h200 : 200 < x.nm.length
          · go_upto_region 8 with (go_at_call 7; refine (HFW.out _).mono ?_; rintro e w2 ⟨rfl, hb2⟩; have y0 := Fil.cell_below hb2 x0)
            go_upto_region 99 with (fail)
            first | go_ret | skip
            exact ⟨rfl, HB1.out.trans (hb2.mono HB1.out.size)⟩
          · go_upto_region 9 with (go_at_call 7; refine (HFW.out _).mono ?_; rintro e w2 ⟨rfl, hb2⟩; have y0 := Fil.cell_below hb2 x0)
            have HB2 := Lib.hid (HB1.out.trans (hb2.mono HB1.out.size))
            have HX2 := Lib.hid (HX1.out.below hb2)
            have HI2 := Lib.hid (HI1.out.keep (fun k hk => hb2.block k (by omega)))
            have HM2 := Lib.hid (HM1.out.below hb2)
            have hs2 := hb2.size
            clear x0 x1 x2 x3 x4 y0 hb2 HX1 HI1 HM1
            have x0 := HX2.out.c 0
            have x1 := HX2.out.c 1
            have x2 := HX2.out.c 2
            have x3 := HX2.out.c 3
            have x4 := HX2.out.c 4
            simp only [List.getElem?_toArray, List.getElem?_cons_succ, List.getElem?_cons_zero] at x0 x1 x2 x3 x4
            have HC := Lib.hid (cands_any (fun k => k < w.heap.size) x.o x.nm q.r.1 none none q.r.2 0 0 x.rp [] [] w2 (HI2.out.rp) (⟨src_none _ _, kns_none _ _⟩) (fun k hk => by omega) HM2.out (HF.out.part (.inl rfl) (.inr rfl) (.inr rfl)))
            rw [candE_list _ _ _ hne h200 HNS.out] at HC
            go_upto_region 10 with (go_at_call 8; refine HC.out.mono ?_; rintro e w3 ⟨Aa, ca, rfl, ho, hb⟩)
            have HB3 := Lib.hid (HB2.out.trans (hb.mono HB2.out.size))
            have HX3 := Lib.hid (HX2.out.below hb)
            have HI3 := Lib.hid (HI2.out.keep (fun k hk => hb.block k (by omega)))
            have HM3 := Lib.hid (HM2.out.below hb)
            have hs3 := hb.size
            have Ra := Lib.hid (Src.of_own ho).lt
            have hcapa := Ra.out.cap
            try simp only at Ra
            try simp only at hcapa
            clear x0 x1 x2 x3 x4 ho hb HC HX2 HI2 HM2
            have x0 := HX3.out.c 0
            have x1 := HX3.out.c 1
            have x2 := HX3.out.c 2
            have x3 := HX3.out.c 3
            have x4 := HX3.out.c 4
            simp only [List.getElem?_toArray, List.getElem?_cons_succ, List.getElem?_cons_zero] at x0 x1 x2 x3 x4
            have HC := Lib.hid (cands_any (fun k => k < w.heap.size) x.o x.nm none q.p.1 none 0 q.p.2 0 [] x.ps [] w3 (src_none _ _) (⟨HI3.out.ps, kns_none _ _⟩) (fun k hk => by omega) HM3.out (HF.out.part (.inr rfl) (.inl rfl) (.inr rfl)))
            rw [candE_list _ _ _ hne h200 HNS.out] at HC
            go_upto_region 11 with (go_at_call 8; refine HC.out.mono ?_; rintro e w4 ⟨Ab, cb, rfl, ho, hb⟩)
            have HB4 := Lib.hid (HB3.out.trans (hb.mono HB3.out.size))
            have HX4 := Lib.hid (HX3.out.below hb)
            have HI4 := Lib.hid (HI3.out.keep (fun k hk => hb.block k (by omega)))
            have HM4 := Lib.hid (HM3.out.below hb)
            have hs4 := hb.size
            have Ra := Lib.hid ((Ra.out.below hb (fun _ h => h)).lt)
            have Rb := Lib.hid (Src.of_own ho).lt
            have hcapb := Rb.out.cap
            try simp only at Rb
            try simp only at hcapb
            clear x0 x1 x2 x3 x4 ho hb HC HX3 HI3 HM3
            have x0 := HX4.out.c 0
            have x1 := HX4.out.c 1
            have x2 := HX4.out.c 2
            have x3 := HX4.out.c 3
            have x4 := HX4.out.c 4
            simp only [List.getElem?_toArray, List.getElem?_cons_succ, List.getElem?_cons_zero] at x0 x1 x2 x3 x4
            have HC := Lib.hid (cands_any (fun k => k < w.heap.size) x.o x.nm none none q.k.1 0 0 q.k.2 [] [] x.kn w4 (src_none _ _) (⟨src_none _ _, HI4.out.kn⟩) (fun k hk => by omega) HM4.out (HF.out.part (.inr rfl) (.inr rfl) (.inl rfl)))
            rw [candE_list _ _ _ hne h200 HNS.out] at HC
            go_upto_region 12 with (go_at_call 8; refine HC.out.mono ?_; rintro e w5 ⟨Ac, cc, rfl, ho, hb⟩)
            have HB5 := Lib.hid (HB4.out.trans (hb.mono HB4.out.size))
            have HX5 := Lib.hid (HX4.out.below hb)
            have HI5 := Lib.hid (HI4.out.keep (fun k hk => hb.block k (by omega)))
            have HM5 := Lib.hid (HM4.out.below hb)
            have hs5 := hb.size
            have Ra := Lib.hid ((Ra.out.below hb (fun _ h => h)).lt)
            have Rb := Lib.hid ((Rb.out.below hb (fun _ h => h)).lt)
            have Rc := Lib.hid (Src.of_own ho).lt
            have hcapc := Rc.out.cap
            try simp only at Rc
            try simp only at hcapc
            clear x0 x1 x2 x3 x4 ho hb HC HX4 HI4 HM4
            have x0 := HX5.out.c 0
            have x1 := HX5.out.c 1
            have x2 := HX5.out.c 2
            have x3 := HX5.out.c 3
            have x4 := HX5.out.c 4
            simp only [List.getElem?_toArray, List.getElem?_cons_succ, List.getElem?_cons_zero] at x0 x1 x2 x3 x4
            have HC := Lib.hid (cands_any (fun k => k < w.heap.size) x.o x.nm none none none 0 0 0 [] [] [] w5 (src_none _ _) (⟨src_none _ _, kns_none _ _⟩) (fun k hk => by omega) HM5.out (HF.out.part (.inr rfl) (.inr rfl) (.inr rfl)))
            rw [candE_list _ _ _ hne h200 HNS.out] at HC
            go_upto_region 13 with (go_at_call 8; refine HC.out.mono ?_; rintro e w6 ⟨Ad, cd, rfl, ho, hb⟩)
            have HB6 := Lib.hid (HB5.out.trans (hb.mono HB5.out.size))
            have HX6 := Lib.hid (HX5.out.below hb)
            have HI6 := Lib.hid (HI5.out.keep (fun k hk => hb.block k (by omega)))
            have HM6 := Lib.hid (HM5.out.below hb)
            have hs6 := hb.size
            have Ra := Lib.hid ((Ra.out.below hb (fun _ h => h)).lt)
            have Rb := Lib.hid ((Rb.out.below hb (fun _ h => h)).lt)
            have Rc := Lib.hid ((Rc.out.below hb (fun _ h => h)).lt)
            have Rd := Lib.hid (Src.of_own ho).lt
            have hcapd := Rd.out.cap
            try simp only at Rd
            try simp only at hcapd
            clear x0 x1 x2 x3 x4 ho hb HC HX5 HI5 HM5
            have x0 := HX6.out.c 0
            have x1 := HX6.out.c 1
            have x2 := HX6.out.c 2
            have x3 := HX6.out.c 3
            have x4 := HX6.out.c 4
            simp only [List.getElem?_toArray, List.getElem?_cons_succ, List.getElem?_cons_zero] at x0 x1 x2 x3 x4
            have HC := Lib.hid (cands_any (fun k => k < w.heap.size) x.o x.nm q.r.1 q.p.1 q.k.1 q.r.2 q.p.2 q.k.2 x.rp x.ps x.kn w6 (HI6.out.rp) (⟨HI6.out.ps, HI6.out.kn⟩) (fun k hk => by omega) HM6.out (HF.out.part (.inl rfl) (.inl rfl) (.inl rfl)))
            rw [candE_list _ _ _ hne h200 HNS.out] at HC
            go_upto_region 14 with (go_at_call 8; refine HC.out.mono ?_; rintro e w7 ⟨Ae, ce, rfl, ho, hb⟩)
            have HB7 := Lib.hid (HB6.out.trans (hb.mono HB6.out.size))
            have HX7 := Lib.hid (HX6.out.below hb)
            have HI7 := Lib.hid (HI6.out.keep (fun k hk => hb.block k (by omega)))
            have HM7 := Lib.hid (HM6.out.below hb)
            have hs7 := hb.size
            have Ra := Lib.hid ((Ra.out.below hb (fun _ h => h)).lt)
            have Rb := Lib.hid ((Rb.out.below hb (fun _ h => h)).lt)
            have Rc := Lib.hid ((Rc.out.below hb (fun _ h => h)).lt)
            have Rd := Lib.hid ((Rd.out.below hb (fun _ h => h)).lt)
            have Re := Lib.hid (Src.of_own ho).lt
            have hcape := Re.out.cap
            try simp only at Re
            try simp only at hcape
            clear x0 x1 x2 x3 x4 ho hb HC HX6 HI6 HM6
            have x0 := HX7.out.c 0
            have x1 := HX7.out.c 1
            have x2 := HX7.out.c 2
            have x3 := HX7.out.c 3
            have x4 := HX7.out.c 4
            simp only [List.getElem?_toArray, List.getElem?_cons_succ, List.getElem?_cons_zero] at x0 x1 x2 x3 x4
            have hsw7 : w.heap.size ≤ w7.heap.size := by omega
            obtain ⟨ta, la⟩ := rp_take x.o x.nm x.rp
            obtain ⟨tb, lb⟩ := ps_take x.o x.nm x.ps
            have lc := kn_le x.o x.nm x.kn
            have hall := all_eq x.o x.nm x.rp x.ps x.kn
            have ga := part_len x.o x.nm x.rp [] [] (m := 10000000) (by simp; omega)
            have gb := part_len x.o x.nm [] x.ps [] (m := 10000000) (by simp; omega)
            have gc := part_len x.o x.nm [] [] x.kn (m := 10000000) (by simp)
            have ge := part_len x.o x.nm x.rp x.ps x.kn (m := 10000000) (by omega)
            generalize candL x.o x.nm x.rp [] [] = La at *
            generalize candL x.o x.nm [] x.ps [] = Lb at *
            generalize candL x.o x.nm [] [] x.kn = Lc at *
            generalize candL x.o x.nm [] [] [] = Ld at *
            generalize candL x.o x.nm x.rp x.ps x.kn = Le at *
            have sa := Lib.hid (src_take Ra.out (Nat.sub_le La.length Ld.length))
            have sb := Lib.hid (src_take Rb.out (Nat.sub_le Lb.length Ld.length))
            rw [ta] at sa
            rw [tb] at sb
            generalize inD x.o x.nm x.rp = Ia at *
            generalize inD x.o x.nm x.ps = Ib at *
            have HALL := Lib.hid hall
            have hma : ((La.length : Int) - (Ld.length : Int)) = ((La.length - Ld.length : Nat) : Int) := by omega
            have hmb : ((Lb.length : Int) - (Ld.length : Int)) = ((Lb.length - Ld.length : Nat) : Int) := by omega
            have qa : ∀ w', (Instr.slice 22 (.slice Aa La.length ca) none (some (.int .i64 ((La.length : Int) - (Ld.length : Int)))) none).run Tryd.prog w' = .ok (.slice Aa (La.length - Ld.length) ca) w' := by rw [hma]; exact slice_first _ _ _ _ (Nat.sub_le _ _) hcapa
            have qb : ∀ w', (Instr.slice 22 (.slice Ab Lb.length cb) none (some (.int .i64 ((Lb.length : Int) - (Ld.length : Int)))) none).run Tryd.prog w' = .ok (.slice Ab (Lb.length - Ld.length) cb) w' := by rw [hmb]; exact slice_first _ _ _ _ (Nat.sub_le _ _) hcapb
            clear ta tb hall hma hmb x0 x1 x2 x3 x4
            go_upto_region 16 with (fail)
            obtain ⟨i0, hi0, hz0, hz1', hz2⟩ := info_parts Fil.Tryd.info_string
            have hda : La.length - Ld.length ≤ 10000003 := by omega
            have hdb : Lb.length - Ld.length ≤ 10000003 := by omega
            have sc := Lib.hid (show Src w7 (fun k => k < w7.heap.size) Ac Lc.length cc (strs Lc) from Rc.out)
            generalize hna : La.length - Ld.length = na at *
            generalize hnb : Lb.length - Ld.length = nb at *
            have h1a := strs_one Ia
            have h1b := strs_one Ib
            have h1c := strs_one Lc
            have m1 : 0 + na ≤ maxLen := by simp only [maxLen]; omega
            have m2 : na + nb ≤ maxLen := by simp only [maxLen]; omega
            have m3 : na + nb + Lc.length ≤ maxLen := by simp only [maxLen]; omega
            have n1 : (0 + na) * 16 ≤ 140737488355328 := Nat.le_trans (Nat.mul_le_mul_right 16 (show 0 + na ≤ 100000000 by omega)) (by simp)
            have n2 : (na + nb) * 16 ≤ 140737488355328 := Nat.le_trans (Nat.mul_le_mul_right 16 (show na + nb ≤ 100000000 by omega)) (by simp)
            have n3 : (na + nb + Lc.length) * 16 ≤ 140737488355328 := Nat.le_trans (Nat.mul_le_mul_right 16 (show na + nb + Lc.length ≤ 100000000 by omega)) (by simp)
            clear hna hnb
            go_upto_region 18 with (at_builtin; refine wpList_append_src rfl (.tmp 141) (.tmp 148) 22 rfl w7.heap.size 9 i0 (.string ⟨#[]⟩) 16 Tryd.underlying22 hi0 hz0 hz1' hz2 rfl (.slice none 0 0) 0 [] rfl (World.ownsRow_nil _ _ _ _) _ Aa na ca (strs Ia) rfl sa.out h1a m1 n1 (Nat.le_refl _) ?_; intro v' w8 hown hg hat; obtain ⟨A8, c8, rfl⟩ := own_slice hown; rw [Nat.zero_add, List.nil_append] at hown; have HO8 := Lib.hid hown; have HB8 := Lib.hid (show Below w7.heap.size w7 w8 from (Below.refl _ _).grown hg (Nat.le_refl _) (fun j hj => by cases hj)); have hs8 := hg.size; have sb8 := Lib.hid (sb.out.below HB8.out (fun _ h => h)); have sc8 := Lib.hid (sc.out.below HB8.out (fun _ h => h)); have Re8 := Lib.hid (Re.out.below HB8.out (fun _ h => h)); clear hown hg hat)
            go_upto_region 19 with (at_builtin; refine wpList_append_src rfl (.tmp 150) (.tmp 157) 22 rfl w7.heap.size 9 i0 (.string ⟨#[]⟩) 16 Tryd.underlying22 hi0 hz0 hz1' hz2 rfl (.slice A8 na c8) na _ rfl HO8.out _ Ab nb cb (strs Ib) rfl sb8.out h1b m2 n2 hs8 ?_; intro v' w9 hown hg hat; obtain ⟨A9, c9, rfl⟩ := own_slice hown; have HO9 := Lib.hid hown; have HB9 := Lib.hid (show Below w7.heap.size w8 w9 from (Below.refl _ _).grown hg hs8 (fun j hj => (HO8.out.lt j hj).1)); have hs9 := hg.size; have sc9 := Lib.hid (sc8.out.below HB9.out (fun _ h => h)); have Re9 := Lib.hid (Re8.out.below HB9.out (fun _ h => h)); clear hown hg hat)
            go_upto_region 20 with (at_builtin; refine wpList_append_src rfl (.tmp 159) (.tmp 160) 22 rfl w7.heap.size 9 i0 (.string ⟨#[]⟩) 16 Tryd.underlying22 hi0 hz0 hz1' hz2 rfl (.slice A9 (na + nb) c9) (na + nb) _ rfl HO9.out _ Ac Lc.length cc (strs Lc) rfl sc9.out h1c m3 n3 (Nat.le_trans hs8 hs9) ?_; intro v' w10 hown hg hat; obtain ⟨A10, c10, rfl⟩ := own_slice hown; have HO10 := Lib.hid hown; have HB10 := Lib.hid (show Below w7.heap.size w9 w10 from (Below.refl _ _).grown hg (Nat.le_trans hs8 hs9) (fun j hj => (HO9.out.lt j hj).1)); clear hown hg hat)
            have ho10 := HO10.out
            rw [← strs_app, ← strs_app, HALL.out] at ho10
            have hle : Le.length = na + nb + Lc.length := by have := ho10.1; simpa using this
            rw [← hle] at ho10 ⊢
            have HSM := Lib.hid (same_yes _ _ Ae A10 Le.length ce c10 Le w10 (Re9.out.below HB10.out (fun _ h => h)) (Src.of_own ho10) (by omega))
            have HBW := Lib.hid ((((HB7.out.trans (HB8.out.mono hsw7)).trans (HB9.out.mono hsw7)).trans (HB10.out.mono hsw7)))
            clear ho10 hle
            go_upto_region 99 with (go_at_call 11; refine HSM.out.mono ?_; rintro e wg ⟨rfl, hbg⟩)
            first | go_ret | skip
            exact ⟨rfl, HBW.out.trans (hbg.mono HBW.out.size)⟩
      · rw [decide_eq_false lo] at HFW
        go_upto_region 8 with (go_at_call 7; refine (HFW.out _).mono ?_; rintro e w2 ⟨rfl, hb2⟩; have y0 := Fil.cell_below hb2 x0)
        go_upto_region 99 with (fail)
        first | go_ret | skip
        exact ⟨rfl, HB1.out.trans (hb2.mono HB1.out.size)⟩
end Go.Proofs.YtkpmfahmhmdccaaDoor
