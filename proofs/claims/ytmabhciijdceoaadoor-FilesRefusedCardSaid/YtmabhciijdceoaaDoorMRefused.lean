/-
  The law FilesRefused, walked.
-/
import Derived.Test.YtmabhciijdceoaaDoorX
import Derived.Deep.RegionHeld3
namespace Go.Proofs.YtmabhciijdceoaaDoor
open Go.RowKit Go.Maps Go.Sort

/-- Two stores that are the same. -/
structure Two (w0 w : World) (sb mb sb2 mb2 : Nat) (s : St) : Prop where
  one : Sto w sb mb s
  two : Sto w sb2 mb2 s
  below : Below w0.heap.size w0 w
theorem Two.on {w0 w w' : World} {sb mb sb2 mb2 : Nat} {s : St} (h : Two w0 w sb mb sb2 mb2 s) (hb : Below w.heap.size w w') : Two w0 w' sb mb sb2 mb2 s :=
  ⟨h.one.below hb, h.two.below hb, h.below.trans (hb.mono h.below.size)⟩
theorem cell_on {w w' : World} {b o : Nat} {v : Value} (h : w.cell? ⟨b, o, none⟩ = some v) (hb : Below w.heap.size w w') : w'.cell? ⟨b, o, none⟩ = some v := by
  rw [World.cell?_of_block (hb.block b (World.block_lt_of_cell? w _ h))]
  exact h

theorem names_len {D : Dt} (hm : IsMap D) (p : Str) (h : Maps.size D ≤ 501) : (namesOf D p).1.length ≤ 4611686018427387904 := by
  unfold namesOf
  split
  · simp
  · split
    · simp
    · show (namesIn D _).length ≤ _
      unfold namesIn
      rw [List.length_mergeSort, List.length_map]
      have h1 := List.length_filter_le (inDir (endOf D p).1) (strKeys D)
      have h2 : (strKeys D).length = Maps.size D := by
        obtain ⟨es, rfl⟩ := hm
        exact List.length_map _
      omega

set_option maxHeartbeats 1500000 in
set_option maxRecDepth 100000 in
theorem refused_any (Ap : Option Addr) (n cp : Nat) (xs : List Ac) (x : Ac) (A : Option Addr) (c : Nat) (A2 : Option Addr) (n2 c2 : Nat) (ss : List Str) (w : World) (h : Acs w (fun k => k < w.heap.size) Ap n cp xs) (hv : AcV w (fun k => k < w.heap.size) x A c)
    (hs : Src w (fun k => k < w.heap.size) A2 n2 c2 (strs ss)) (hss : n2 ≤ 140737488351232 ∧ ∀ p ∈ ss, p.length ≤ 9223372036854775807) (hn : n ≤ 140737488351232) (hm : Ml w) :
    Calls Tryd.prog 6 #[.slice Ap n cp, .agg (acells x A c), .slice A2 n2 c2] w fun e w' => e = .returned (.bool true) ∧ Below w.heap.size w w' := by
  have hb0 := (Below.refl w.heap.size w).alloc (Nat.le_refl _) (.cells (acells x A c) 40)
  have HBX := Lib.hid (heap_alloc_new w (.cells (acells x A c) 40))
  have HM := Lib.hid (hm.below hb0 hm.pos)
  have HAW := Lib.hid (awake_any _ HM.out)
  have HX := Lib.hid ((h.keep fun k hk _ => hb0.block k hk).weak (Q := fun k => k < (w.alloc (.cells (acells x A c) 40)).heap.size) fun k hk => Nat.lt_of_lt_of_le hk hb0.size)
  have HV := Lib.hid (hv.keep fun k hk _ => hb0.block k hk)
  have HS := Lib.hid (hs.below hb0 fun k hk => hk)
  have HSS := Lib.hid hss
  have HNN := Lib.hid hn
  have HLX := Lib.hid h.len
  have HB0 := Lib.hid hb0
  have HZ0 := Lib.hid (show (w.alloc (.cells (acells x A c) 40)).heap.size = w.heap.size + 1 by simp)
  clear h hm hn hv hs hss hb0
  go_enter Tryd.func6, Tryd.ntmps6
  go_wp2_with fail
  refine HAW.out.mono ?_
  generalize hw0 : w.alloc (.cells (acells x A c) 40) = w0 at *
  clear hw0
  rintro e w1 ⟨rfl, hb1⟩
  have HB1 := Lib.hid hb1
  have HC := Lib.hid (played_any Ap n cp xs w1 ((HX.out.keep fun k hk _ => hb1.block k hk).weak fun k hk => Nat.lt_of_lt_of_le hk hb1.size) (HM.out.below hb1 (by have := HM.out.pos; omega)) HNN.out)
  clear hb1 HAW
  go_wp2_with fail
  refine HC.out.mono ?_
  rintro e w2 ⟨sb, mb, rfl, hat⟩
  have HA2 := Lib.hid (Played.at HB1.out hat)
  obtain ⟨hi, hpu⟩ := play_left xs ⟨newD, 0⟩ inv_new
  generalize playM ⟨newD, 0⟩ xs = s at *
  have HI := Lib.hid hi
  have HPU := Lib.hid (show s.puts ≤ 4611686018427387904 by have := HLX.out; have := HNN.out; simp only at hpu; omega)
  have HC := Lib.hid (copy_any sb mb s w2 HA2.out.sto)
  clear hat hi hpu HB1
  go_wp2_with fail
  refine HC.out.mono ?_
  rintro e w3 ⟨sb2, mb2, rfl, hsb, hmb, hs2, hb3⟩
  have HA3 := Lib.hid (HA2.out.on hb3)
  have HN := Lib.hid (show sb < w2.heap.size ∧ mb < w2.heap.size ∧ w2.heap.size ≤ sb2 ∧ w2.heap.size ≤ mb2 from ⟨HA2.out.sto.lt.1, HA2.out.sto.lt.2, hsb, hmb⟩)
  have HS2 := Lib.hid hs2
  have hbl : w3.heap[w.heap.size]? = some (.cells (acells x A c) 40 (0, 0)) := (HA3.out.below.block w.heap.size (by have := HZ0.out; omega)).trans HBX.out
  have d0 : w3.cell? ⟨w.heap.size, 0, none⟩ = some (.int .i64 x.do_) := cell_of_row w3 w.heap.size 0 _ _ _ hbl
  have d1 : w3.cell? ⟨w.heap.size, 1, none⟩ = some (str x.a) := cell_of_row w3 w.heap.size 1 _ _ _ hbl
  have d2 : w3.cell? ⟨w.heap.size, 2, none⟩ = some (str x.b) := cell_of_row w3 w.heap.size 2 _ _ _ hbl
  have d3 : w3.cell? ⟨w.heap.size, 3, none⟩ = some (.slice A x.by_.length c) := cell_of_row w3 w.heap.size 3 _ _ _ hbl
  have HC2 := Lib.hid (does_any w0.heap.size sb mb s x A c w3 HA3.out.sto HI.out.good ((HV.out.keep fun k hk _ => HA3.out.below.block k (by have := HZ0.out; omega)).weak fun k hk => by have := HZ0.out; omega) ⟨HA3.out.sb, HA3.out.mb⟩ HPU.out)
  unfold acells at HC2
  clear hsb hmb hs2 hb3 hbl HC HA2
  go_wp2_with fail
  refine HC2.out.mono ?_
  rintro e w4 hd
  have HT4 := Lib.hid hd.2.2
  obtain ⟨rfl, ha⟩ := HA3.out.does hd
  have HA4 := Lib.hid ha
  have HLF := Lib.hid (does_left HI.out x)
  clear ha hd HC2 d0 d1 d2 d3
  by_cases hz : (doesM s x).2 = 0
  · rw [hz]
    clear hz
    go_wp2
    go_ret
    exact ⟨rfl, HB0.out.trans (HA4.out.below.mono HB0.out.size)⟩
  · have hz' : ((doesM s x).2 == 0) = false := by simpa using hz
    have hsame := HLF.out.same hz
    rw [hsame] at HA4
    have HTW := Lib.hid (show Two w0 w4 sb mb sb2 mb2 s by
      have hn := HN.out
      have hl := HS2.out.lt
      exact ⟨HA4.out.sto, HS2.out.keep (HT4.out.block sb2 hl.1 (by omega) (by omega)) (HT4.out.block mb2 hl.2 (by omega) (by omega)) HA4.out.sto.ml, HA4.out.below⟩)
    generalize (doesM s x).2 = ed at *
    clear hz hsame HLF HA4 HT4 HA3 HS2 HN HBX HV HX
    go_wp2_with fail
    go_loopw [10] (fun i wr => ∃ k : Nat, k ≤ n2 ∧ i = .int .i64 k ∧ Two w0 wr sb mb sb2 mb2 s) (fun i _ => n2 - (intOf i).toNat)
    case atStart => exact ⟨0, Nat.zero_le _, rfl, HTW.out⟩
    case round =>
      obtain ⟨k, hk, rfl, htw⟩ := hrel
      have HTR := Lib.hid htw
      clear htw
      by_cases hlt : k < n2
      · have hlss : (strs ss).length = n2 := HS.out.len
        have hkl : k < ss.length := by simpa [strs] using (show k < (strs ss).length by omega)
        obtain ⟨b, o, rfl, hcc⟩ := src_get HS.out (by omega)
        have hc0 := hcc k (str ss[k]) (by simp [strs, hkl])
        have HPL := Lib.hid (HSS.out.2 ss[k] (List.getElem_mem _))
        have hcap := HS.out.cap
        have hn2 := HSS.out.1
        generalize ss[k] = p at *
        have hcr := cell_on hc0 HTR.out.below
        clear hc0 hcc hkl hlss
        have HC := Lib.hid (names_any sb mb s p wr HTR.out.one HI.out.good HPL.out)
        go_wp2_with fail
        refine HC.out.mono ?_
        rintro e w5 ⟨A5, c5, rfl, hs5, hb5⟩
        have HT5 := Lib.hid (HTR.out.on hb5)
        have HS5 := Lib.hid hs5.lt
        have hc5 := cell_on hcr hb5
        have HC := Lib.hid (names_any sb2 mb2 s p w5 HT5.out.two HI.out.good HPL.out)
        have hcr5 := hcr
        clear hs5 hb5 hcr hcr5
        go_wp2_with fail
        refine HC.out.mono ?_
        rintro e w6 ⟨A6, c6, rfl, hs6, hb6⟩
        have HT6 := Lib.hid (HT5.out.on hb6)
        have HS6 := Lib.hid hs6.lt
        have HS56 := Lib.hid (HS5.out.below hb6 fun k hk => hk).lt
        have hc6 := cell_on hc5 hb6
        have HC := Lib.hid (find_any sb mb s p w6 HT6.out.one HPL.out)
        clear hs6 hb6 hc5 HS5
        go_wp2_with fail
        refine HC.out.mono ?_
        rintro e w7 ⟨rfl, hb7⟩
        have HT7 := Lib.hid (HT6.out.on hb7)
        have HS57 := Lib.hid (HS56.out.below hb7 fun k hk => hk).lt
        have HS67 := Lib.hid (HS6.out.below hb7 fun k hk => hk).lt
        have hc7 := cell_on hc6 hb7
        have HC := Lib.hid (find_any sb2 mb2 s p w7 HT7.out.two HPL.out)
        clear hb7 hc6 HS6 HS56
        go_wp2_with fail
        refine HC.out.mono ?_
        rintro e w8 ⟨rfl, hb8⟩
        have HT8 := Lib.hid (HT7.out.on hb8)
        have HS58 := Lib.hid (HS57.out.below hb8 fun k hk => hk).lt
        have HS68 := Lib.hid (HS67.out.below hb8 fun k hk => hk).lt
        have hc8 := cell_on hc7 hb8
        have hc8' := cell_on hc8 (drew_below w8)
        have HNL := Lib.hid (names_len HI.out.map p HT8.out.one.size)
        have HTX := Lib.hid ((texts_same _ _ A5 A6 c5 c6 (namesOf s.d p).1 w8.drew (HS58.out.below (drew_below w8) fun k hk => hk) (HS68.out.below (drew_below w8) fun k hk => hk) HNL.out).mono (R' := fun e w' => e = .returned (.bool true) ∧ Two w0 w' sb mb sb2 mb2 s ∧ w'.cell? ⟨b, o + k, none⟩ = some (str p))
          (fun e w' h => by
            obtain ⟨he, m, rfl⟩ := h
            exact ⟨he, (HT8.out.on (drew_below w8)).on (below_drewN (Below.refl _ _) m), cell_on hc8' (below_drewN (Below.refl _ _) m)⟩))
        have HK1 := Lib.hid (fun (w1 : World) (h : Two w0 w1 sb mb sb2 mb2 s) (hc : w1.cell? ⟨b, o + k, none⟩ = some (str p)) => (kind_any sb mb s p w1 h.one HPL.out).mono (R' := fun e w' => e = .returned (.int .i64 (kindOf s.d p)) ∧ Two w0 w' sb mb sb2 mb2 s ∧ w'.cell? ⟨b, o + k, none⟩ = some (str p)) (fun e w' h2 => ⟨h2.1, h.on h2.2, cell_on hc h2.2⟩))
        have HK2 := Lib.hid (fun (w1 : World) (h : Two w0 w1 sb mb sb2 mb2 s) (hc : w1.cell? ⟨b, o + k, none⟩ = some (str p)) => (kind_any sb2 mb2 s p w1 h.two HPL.out).mono (R' := fun e w' => e = .returned (.int .i64 (kindOf s.d p)) ∧ Two w0 w' sb mb sb2 mb2 s ∧ w'.cell? ⟨b, o + k, none⟩ = some (str p)) (fun e w' h2 => ⟨h2.1, h.on h2.2, cell_on hc h2.2⟩))
        generalize kindOf s.d p = kd at *
        generalize namesOf s.d p = nm at *
        generalize fileOf s.d p = fo at *
        obtain ⟨l, ne⟩ := nm
        obtain ⟨⟨fk, fi, ft⟩, fe⟩ := fo
        simp only at HTX
        clear hb8 hc7 HS57 HS67 HS58 HS68 HC
        go_wp2_with fail
        have hi0 : (0 : Int) ≤ (k : Int) := by omega
        have hi1 : (k : Int) < (n2 : Int) := by omega
        go_region_held3 (fun w' => w'.cell? ⟨b, o + k, none⟩ = some (str p)) (first | assumption | go_keep) (first
          | (go_at_call 22; with_reducible refine HTX.out.mono ?_; rintro e w9 ⟨rfl, ht9, hc9⟩; have HT9 := Lib.hid ht9; clear ht9)
          | (go_at_call 23; with_reducible refine (HK1.out _ HT9.out hc9).mono ?_; rintro e w10 ⟨rfl, ht10, hc10⟩; have HT10 := Lib.hid ht10; clear ht10)
          | (go_at_call 23; with_reducible refine (HK2.out _ HT10.out hc10).mono ?_; rintro e w11 ⟨rfl, ht11, hc11⟩; have HT11 := Lib.hid ht11; clear ht11))
        clear hi0 hi1 hc8 hc8' hc9 hc10 HTX HK1 HK2 HNL HT8 HT9 HT10
        go_wp2
        exact ⟨⟨k + 1, by omega, by go_num, HT11.out⟩, by simp [intOf]; omega⟩
      · obtain rfl : k = n2 := by omega
        go_wp2
        go_ret
        exact ⟨rfl, HB0.out.trans (HTR.out.below.mono HB0.out.size)⟩
end Go.Proofs.YtmabhciijdceoaaDoor
