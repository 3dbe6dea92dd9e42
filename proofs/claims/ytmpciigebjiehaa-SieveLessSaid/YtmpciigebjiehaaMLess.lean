/-
  The law of what a union lacks, walked.
-/
import Derived.Test.YtmpciigebjiehaaN
namespace Go.Proofs.Ytmpciigebjiehaa
open Go.RowKit

theorem less_no (A : Option Addr) (n c : Nat) (fs : List Fi) (h : UInt32) (w : World) (hx : Fls w (fun k => k < w.heap.size) A n c fs) (hn : n ≤ 4611686018427387904) (hw : ∀ f ∈ fs, f.ws.length ≤ 4611686018427387904) (ha : alikeB fs = false) :
    Calls Try.prog 11 #[.slice A n c, u32v h] w fun e w' => e = .returned (.bool true) ∧ Below w.heap.size w w' := by
  have HU := Lib.hid (fun (w1 : World) (hb : Below w.heap.size w w1) => union_no _ A n c fs w1 (hx.below hb (fun _ h => h)) hn hw ha)
  clear hx hw ha
  go_enter Try.func11, Try.ntmps11
  go_wp2_with (fail)
  refine (awake_any _).mono ?_
  rintro e w1 ⟨rfl, hb1⟩
  have HB1 := Lib.hid hb1
  clear hb1
  go_wp2_with (fail)
  refine (HU.out w1 HB1.out).mono ?_
  rintro e w2 ⟨rfl, hb2⟩
  have HB2 := Lib.hid (HB1.out.trans (hb2.mono HB1.out.size))
  clear hb2
  go_wp2_with (fail)
  go_ret
  exact ⟨rfl, HB2.out.alloc HB2.out.size _⟩

theorem less_ok (A : Option Addr) (c : Nat) (f : Fi) (r : List Fi) (h : UInt32) (w : World) (hx : Fls w (fun k => k < w.heap.size) A (r.length + 1) c (f :: r)) (hn : r.length + 1 ≤ 4611686018427387904) (ha : alikeB (f :: r) = true) :
    Calls Try.prog 11 #[.slice A (r.length + 1) c, u32v h] w fun e w' => e = .returned (.bool true) ∧ Below w.heap.size w w' := by
  have hfm : formB f.ws.length f.s = true ∧ ∀ g ∈ r, g.ws.length = f.ws.length ∧ g.s = f.s := by
    simpa [alikeB, likeB] using ha
  obtain ⟨hf, hlike⟩ := hfm
  obtain ⟨p0, p1, p2, p3⟩ := form_pos hf
  have hcap := hx.cap
  cases A with
  | none => have := (hx.nil rfl).1; omega
  | some ad =>
    obtain ⟨b, o, rfl⟩ := hx.plain (by omega)
    have HU := Lib.hid (fun (w1 : World) (hb : Below w.heap.size w w1) => union_ok _ _ c f r w1 (hx.below hb (fun _ h => h)) hn ha)
    have HN := Lib.hid (uniAll_len r f.ws (fun g hg => (hlike g hg).1))
    have HK := Lib.hid (uni_lacks f r ha h)
    have HL := Lib.hid (show ∀ g ∈ f :: r, g.ws.length ≤ 64 by
      intro g hg
      rcases List.mem_cons.1 hg with rfl | hg
      · omega
      · rw [(hlike g hg).1]; omega)
    have H := Lib.hid hx
    generalize uniAll f.ws r = l at HU HN HK
    clear hx hlike hf ha
    go_enter Try.func11, Try.ntmps11
    go_wp2_with (fail)
    refine (awake_any _).mono ?_
    rintro e w1 ⟨rfl, hb1⟩
    have HB1 := Lib.hid hb1
    clear hb1
    go_wp2_with (fail)
    refine (HU.out w1 HB1.out).mono ?_
    rintro e w2 hm
    obtain ⟨A2, c2, rfl, ho2, hb2⟩ := made_len hm _ HN.out
    have bl2 := (Below.refl w2.heap.size w2).alloc (Nat.le_refl _) (.cells #[.slice A2 f.ws.length c2, .int .i64 f.s] 30)
    have e2 := hb2.trans (bl2.mono hb2.size)
    have HB2 := Lib.hid (HB1.out.trans (e2.mono HB1.out.size))
    have HO2 := Lib.hid (own_below ho2 bl2)
    clear hm ho2 hb2 bl2 e2 HU
    cases hlk : lacksB l f.s h
    · have HLK := Lib.hid hlk
      clear hlk
      go_wp2_with (fail)
      refine (lacks_n _ A2 f.ws.length c2 l f.s h _ (Src.of_own HO2.out) (by omega)).mono ?_
      rw [HLK.out]
      rintro e w3 ⟨rfl, hb3⟩
      have HB3 := Lib.hid (HB2.out.trans (hb3.mono HB2.out.size))
      clear hb3
      go_wp2_with (fail)
      go_ret
      exact ⟨rfl, HB3.out⟩
    · have HLK := Lib.hid hlk
      have HALL := Lib.hid (HK.out hlk)
      clear hlk
      go_wp2_with (fail)
      refine (lacks_n _ A2 f.ws.length c2 l f.s h _ (Src.of_own HO2.out) (by omega)).mono ?_
      rw [HLK.out]
      rintro e w3 ⟨rfl, hb3⟩
      have HB3 := Lib.hid (HB2.out.trans (hb3.mono HB2.out.size))
      clear hb3
      go_wp2_with (fail)
      go_loopw [8] (fun i wr => ∃ k : Nat, k ≤ r.length + 1 ∧ i = .int .i64 k ∧ Below w.heap.size w wr) (fun i _ => r.length + 1 - (intOf i).toNat)
      case atStart => exact ⟨0, Nat.zero_le _, rfl, HB3.out⟩
      case round =>
        obtain ⟨k, hk, rfl, hb⟩ := hrel
        by_cases hlt : k < r.length + 1
        · obtain ⟨A1, c1, hs1, e0', e1'⟩ := H.out.get k (by simpa using hlt)
          have e0 := (hb.cell (World.block_lt_of_cell? w _ e0')).trans e0'
          have e1 := (hb.cell (World.block_lt_of_cell? w _ e1')).trans e1'
          have hmem : (f :: r)[k] ∈ f :: r := List.getElem_mem _
          have HG := Lib.hid (HALL.out _ hmem)
          have HGL := Lib.hid (HL.out _ hmem)
          have HS := Lib.hid (hs1.below hb (fun _ h => h))
          clear e0' e1' hs1 hmem
          generalize (f :: r)[k] = g at e0 e1 HG HGL HS
          have HB := Lib.hid hb
          clear hb
          go_wp2_with (fail)
          refine (lacks_any _ A1 c1 g.ws g.s h _ HS.out (by have := HGL.out; omega)).mono ?_
          rw [HG.out]
          rintro e w4 ⟨rfl, hb4⟩
          have HB4 := Lib.hid (HB.out.trans (hb4.mono HB.out.size))
          clear hb4
          go_wp2_with (fail)
          go_roundw
          case rel => exact ⟨k + 1, by omega, by go_num, HB4.out⟩
          case measure => simp [intOf]; omega
        · obtain rfl : k = r.length + 1 := by omega
          have HB := Lib.hid hb
          clear hb
          go_wp2
          go_ret
          exact ⟨rfl, HB.out⟩

theorem less_any (A : Option Addr) (n c : Nat) (fs : List Fi) (h : UInt32) (w : World) (hx : Fls w (fun k => k < w.heap.size) A n c fs) (hn : n ≤ 4611686018427387904) (hb : ∀ f ∈ fs, f.ws.length * 8 ≤ 140737488351232 ∧ I64 f.s) :
    Calls Try.prog 11 #[.slice A n c, u32v h] w fun e w' => e = .returned (.bool true) ∧ Below w.heap.size w w' := by
  cases ha : alikeB fs
  · exact less_no A n c fs h w hx hn (fun f hf => by have := (hb f hf).1; omega) ha
  · match fs, hx with
    | f :: r, hx =>
      have hl : r.length + 1 = n := hx.len
      subst hl
      exact less_ok A c f r h w hx hn ha
end Go.Proofs.Ytmpciigebjiehaa
