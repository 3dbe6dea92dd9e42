/-
  The law of gaps, walked.
-/
import Derived.Test.YtpgmapcpffefnaaBw
namespace Go.Proofs.Ytpgmapcpffefnaa
open Go.RowKit

set_option maxRecDepth 100000 in
set_option maxHeartbeats 4000000 in
theorem gaps_any (A0 : Option Addr) (n0 c0 : Nat) (xs : List Ac) (s : Int) (t : UInt16) (_ : I64 s) (w : World) (h : Acs w (fun k => k < w.heap.size) A0 n0 c0 xs) (hn : n0 ≤ 140737488351232) :
    Calls Try.prog 5 #[.slice A0 n0 c0, .int .i64 s, .int .u16 (t.toNat : Int)] w fun e w' => e = .returned (.bool true) ∧ Below w.heap.size w w' := by
  have HX := Lib.hid h
  clear h
  go_enter Try.func5, Try.ntmps5
  go_wp2_with fail
  refine (awake_any w).mono ?_
  rintro e w1 ⟨rfl, hb⟩
  have HP := Lib.hid (played_any A0 n0 c0 xs w w1 hb HX.out hn)
  clear hb
  go_wp2_with fail
  refine HP.out.mono ?_
  rintro e w2 ⟨g, rfl, h2⟩
  have hg := good_play xs good_nil
  have HGP := Lib.hid (h2.ask fun F hl => Gap_s s hl)
  generalize playS [] xs = ss at *
  clear HP h2
  rcases gap_map hg s with ⟨e, he, g1, g2⟩ | ⟨a, g1, g2, g3, g4, g5⟩
  · rw [g1] at HGP
    have G2 := Lib.hid g2
    clear g1 g2 hg
    rcases he with rfl | rfl
    all_goals
      go_wp2_with fail
      refine HGP.out.mono ?_
      rintro e w3 ⟨rfl, h3⟩
      have C := Lib.hid (h3.act fun F hl => Map_s s 3 hl)
      rw [G2.out] at C
      clear HGP h3 G2
      go_wp2_with fail
      refine C.out.mono ?_
      rintro e w4 ⟨rfl, h4⟩
      have HE := Lib.hid h4.1
      clear C h4
      go_wp2_with fail
      first | go_ret | skip
      exact ⟨rfl, HE.out⟩
  · rw [g1] at HGP
    have G2 := Lib.hid g2
    have G3 := Lib.hid g3
    obtain ⟨k, hk⟩ : ∃ k : Nat, k = t.toNat % 200 := ⟨_, rfl⟩
    obtain ⟨g6, g7⟩ := g5 k
    have hm : (t.toNat : Int) % 200 = (k : Int) := by omega
    have hlt : k < 200 := by omega
    have ht16 : t.toNat < 65536 := t.toNat_lt
    clear hk
    clear g1 g2 g3 g5 hg
    go_wp2_with fail
    refine HGP.out.mono ?_
    rintro e w3 ⟨rfl, h3⟩
    have HC := Lib.hid h3.copy
    clear HGP h3
    go_wp2_with fail
    refine HC.out.mono ?_
    rintro e w4 ⟨gc, rfl, h4⟩
    have C := Lib.hid (h4.act fun F hl => MapAt_s (a - 64 * (1 + (k : Int))) s 3 hl)
    rw [g7] at C
    have G6 := Lib.hid g6
    clear HC h4 g6 g7
    go_wp2_with fail
    generalize (mapAtS ss (a - 64 * (1 + (k : Int))) s 3).1 = E at *
    have b1 : (E == 0) = false := by simpa using G6.out
    clear G6
    refine C.out.mono ?_
    rintro e w5 ⟨rfl, h5⟩
    have C2 := Lib.hid (h5.swap.act fun F hl => Map_s s 3 hl)
    rw [G2.out] at C2
    clear C h5 G2
    go_wp2_with fail
    refine C2.out.mono ?_
    rintro e w6 ⟨rfl, h6⟩
    have C3 := Lib.hid (h6.swap.act fun F hl => MapAt_s a s 3 hl)
    rw [G3.out] at C3
    clear C2 h6 G3
    simp only at C3
    generalize insS (newS a (up s) 3) ss = s2 at *
    go_wp2_with fail
    refine C3.out.mono ?_
    rintro e w7 ⟨rfl, h7⟩
    have HR := Lib.hid h7.regions
    have hfew := h7.few
    clear C3 h7
    go_wp2_with fail
    refine HR.out.mono ?_
    rintro e w8 ⟨A8, c8, rfl, l8, h8, _⟩
    have HL := Lib.hid l8
    have HR2 := Lib.hid h8.swap.regions
    clear HR l8 h8
    go_wp2_with fail
    refine HR2.out.mono ?_
    rintro e w9 ⟨A9, c9, rfl, l9, h9, hb9⟩
    have HSR := Lib.hid (sameR_any _ A8 A9 c8 c9 _ w9 (HL.out.below hb9) l9 (by omega))
    have HW := Lib.hid h9.1
    clear HR2 l9 h9 hb9
    go_wp2_with fail
    refine HSR.out.mono ?_
    rintro e w10 ⟨rfl, hb10⟩
    have HE := Lib.hid (HW.out.trans (hb10.mono HW.out.size))
    clear HSR hb10
    go_wp2_with fail
    first | go_ret | skip
    exact ⟨rfl, HE.out⟩
end Go.Proofs.Ytpgmapcpffefnaa
