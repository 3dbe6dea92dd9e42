/-
  The law of new regions, walked.
-/
import Derived.Test.YtpgmapcpffefnaaBs
import Derived.Test.YtpgmapcpffefnaaBt
namespace Go.Proofs.Ytpgmapcpffefnaa
open Go.RowKit

set_option maxRecDepth 100000 in
set_option maxHeartbeats 4000000 in
theorem maps_any (A0 : Option Addr) (n0 c0 : Nat) (xs : List Ac) (s p : Int) (_ : I64 s) (w : World) (h : Acs w (fun k => k < w.heap.size) A0 n0 c0 xs) (hn : n0 ≤ 140737488351232) :
    Calls Try.prog 9 #[.slice A0 n0 c0, .int .i64 s, .int .i64 p] w fun e w' => e = .returned (.bool true) ∧ Below w.heap.size w w' := by
  have HX := Lib.hid h
  clear h
  go_enter Try.func9, Try.ntmps9
  go_wp2_with fail
  refine (awake_any w).mono ?_
  rintro e w1 ⟨rfl, hb⟩
  have HP := Lib.hid (played_any A0 n0 c0 xs w w1 hb HX.out hn)
  clear hb
  go_wp2_with fail
  refine HP.out.mono ?_
  rintro e w2 ⟨g, rfl, h2⟩
  have hg := good_play xs good_nil
  have HG := Lib.hid hg
  have HR := Lib.hid h2.q.regions
  generalize playS [] xs = ss at *
  clear HP h2
  go_wp2_with fail
  refine HR.out.mono ?_
  rintro e w3 ⟨A, c, rfl, hl, h3, _⟩
  have HL := Lib.hid hl
  have C := Lib.hid (h3.act fun F hl _ => Map_s s p hl)
  have hfew := Good.few h3
  clear hl h3 HR
  rcases map_cases hg s p with hc | hc | ⟨a, hc, hs, hp, _, ha, hau, _, hf⟩
  · rw [hc] at C
    clear hc hg
    go_wp2_with fail
    refine C.out.mono ?_
    rintro e w4 ⟨rfl, h4, hk⟩
    have HL2 := Lib.hid (HL.out.keep fun k hk' => hk k (.inr hk'))
    have HR := Lib.hid h4.regions
    clear C h4 hk
    go_wp2_with fail
    refine HR.out.mono ?_
    rintro e w5 ⟨A', c', rfl, hl, h5, hb5⟩
    have HS := Lib.hid (sameR_any _ A A' c c' _ w5 (HL2.out.below hb5) hl (by omega))
    have HW := Lib.hid h5.1
    clear HR hl h5 hb5
    go_wp2_with fail
    refine HS.out.mono ?_
    rintro e w6 ⟨rfl, hb⟩
    have HE := Lib.hid (HW.out.trans (hb.mono HW.out.size))
    clear hb HS
    go_wp2_with fail
    first | go_ret | skip
    exact ⟨rfl, HE.out⟩
  · rw [hc] at C
    clear hc hg
    go_wp2_with fail
    refine C.out.mono ?_
    rintro e w4 ⟨rfl, h4, hk⟩
    have HL2 := Lib.hid (HL.out.keep fun k hk' => hk k (.inr hk'))
    have HR := Lib.hid h4.regions
    clear C h4 hk
    go_wp2_with fail
    refine HR.out.mono ?_
    rintro e w5 ⟨A', c', rfl, hl, h5, hb5⟩
    have HS := Lib.hid (sameR_any _ A A' c c' _ w5 (HL2.out.below hb5) hl (by omega))
    have HW := Lib.hid h5.1
    clear HR hl h5 hb5
    go_wp2_with fail
    refine HS.out.mono ?_
    rintro e w6 ⟨rfl, hb⟩
    have HE := Lib.hid (HW.out.trans (hb.mono HW.out.size))
    clear hb HS
    go_wp2_with fail
    first | go_ret | skip
    exact ⟨rfl, HE.out⟩
  · have hg' := good_map_ hg s p
    rw [hc] at hg'
    obtain ⟨n1, n2, n3, n4, n5⟩ := new_asks hg hg' hs hp hf
    have nl := ins_len (newS a (up s) p) ss
    have N1 := Lib.hid n1
    have N2 := Lib.hid n2
    have N3 := Lib.hid n3
    have N4 := Lib.hid n4
    have N5 := Lib.hid n5
    have NL := Lib.hid nl
    have NH := Lib.hid (show a ≠ a → False from fun h => h rfl)
    rw [hc] at C
    simp only at C
    generalize insS (newS a (up s) p) ss = ss' at *
    clear hc hg hg' n1 n2 n3 n4 n5 nl hf
    have hai : I64 a := by unfold I64; unfold up at hau; omega
    have HAI := Lib.hid hai
    clear hai
    go_wp2_with fail
    refine C.out.mono ?_
    rintro e w4 ⟨rfl, h4, hk⟩
    have HL2 := Lib.hid (HL.out.keep fun k hk' => hk k (.inr hk'))
    have HP := Lib.hid (h4.read fun F hl => Peek_s s HAI.out hl)
    clear C h4 hk
    go_wp2_with fail
    refine HP.out.mono ?_
    rintro e w5 ⟨⟨hb5, A5, l5, c5, rfl, hl5, ho5⟩, h5⟩
    rw [if_pos N1.out, N2.out] at hl5 ho5
    rw [N1.out]
    have hz : (zeros s.toNat).length = s.toNat := zeros_len _
    rw [hz] at hl5
    subst hl5
    have HO := Lib.hid (Src.of_own ho5).lt
    have HL3 := Lib.hid (HL2.out.below hb5)
    have HR := Lib.hid h5.regions
    clear HP hb5 ho5 hz h5
    have htn : ((s.toNat : Nat) : Int) = s := by omega
    go_wp2_with fail
    refine HR.out.mono ?_
    rintro e w6 ⟨A6, c6, rfl, hl6, h6, hb6⟩
    have HL4 := Lib.hid (HL3.out.below hb6)
    have HO2 := Lib.hid (HO.out.below hb6 (fun _ h => h))
    have H6 := Lib.hid (h6.weak (Q' := fun k => row A = some k) fun k hk => .inl (.inr hk))
    have hnl := NL.out
    have NLE := Lib.hid (show ((ss'.length : Nat) : Int) = (ss.length : Int) + 1 from by rw [hnl]; rfl)
    rw [NL.out]
    clear HR hl6 h6 hb6 hnl HL HL2 HL3 HO
    go_wp2_with fail
    go_loopw [13] (fun t13 wr => ∃ k : Nat, k ≤ s.toNat ∧ t13 = .int .i64 k ∧ wr = w6) (fun t13 _ => s.toNat - (intOf t13).toNat)
    case atStart => exact ⟨0, Nat.zero_le _, rfl, rfl⟩
    case round =>
      obtain ⟨k, hk, rfl, rfl⟩ := hrel
      by_cases hlt : k < s.toNat
      · obtain ⟨ad, rfl⟩ : ∃ ad, A5 = some ad := by
          cases A5 with
          | none => have := (HO2.out.nil rfl).1; omega
          | some ad => exact ⟨ad, rfl⟩
        have hcell : wr.cell? (ad.add k) = some (.int .u8 0) := by
          refine HO2.out.at_ ad rfl k _ ?_
          simp [cells, zeros, hlt]
        have hcap := HO2.out.cap
        go_wp2_with fail
        exact ⟨⟨k + 1, by omega, by go_num, by first | exact rfl | trivial⟩, by simp [intOf]; omega⟩
      · obtain rfl : k = s.toNat := by omega
        have HRD := Lib.hid (H6.out.read fun F hl => Read_s s HAI.out hl)
        clear H6
        clear hlt hk
        by_cases hodd : p % 2 = 1
        · have ht : p.tmod 2 = 1 := by rw [Int.tmod_eq_emod_of_nonneg hp.1]; exact hodd
          have hb1 : (p % 2 == 1) = true := by simpa using hodd
          have N3' := N3.out
          rw [if_pos hodd] at N3'
          have N3H := Lib.hid N3'
          clear N3 N3' hodd
          go_wp2_with fail
          refine HRD.out.mono ?_
          rintro e w7 ⟨⟨hb7, A7, l7, c7, rfl, hl7, ho7⟩, h7⟩
          rw [N3H.out]
          have C5 := Lib.hid (h7.act fun F hl _ => Unmap_s a hl)
          rw [N4.out] at C5
          have HL5 := Lib.hid (HL4.out.below hb7)
          clear HRD hb7 h7 hl7 ho7
          go_wp2_with fail
          refine C5.out.mono ?_
          rintro e w8 ⟨rfl, h8, hk8⟩
          have HL6 := Lib.hid (HL5.out.keep fun k hk' => hk8 k hk')
          have HR := Lib.hid h8.regions
          clear C5 h8 hk8
          go_wp2_with fail
          refine HR.out.mono ?_
          rintro e w9 ⟨A', c', rfl, hl, h9, hb9⟩
          have HS := Lib.hid (sameR_any _ A A' c c' _ w9 (HL6.out.below hb9) hl (by omega))
          have H9 := Lib.hid h9
          clear HR hl h9 hb9
          go_wp2_with fail
          refine HS.out.mono ?_
          rintro e w10 ⟨rfl, hb10⟩
          have C6 := Lib.hid ((H9.out.still hb10).act fun F hl _ => Unmap_s a hl)
          rw [N5.out] at C6
          clear HS hb10 H9
          go_wp2_with fail
          refine C6.out.mono ?_
          rintro e w11 ⟨rfl, h11, _⟩
          have HE := Lib.hid h11.1
          clear C6 h11
          go_wp2_with fail
          first | go_ret | skip
          exact ⟨rfl, HE.out⟩
        · have hev : p % 2 = 0 := by omega
          have ht : p.tmod 2 = 0 := by rw [Int.tmod_eq_emod_of_nonneg hp.1]; exact hev
          have hb1 : (p % 2 == 1) = false := by rw [hev]; rfl
          have hb2 : (p % 2 == 0) = true := by rw [hev]; rfl
          have N3' := N3.out
          rw [if_neg hodd] at N3'
          have N3H := Lib.hid N3'
          clear N3 N3' hodd
          go_wp2_with fail
          refine HRD.out.mono ?_
          rintro e w7 ⟨⟨hb7, A7, l7, c7, rfl, hl7, ho7⟩, h7⟩
          rw [N3H.out]
          have C5 := Lib.hid (h7.act fun F hl _ => Unmap_s a hl)
          rw [N4.out] at C5
          have HL5 := Lib.hid (HL4.out.below hb7)
          clear HRD hb7 h7 hl7 ho7
          go_wp2_with fail
          refine C5.out.mono ?_
          rintro e w8 ⟨rfl, h8, hk8⟩
          have HL6 := Lib.hid (HL5.out.keep fun k hk' => hk8 k hk')
          have HR := Lib.hid h8.regions
          clear C5 h8 hk8
          go_wp2_with fail
          refine HR.out.mono ?_
          rintro e w9 ⟨A', c', rfl, hl, h9, hb9⟩
          have HS := Lib.hid (sameR_any _ A A' c c' _ w9 (HL6.out.below hb9) hl (by omega))
          have H9 := Lib.hid h9
          clear HR hl h9 hb9
          go_wp2_with fail
          refine HS.out.mono ?_
          rintro e w10 ⟨rfl, hb10⟩
          have C6 := Lib.hid ((H9.out.still hb10).act fun F hl _ => Unmap_s a hl)
          rw [N5.out] at C6
          clear HS hb10 H9
          go_wp2_with fail
          refine C6.out.mono ?_
          rintro e w11 ⟨rfl, h11, _⟩
          have HE := Lib.hid h11.1
          clear C6 h11
          go_wp2_with fail
          first | go_ret | skip
          exact ⟨rfl, HE.out⟩
end Go.Proofs.Ytpgmapcpffefnaa
