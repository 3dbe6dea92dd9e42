/-
  The law FilesKeeps, walked.
-/
import Derived.Test.YtmabhciijdceoaaDoorW
namespace Go.Proofs.YtmabhciijdceoaaDoor
open Go.RowKit Go.Maps

theorem Acs.weak {w : World} {P Q : Nat → Prop} {A : Option Addr} {n c : Nat} {xs : List Ac} (h : Acs w P A n c xs) (hk : ∀ k, P k → Q k) : Acs w Q A n c xs :=
  ⟨h.len, h.nil, h.cap, fun ad hA hn => hk _ (h.blk ad hA hn), fun ad hA i hi => by
    obtain ⟨Ai, ci, h1, h2⟩ := h.at_ ad hA i hi
    exact ⟨Ai, ci, h1.weak hk, h2⟩⟩
/-- Behind awake and a script. -/
theorem Played.at {w w1 w2 : World} {sb mb : Nat} {s : St} (hb : Below w.heap.size w w1) (h : At w1 w2 sb mb s) : At w w2 sb mb s :=
  ⟨h.sto, hb.trans (h.below.mono hb.size), Nat.le_trans hb.size h.sb, Nat.le_trans hb.size h.mb⟩

set_option maxHeartbeats 4000000 in
set_option maxRecDepth 100000 in
theorem keeps_any (Ap : Option Addr) (n cp : Nat) (xs : List Ac) (path b other : Str) (Ab : Option Addr) (cb : Nat) (w : World) (h : Acs w (fun k => k < w.heap.size) Ap n cp xs) (hb : Src w (fun k => k < w.heap.size) Ab b.length cb (cells b))
    (hp : path.length ≤ 9223372036854775807) (ho : other.length ≤ 9223372036854775807) (hbl : b.length ≤ 140737488351232) (hn : n ≤ 140737488351232) (hm : Ml w) :
    Calls Tryd.prog 5 #[.slice Ap n cp, str path, .slice Ab b.length cb, str other] w fun e w' => e = .returned (.bool true) ∧ Below w.heap.size w w' := by
  have HAW := Lib.hid (awake_any w hm)
  have HX := Lib.hid h
  have HB := Lib.hid hb
  have HM := Lib.hid hm
  have HP := Lib.hid hp
  have HO := Lib.hid ho
  have HBL := Lib.hid hbl
  have HNN := Lib.hid hn
  have HLX := Lib.hid h.len
  clear h hb hm hp ho hbl hn
  go_enter Tryd.func5, Tryd.ntmps5
  go_wp2_with fail
  refine HAW.out.mono ?_
  rintro e w1 ⟨rfl, hb1⟩
  have HB1 := Lib.hid hb1
  have HC := Lib.hid (played_any Ap n cp xs w1 ((HX.out.keep fun k hk _ => hb1.block k hk).weak fun k hk => Nat.lt_of_lt_of_le hk hb1.size) (HM.out.below hb1 (by have := HM.out.pos; omega)) HNN.out)
  clear hb1 HAW
  go_wp2_with fail
  refine HC.out.mono ?_
  rintro e w2 ⟨sb, mb, rfl, hat⟩
  have HA2 := Lib.hid (Played.at HB1.out hat)
  obtain ⟨hi, hpu⟩ := play_left xs ⟨newD, 0⟩ inv_new
  have hT := play_tree xs ⟨newD, 0⟩ inv_new tree_new
  generalize playM ⟨newD, 0⟩ xs = s at *
  have HI := Lib.hid hi
  have HT := Lib.hid hT
  have HPU := Lib.hid (show s.puts ≤ 4611686018427387904 by have := HLX.out; have := HNN.out; simp only at hpu; omega)
  have HF := Lib.hid (find_any sb mb s path w2 HA2.out.sto HP.out)
  have HID := Lib.hid (file_id hi path)
  generalize fileOf s.d path = old at *
  obtain ⟨⟨ok, oid, otx⟩, was⟩ := old
  simp only at HF HID
  clear hat hi hpu hT HC HB1
  go_wp2_with fail
  refine HF.out.mono ?_
  rintro e w3 ⟨rfl, hb⟩
  have HA3 := Lib.hid (HA2.out.on hb)
  have HC := Lib.hid (put_any sb mb s path b _ Ab cb w3 HA3.out.sto HP.out (HB.out.below HA3.out.below fun k hk => hk) HPU.out (by have := HBL.out; omega))
  clear hb HF HA2
  go_wp2_with fail
  refine HC.out.mono ?_
  rintro e w4 hd
  obtain ⟨rfl, ha⟩ := HA3.out.does hd
  have HA4 := Lib.hid ha
  clear ha hd HC HA3
  by_cases hz : (putM s path b).2 = 0
  · have K := kept HI.out HT.out path b hz
    rw [hz]
    have HIS := Lib.hid (put_left HI.out path b).inv
    generalize (putM s path b).1 = s1 at *
    have HK := Lib.hid K
    have HR := Lib.hid (read_any sb mb s1 path w4 HA4.out.sto HP.out)
    have HF := Lib.hid (fun (w5 : World) (hb : Below w4.heap.size w4 w5) => find_any sb mb s1 path w5 (HA4.out.on hb).sto HP.out)
    rw [K.file] at HR
    simp only [K.file] at HF
    clear hz K
    go_wp2_with fail
    refine HR.out.mono ?_
    rintro e w5 ⟨g, c, rfl, hsr, hb⟩
    have HA5 := Lib.hid (HA4.out.on hb)
    have HS5 := Lib.hid hsr
    have HC := Lib.hid (HF.out w5 hb)
    clear hb hsr HR HF
    go_wp2_with fail
    refine HC.out.mono ?_
    rintro e w6 ⟨rfl, hb⟩
    have HA6 := Lib.hid (HA5.out.on hb)
    have HS6 := Lib.hid (HS5.out.below hb fun k hk => hk.2)
    have hcx := conv_string HS6.out
    have hcb := conv_string (HB.out.below HA6.out.below fun k hk => hk)
    have hge : ¬ ((s.puts : Int) + 1 ≤ oid) := by have := HID.out; omega
    have HC := Lib.hid (also_any sb mb s1 other path w6 HA6.out.sto HO.out HP.out)
    clear hb HS5 HA5 HA4
    go_wp2_with fail
    all_goals
      refine HC.out.mono ?_
      rintro e w7 hd
      obtain ⟨rfl, ha⟩ := HA6.out.does hd
      have HA7 := Lib.hid ha
      clear ha hd HC HA6 hcx hcb hge HS6
      by_cases hz : (alsoM s1 other path).2 = 0
      · obtain ⟨k1, k2, k3⟩ := HK.out.also other hz
        rw [hz]
        have HL2 := Lib.hid (also_left (s := s1) HIS.out other path).inv
        generalize (alsoM s1 other path).1 = s2 at *
        have HR := Lib.hid (read_any sb mb s2 other w7 HA7.out.sto HO.out)
        have HF := Lib.hid (fun (w8 : World) (hb : Below w7.heap.size w7 w8) => find_any sb mb s2 other w8 (HA7.out.on hb).sto HO.out)
        rw [k1] at HR
        simp only [k1] at HF
        have HK2 := Lib.hid k2
        have HK3 := Lib.hid k3
        clear hz k1 k2 k3
        go_wp2_with fail
        refine HR.out.mono ?_
        rintro e w8 ⟨g2, c2, rfl, hsr, hb⟩
        have HA8 := Lib.hid (HA7.out.on hb)
        have HS8 := Lib.hid hsr
        have HC := Lib.hid (HF.out w8 hb)
        clear hb hsr HR HF
        go_wp2_with fail
        refine HC.out.mono ?_
        rintro e w9 ⟨rfl, hb⟩
        have HA9 := Lib.hid (HA8.out.on hb)
        have HS9 := Lib.hid (HS8.out.below hb fun k hk => hk.2)
        have hcx := conv_string HS9.out
        have hcb := conv_string (HB.out.below HA9.out.below fun k hk => hk)
        have HC := Lib.hid (remove_any sb mb s2 path w9 HA9.out.sto HL2.out.good HP.out)
        clear hb HS8 HA8 HA7
        go_wp2_with fail
        refine HC.out.mono ?_
        rintro e w10 hd
        obtain ⟨rfl, ha⟩ := HA9.out.does hd
        rw [HK2.out]
        have HA10 := Lib.hid ha
        clear ha hd HC HA9 hcx hcb HS9
        have HK3' := HK3.out
        generalize (removeM s2 path).1 = s3 at *
        have HR := Lib.hid (read_any sb mb s3 other w10 HA10.out.sto HO.out)
        have HF := Lib.hid (fun (w8 : World) (hb : Below w10.heap.size w10 w8) => find_any sb mb s3 other w8 (HA10.out.on hb).sto HO.out)
        rw [HK3'] at HR
        simp only [HK3'] at HF
        clear HK3'
        go_wp2_with fail
        refine HR.out.mono ?_
        rintro e w11 ⟨g3, c3, rfl, hsr, hb⟩
        have HA11 := Lib.hid (HA10.out.on hb)
        have HS11 := Lib.hid hsr
        have HC := Lib.hid (HF.out w11 hb)
        clear hb hsr HR HF
        go_wp2_with fail
        refine HC.out.mono ?_
        rintro e w12 ⟨rfl, hb⟩
        have HA12 := Lib.hid (HA11.out.on hb)
        have HS12 := Lib.hid (HS11.out.below hb fun k hk => hk.2)
        have hcx := conv_string HS12.out
        have hcb := conv_string (HB.out.below HA12.out.below fun k hk => hk)
        clear hb HS11 HA11 HA10
        go_wp2
        go_ret
        exact ⟨rfl, HA12.out.below⟩
      · have hz' : ((alsoM s1 other path).2 != 0) = true := by simpa using hz
        generalize (alsoM s1 other path).2 = e0 at *
        clear hz
        go_wp2
        go_ret
        exact ⟨rfl, HA7.out.below⟩
  · have hz' : ((putM s path b).2 != 0) = true := by simpa using hz
    generalize (putM s path b).2 = e0 at *
    clear hz
    go_wp2
    go_ret
    exact ⟨rfl, HA4.out.below⟩
end Go.Proofs.YtmabhciijdceoaaDoor
