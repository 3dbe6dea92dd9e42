/-
  The law of the order in which hashes are put, walked.
-/
import Derived.Test.YtmpciigebjiehaaMHolds
import Derived.Test.YtmpciigebjiehaaO
namespace Go.Proofs.Ytmpciigebjiehaa
open Go.RowKit

theorem order_any (a b : UInt8) (A : Option Addr) (ca : Nat) (ha1 : List UInt32) (B : Option Addr) (cb : Nat) (hb1s : List UInt32) (w : World) (hxa : Src w (fun k => k < w.heap.size) A ha1.length ca (hsh ha1)) (hxb : Src w (fun k => k < w.heap.size) B hb1s.length cb (hsh hb1s)) (hma : ha1.length ≤ 4611686018427387904) (hmb : hb1s.length ≤ 4611686018427387904) :
    Calls Try.prog 10 #[.int .u8 a.toNat, .int .u8 b.toNat, .slice A ha1.length ca, .slice B hb1s.length cb] w fun e w' => e = .returned (.bool true) ∧ Below w.heap.size w w' := by
  obtain ⟨k, y, n, s, hk, hy, hk7, hy31, hn, hs1, hf, hse, hsl, hsu⟩ := two_args a b
  have ha := a.toNat_lt
  have hb := b.toNat_lt
  obtain ⟨p0, p1, p2, p3⟩ := form_pos hf
  have hbl : (blank n).length = n := by simp [blank]
  have hla : (setAll s (blank n) ha1).length = n := (setAll_len _ _ _).trans hbl
  have hlb : (setAll s (blank n) hb1s).length = n := (setAll_len _ _ _).trans hbl
  have hlab : (setAll s (setAll s (blank n) ha1) hb1s).length = n := (setAll_len _ _ _).trans hla
  have HMA := Lib.hid (fun (w1 : World) (hb : Below w.heap.size w w1) => (make_ok n s A ca ha1 w1 hf ((hxa.below hb (fun _ h => h)).weak (fun k hk => Nat.lt_of_lt_of_le hk hb.size)) hma).mono (R' := fun e w' => ∃ A c, e = .returned (.tuple #[flt A n c s, .int .i64 0]) ∧ w'.ownsRow w1.heap.size 53 1 (.slice A n c) n (wds (setAll s (blank n) ha1)) ∧ Below w1.heap.size w1 w') (fun e w' hm => made_len hm n hla))
  have HMB := Lib.hid (fun (w1 : World) (hb : Below w.heap.size w w1) => (make_ok n s B cb hb1s w1 hf ((hxb.below hb (fun _ h => h)).weak (fun k hk => Nat.lt_of_lt_of_le hk hb.size)) hmb).mono (R' := fun e w' => ∃ A c, e = .returned (.tuple #[flt A n c s, .int .i64 0]) ∧ w'.ownsRow w1.heap.size 53 1 (.slice A n c) n (wds (setAll s (blank n) hb1s)) ∧ Below w1.heap.size w1 w') (fun e w' hm => made_len hm n hlb))
  have HAB := Lib.hid (fun (w1 : World) (hb : Below w.heap.size w w1) (P : Nat → Prop) (A1 : Option Addr) (c1 : Nat) (hx : Src w1 P A1 n c1 (wds (setAll s (blank n) ha1))) => (add_ok P A1 n c1 s _ B cb hb1s w1 hx hf ((hxb.below hb (fun _ h => h)).weak (fun k hk => Nat.lt_of_lt_of_le hk hb.size)) hmb).mono (R' := fun e w' => ∃ A c, e = .returned (.tuple #[flt A n c s, .int .i64 0]) ∧ w'.ownsRow w1.heap.size 53 1 (.slice A n c) n (wds (setAll s (setAll s (blank n) ha1) hb1s)) ∧ Below w1.heap.size w1 w') (fun e w' hm => made_len hm n hlab))
  have HBA := Lib.hid (fun (w1 : World) (hb : Below w.heap.size w w1) (P : Nat → Prop) (A1 : Option Addr) (c1 : Nat) (hx : Src w1 P A1 n c1 (wds (setAll s (blank n) hb1s))) => (add_ok P A1 n c1 s _ A ca ha1 w1 hx hf ((hxa.below hb (fun _ h => h)).weak (fun k hk => Nat.lt_of_lt_of_le hk hb.size)) hma).mono (R' := fun e w' => ∃ A c, e = .returned (.tuple #[flt A n c s, .int .i64 0]) ∧ w'.ownsRow w1.heap.size 53 1 (.slice A n c) n (wds (setAll s (setAll s (blank n) ha1) hb1s)) ∧ Below w1.heap.size w1 w') (fun e w' hm => by rw [← setAll_comm] at hm; exact made_len hm n hlab))
  have hu : uniAll (setAll s (blank n) ha1) [⟨setAll s (blank n) hb1s, s⟩] = setAll s (setAll s (blank n) ha1) hb1s := by
    show uni _ _ = _
    exact uni_setAll s n ha1 hb1s
  have hal : alikeB [⟨setAll s (blank n) ha1, (s : Int)⟩, ⟨setAll s (blank n) hb1s, (s : Int)⟩] = true := by
    simp [alikeB, likeB, hla, hlb, hf]
  have HU := Lib.hid (fun (w1 : World) (P : Nat → Prop) (A1 : Option Addr) (hx : Fls w1 P A1 2 2 [⟨setAll s (blank n) ha1, (s : Int)⟩, ⟨setAll s (blank n) hb1s, (s : Int)⟩]) => (union_two P A1 2 _ _ w1 hx hal).mono (R' := fun e w' => ∃ A c, e = .returned (.tuple #[flt A n c s, .int .i64 0]) ∧ w'.ownsRow w1.heap.size 53 1 (.slice A n c) n (wds (setAll s (setAll s (blank n) ha1) hb1s)) ∧ Below w1.heap.size w1 w') (fun e w' hm => by
    have hm' : Made w1 (uniAll (setAll s (blank n) ha1) [⟨setAll s (blank n) hb1s, s⟩]) s e w' := hm
    rw [hu] at hm'
    exact made_len hm' n hlab))
  have HLA := Lib.hid hla
  have HLB := Lib.hid hlb
  generalize setAll s (setAll s (blank n) ha1) hb1s = lab at HAB HBA HU
  generalize setAll s (blank n) ha1 = la at HMA HAB HU HLA
  generalize setAll s (blank n) hb1s = lb at HMB HBA HU HLB
  clear hxa hxb hma hmb hf hse hbl hla hlb hlab hu hal
  go_enter Try.func10, Try.ntmps10
  go_wp2_with (fail)
  refine (awake_any _).mono ?_
  rintro e w1 ⟨rfl, hb1⟩
  have HB1 := Lib.hid hb1
  clear hb1
  go_wp2_with (fail)
  refine (HMA.out w1 HB1.out).mono ?_
  rintro e w2 ⟨A2, c2, rfl, ho2, hb2⟩
  have hb2' := HB1.out.trans (hb2.mono HB1.out.size)
  have hb2a := hb2'.alloc hb2'.size (.cells #[.slice A2 n c2, .int .i64 (s : Int)] 30)
  have HQ2 := Lib.hid (Bx.new w2 A2 n c2 s)
  have HO2 := Lib.hid (ho2.alloc (.cells #[.slice A2 n c2, .int .i64 (s : Int)] 30))
  have HB2 := Lib.hid hb2a
  clear hb2 ho2 hb2' hb2a HMA
  go_wp2_with (fail)
  refine (HMB.out _ HB2.out).mono ?_
  rintro e w3 ⟨A3, c3, rfl, ho3, hb3⟩
  have hb3' := HB2.out.trans (hb3.mono HB2.out.size)
  have hb3a := hb3'.alloc hb3'.size (.cells #[.slice A3 n c3, .int .i64 (s : Int)] 30)
  have bl3 := (Below.refl w3.heap.size w3).alloc (Nat.le_refl _) (.cells #[.slice A3 n c3, .int .i64 (s : Int)] 30)
  have HQ3 := Lib.hid (Bx.new w3 A3 n c3 s)
  have HO3 := Lib.hid (own_below ho3 bl3)
  have HQ2' := Lib.hid ((HQ2.out.below hb3).below bl3)
  have HO2' := Lib.hid (own_below (own_below HO2.out hb3) bl3)
  have HB3 := Lib.hid hb3a
  have k0 := HQ2'.out.c0
  have k1 := HQ2'.out.c1
  clear hb3 ho3 hb3' hb3a bl3 HQ2 HO2 HMB HB2
  go_wp2_with (fail)
  generalize w3.alloc (.cells #[.slice A3 n c3, .int .i64 (s : Int)] 30) = v3 at HO3 HQ2' HO2' HB3 k0 k1 HQ3 ⊢
  refine (HAB.out _ HB3.out _ _ _ (Src.of_own HO2'.out)).mono ?_
  rintro e w4 ⟨A4, c4, rfl, ho4, hb4⟩
  have bl4 := (Below.refl w4.heap.size w4).alloc (Nat.le_refl _) (.cells #[.slice A4 n c4, .int .i64 (s : Int)] 30)
  have e4 := hb4.trans (bl4.mono hb4.size)
  have HB4 := Lib.hid (HB3.out.trans (e4.mono HB3.out.size))
  have HX4 := Lib.hid (HQ2'.out.below e4)
  have HY4 := Lib.hid (HQ3.out.below e4)
  have HP4 := Lib.hid (Bx.new w4 A4 n c4 s)
  have HOX4 := Lib.hid (own_below HO2'.out e4)
  have HOY4 := Lib.hid (own_below HO3.out e4)
  have HOP4 := Lib.hid (own_below ho4 bl4)
  have k0 := HY4.out.c0
  have k1 := HY4.out.c1
  clear ho4 hb4 bl4 e4 HAB HB3 HQ2' HQ3 HO2' HO3
  go_wp2_with (fail)
  generalize w4.alloc (.cells #[.slice A4 n c4, .int .i64 (s : Int)] 30) = v4 at HB4 HX4 HY4 HP4 HOX4 HOY4 HOP4 k0 k1 ⊢
  refine (HBA.out _ HB4.out _ _ _ (Src.of_own HOY4.out)).mono ?_
  rintro e w5 ⟨A5, c5, rfl, ho5, hb5⟩
  have bl5 := (Below.refl w5.heap.size w5).alloc (Nat.le_refl _) (.cells #[.slice A5 n c5, .int .i64 (s : Int)] 30)
  have e5 := hb5.trans (bl5.mono hb5.size)
  have HB5 := Lib.hid (HB4.out.trans (e5.mono HB4.out.size))
  have HX5 := Lib.hid (HX4.out.below e5)
  have HY5 := Lib.hid (HY4.out.below e5)
  have HP5 := Lib.hid (HP4.out.below e5)
  have HQ5 := Lib.hid (Bx.new w5 A5 n c5 s)
  have HOX5 := Lib.hid (own_below HOX4.out e5)
  have HOY5 := Lib.hid (own_below HOY4.out e5)
  have HOP5 := Lib.hid (own_below HOP4.out e5)
  have HOQ5 := Lib.hid (own_below ho5 bl5)
  have k0 := HX5.out.c0
  have k1 := HX5.out.c1
  have k2 := HY5.out.c0
  have k3 := HY5.out.c1
  clear ho5 hb5 bl5 e5 HBA HB4 HX4 HY4 HP4 HOX4 HOY4 HOP4
  have hsz5 : (w5.alloc (.cells #[.slice A5 n c5, .int .i64 (s : Int)] 30)).heap.size = w5.heap.size + 1 := by simp
  have HSZ := Lib.hid hsz5
  clear hsz5
  go_wp2_with (fail)
  generalize w5.alloc (.cells #[.slice A5 n c5, .int .i64 (s : Int)] 30) = v5 at HB5 HX5 HY5 HP5 HQ5 HOX5 HOY5 HOP5 HOQ5 HSZ k0 k1 k2 k3 ⊢
  have hF := fls_two v5 _ _ ⟨la, (s : Int)⟩ ⟨lb, (s : Int)⟩ A2 A3 c2 c3 (by show Src v5 _ A2 la.length c2 (wds la); rw [HLA.out]; exact Src.of_own HOX5.out) (by show Src v5 _ A3 lb.length c3 (wds lb); rw [HLB.out]; exact Src.of_own HOY5.out)
  simp only [HLA.out, HLB.out] at hF
  have bl6 := (Below.refl v5.heap.size v5).alloc (Nat.le_refl _) (.cells #[.slice A2 n c2, .int .i64 (s : Int), .slice A3 n c3, .int .i64 (s : Int)] 30)
  rw [HSZ.out] at hF
  generalize v5.alloc (.cells #[.slice A2 n c2, .int .i64 (s : Int), .slice A3 n c3, .int .i64 (s : Int)] 30) = v6 at hF bl6 ⊢
  refine (HU.out _ _ _ hF).mono ?_
  rintro e w7 ⟨A7, c7, rfl, ho7, hb7⟩
  have bl7 := (Below.refl w7.heap.size w7).alloc (Nat.le_refl _) (.cells #[.slice A7 n c7, .int .i64 (s : Int)] 30)
  have e7 := bl6.trans ((hb7.trans (bl7.mono hb7.size)).mono bl6.size)
  have HB7 := Lib.hid (HB5.out.trans (e7.mono HB5.out.size))
  have HP7 := Lib.hid (HP5.out.below e7)
  have HQ7 := Lib.hid (HQ5.out.below e7)
  have HU7 := Lib.hid (Bx.new w7 A7 n c7 s)
  have HOP7 := Lib.hid (own_below HOP5.out e7)
  have HOQ7 := Lib.hid (own_below HOQ5.out e7)
  have HOU7 := Lib.hid (own_below ho7 bl7)
  have k0 := HP7.out.c0
  have k1 := HP7.out.c1
  have k2 := HQ7.out.c0
  have k3 := HQ7.out.c1
  clear ho7 hb7 bl7 e7 HU HB5 HX5 HY5 HP5 HQ5 HOX5 HOY5 HOP5 HOQ5 hF bl6
  go_wp2_with (fail)
  generalize w7.alloc (.cells #[.slice A7 n c7, .int .i64 (s : Int)] 30) = v7 at HB7 HP7 HQ7 HU7 HOP7 HOQ7 HOU7 k0 k1 k2 k3 ⊢
  refine (same_n _ _ A4 A5 c4 c5 n lab s _ (Src.of_own HOP7.out) (Src.of_own HOQ7.out) (by omega)).mono ?_
  rintro e w8 ⟨rfl, hb8⟩
  have HB8 := Lib.hid (HB7.out.trans (hb8.mono HB7.out.size))
  have HP8 := HP7.out.below hb8
  have HU8 := HU7.out.below hb8
  have HOP8 := Lib.hid (own_below HOP7.out hb8)
  have HOU8 := Lib.hid (own_below HOU7.out hb8)
  have j0 := HP8.c0
  have j1 := HP8.c1
  have j2 := HU8.c0
  have j3 := HU8.c1
  clear hb8 HP8 HU8 HB7 HP7 HQ7 HU7 HOP7 HOQ7 HOU7
  go_wp2_with (fail)
  refine (same_n _ _ A4 A7 c4 c7 n lab s _ (Src.of_own HOP8.out) (Src.of_own HOU8.out) (by omega)).mono ?_
  rintro e w9 ⟨rfl, hb9⟩
  have HB9 := Lib.hid (HB8.out.trans (hb9.mono HB8.out.size))
  clear hb9
  go_wp2_with (fail)
  go_ret
  exact ⟨rfl, HB9.out⟩
end Go.Proofs.Ytmpciigebjiehaa
