/-
  What a space of the program and one of the document's tell, held against each other.
-/
import Derived.Test.YthbdncojekpanaaEu
import Derived.Test.YthbdncojekpanaaBw
namespace Go.Proofs.Ythbdncojekpanaa
open Go.RowKit

/-- Both are these regions. -/
def Two (w : World) (B g gm : Nat) (ss : List Seg) : Prop := (∃ F, Lies w B g F ss) ∧ ∃ F, Mies w B gm F ss
theorem Two.below {w w' : World} {B g gm : Nat} {ss : List Seg} (h : Two w B g gm ss) (hb : Below w.heap.size w w') : Two w' B g gm ss := by
  obtain ⟨⟨F, h1⟩, F', h2⟩ := h
  exact ⟨⟨F, h1.below hb⟩, F', h2.below hb⟩
theorem TookS.read {w w' : World} {ss : List Seg} {a n need : Int} {e : Ending} (h : TookS w ss a n need e w') : ∃ A c, e = .returned (.tuple #[.slice A (readS ss a n need).length c, .int .i64 (goesS ss a n need)]) ∧ w'.ownsRow w.heap.size 5 1 (.slice A (readS ss a n need).length c) (readS ss a n need).length (cells (readS ss a n need)) ∧ Below w.heap.size w w' := by
  obtain ⟨hb, A, l, c, h1, h2, h3⟩ := h
  subst h2
  exact ⟨A, c, h1, h3, hb⟩
theorem readS_len {ss : List Seg} {a n need : Int} : (readS ss a n need).length ≤ 1048576 := by
  unfold readS
  split
  · rename_i h
    rw [gotS_len h]
    have := goes_len h
    omega
  · simp
/-- Three rows, made apart, are one's own. -/
theorem owned_three {w : World} {B n1 n2 n3 c1 c2 c3 : Nat} {A1 A2 A3 : Option Addr} {x1 x2 x3 : List Value} (hB : B ≤ w.heap.size)
    (h1 : w.ownsRow B 5 1 (.slice A1 n1 c1) n1 x1) (h2 : w.ownsRow B 5 1 (.slice A2 n2 c2) n2 x2) (h3 : w.ownsRow B 5 1 (.slice A3 n3 c3) n3 x3)
    (d12 : ∀ q, row A1 = some q → row A2 = some q → False) (d13 : ∀ q, row A1 = some q → row A3 = some q → False) (d23 : ∀ q, row A2 = some q → row A3 = some q → False)
    (k1 : n1 ≤ 1048576) (k2 : n2 ≤ 1048576) (k3 : n3 ≤ 1048576) :
    Calls Try.prog 52 #[.slice (some ⟨w.heap.size, 0, none⟩) 3 3] (w.alloc (.cells #[.slice A1 n1 c1, .slice A2 n2 c2, .slice A3 n3 c3] 31)) fun en w' => en = .returned (.bool true) ∧ Below B w w' := by
  have hbe : Below w.heap.size w (w.alloc (.cells #[.slice A1 n1 c1, .slice A2 n2 c2, .slice A3 n3 c3] 31)) := (Below.refl _ w).alloc (Nat.le_refl _) _
  have up : ∀ {A : Option Addr} {n c : Nat} {x : List Value}, w.ownsRow B 5 1 (.slice A n c) n x → (w.alloc (.cells #[.slice A1 n1 c1, .slice A2 n2 c2, .slice A3 n3 c3] 31)).ownsRow B 5 1 (.slice A n c) n x := fun h => own_beside h (Beside.of_below hbe (fun _ => False)) fun _ _ e => e
  refine (owned_many B w.heap.size 3 (fun i => if i = 0 then A1 else if i = 1 then A2 else A3) (fun i => if i = 0 then n1 else if i = 1 then n2 else n3) (fun i => if i = 0 then c1 else if i = 1 then c2 else c3) (fun i => if i = 0 then x1 else if i = 1 then x2 else x3) _ _ (by omega) (heap_alloc_new _ _) ?_ ?_ ?_ (by have := hbe.size; omega) ?_).mono fun en w' h => ⟨h.1, (((Below.refl _ w).alloc hB _).trans h.2)⟩
  · intro i hi
    rcases (by omega : i = 0 ∨ i = 1 ∨ i = 2) with rfl | rfl | rfl <;> rfl
  · intro i hi
    rcases (by omega : i = 0 ∨ i = 1 ∨ i = 2) with rfl | rfl | rfl
    · exact up h1
    · exact up h2
    · exact up h3
  · intro i j hi hj hij q hq
    rcases (by omega : i = 0 ∨ i = 1 ∨ i = 2) with rfl | rfl | rfl <;> rcases (by omega : j = 0 ∨ j = 1 ∨ j = 2) with rfl | rfl | rfl
    · exact absurd rfl hij
    · exact fun e => d12 q hq e
    · exact fun e => d13 q hq e
    · exact fun e => d12 q e hq
    · exact absurd rfl hij
    · exact fun e => d23 q hq e
    · exact fun e => d13 q e hq
    · exact fun e => d23 q e hq
    · exact absurd rfl hij
  · intro i hi
    rcases (by omega : i = 0 ∨ i = 1 ∨ i = 2) with rfl | rfl | rfl
    · show n1 ≤ _; omega
    · show n2 ≤ _; omega
    · show n3 ≤ _; omega
set_option maxRecDepth 100000 in
set_option maxHeartbeats 4000000 in
theorem alike_any (B g gm : Nat) (ss : List Seg) (a n : Int) (ha : I64 a) (w : World) (h : Two w B g gm ss) :
    Calls Try.prog 20 #[.pointer (some ⟨g, 0, none⟩), .pointer (some ⟨gm, 0, none⟩), .int .i64 a, .int .i64 n] w fun e w' => e = .returned (.bool true) ∧ Below w.heap.size w w' := by
  have HA := Lib.hid ha
  obtain ⟨⟨F, hl⟩, F', hm⟩ := h
  have hfew := good_few hl.good
  have HL := Lib.hid hl
  have HM := Lib.hid hm
  have C1 := Lib.hid (Gap_s n hl)
  clear hl hm ha
  go_enter Try.func20, Try.ntmps20
  go_wp2_with fail
  refine C1.out.mono ?_
  rintro e w1 ⟨rfl, hb⟩
  have HL1 := Lib.hid (HL.out.below hb)
  have HM1 := Lib.hid (HM.out.below hb)
  have HB := Lib.hid hb
  have C2 := Lib.hid (Gap_m n HM1.out)
  generalize (gapA ss n).1 = g1 at *
  generalize (gapA ss n).2 = g2 at *
  clear C1 hb
  go_wp2_with fail
  refine C2.out.mono ?_
  rintro e w2 ⟨rfl, hb⟩
  have HL2 := Lib.hid (HL1.out.below hb)
  have HM2 := Lib.hid (HM1.out.below hb)
  have HB2 := Lib.hid (HB.out.trans (hb.mono HB.out.size))
  have C3 := Lib.hid (Regions_s HL2.out)
  clear C2 hb HL1 HM1 HB
  go_wp2_with fail
  refine C3.out.mono ?_
  rintro e w3 ⟨A3, c3, he3, ho3, hb⟩
  rw [List.length_map] at he3
  subst he3
  have HG3 := Lib.hid (Gls.of_own ho3)
  have HL3 := Lib.hid (HL2.out.below hb)
  have HM3 := Lib.hid (HM2.out.below hb)
  have HB3 := Lib.hid (HB2.out.trans (hb.mono HB2.out.size))
  have C4 := Lib.hid (Regions_m HM3.out)
  clear C3 hb ho3 HL2 HM2 HB2
  go_wp2_with fail
  refine C4.out.mono ?_
  rintro e w4 ⟨A4, c4, he4, ho4, hb⟩
  rw [List.length_map] at he4
  subst he4
  have C5 := Lib.hid (by
    have h5 := sameR_any _ A3 A4 c3 c4 _ w4 (HG3.out.below hb) (Gls.of_own ho4) (by rw [List.length_map]; omega)
    rw [List.length_map] at h5
    exact h5)
  have HL4 := Lib.hid (HL3.out.below hb)
  have HM4 := Lib.hid (HM3.out.below hb)
  have HB4 := Lib.hid (HB3.out.trans (hb.mono HB3.out.size))
  clear C4 hb ho4 HL3 HM3 HB3 HG3
  go_wp2_with fail
  refine C5.out.mono ?_
  rintro e w5 ⟨rfl, hb⟩
  have HL5 := Lib.hid (HL4.out.below hb)
  have HM5 := Lib.hid (HM4.out.below hb)
  have HB5 := Lib.hid (HB4.out.trans (hb.mono HB4.out.size))
  have C6 := Lib.hid (Read_s n HA.out HL5.out)
  clear C5 hb HL4 HM4 HB4
  go_wp2_with fail
  refine C6.out.mono ?_
  intro e w6 hr
  obtain ⟨A6, c6, rfl, ho6, hb⟩ := hr.read
  have HS6 := Lib.hid (Src.of_own ho6).lt
  have HR6 := Lib.hid (own_more ho6 HB5.out.size)
  have HT6 := Lib.hid (fun q (hq : row A6 = some q) => (ho6.lt q (by rw [row_own]; exact hq)).2)
  have HL6 := Lib.hid (HL5.out.below hb)
  have HM6 := Lib.hid (HM5.out.below hb)
  have HB6 := Lib.hid (HB5.out.trans (hb.mono HB5.out.size))
  have C7 := Lib.hid ((Get_m n HA.out (p := 1) (by omega) HM6.out).mono fun _ _ ht => ht.read)
  have HK6 := Lib.hid (readS_len (ss := ss) (a := a) (n := n) (need := 1))
  generalize readS ss a n 1 = r6 at *
  generalize goesS ss a n 1 = x6 at *
  clear C6 hb ho6 hr HL5 HM5 HB5
  go_wp2_with fail
  refine C7.out.mono ?_
  rintro e w7 ⟨A7, c7, rfl, ho7, hb⟩
  have cv1 := conv_string (HS6.out.on hb)
  have cv2 := conv_string (Src.of_own ho7)
  have HL7 := Lib.hid (HL6.out.below hb)
  have HB7 := Lib.hid (HB6.out.trans (hb.mono HB6.out.size))
  have HM7 := Lib.hid (HM6.out.below hb)
  have C8 := Lib.hid ((Peek_s n HA.out HL7.out).mono fun _ _ ht => ht.read)
  have HK8 := Lib.hid (readS_len (ss := ss) (a := a) (n := n) (need := 0))
  have HR67 := Lib.hid (own_beside HR6.out (Beside.of_below hb (fun _ => False)) fun _ _ e => e)
  have HT67 := Lib.hid (fun q (hq : row A6 = some q) => Nat.lt_of_lt_of_le (HT6.out q hq) hb.size)
  clear C7 HL6 HM6 HB6 HS6 HR6 HT6 ho7
  go_wp2_with fail
  refine C8.out.mono ?_
  rintro e w8 ⟨A8, c8, rfl, ho8, hb⟩
  have HS8 := Lib.hid (Src.of_own ho8).lt
  have HR8 := Lib.hid (own_more ho8 HB7.out.size)
  have HR68 := Lib.hid (own_beside HR67.out (Beside.of_below hb (fun _ => False)) fun _ _ e => e)
  have HT68 := Lib.hid (fun q (hq : row A6 = some q) => Nat.lt_of_lt_of_le (HT67.out q hq) hb.size)
  have HT8 := Lib.hid (fun q (hq : row A8 = some q) => (ho8.lt q (by rw [row_own]; exact hq)).2)
  have HD68 := Lib.hid (fun q (hq : row A6 = some q) (hq' : row A8 = some q) => Nat.lt_irrefl q (Nat.lt_of_lt_of_le (HT67.out q hq) (ho8.lt q (by rw [row_own]; exact hq')).1))
  have HL8 := Lib.hid (HL7.out.below hb)
  have HM8 := Lib.hid (HM7.out.below hb)
  have HB8 := Lib.hid (HB7.out.trans (hb.mono HB7.out.size))
  have C9 := Lib.hid ((Get_m n HA.out (p := 0) (by omega) HM8.out).mono fun _ _ ht => ht.read)
  clear C8 hb ho8 HL7 HM7 HB7 HR67 HT67 cv1 cv2
  generalize readS ss a n 0 = r8 at *
  generalize goesS ss a n 0 = x8 at *
  go_wp2_with fail
  refine C9.out.mono ?_
  rintro e w9 ⟨A9, c9, rfl, ho9, hb⟩
  have cv1 := conv_string (HS8.out.on hb)
  have cv2 := conv_string (Src.of_own ho9)
  have HL9 := Lib.hid (HL8.out.below hb)
  have HB9 := Lib.hid (HB8.out.trans (hb.mono HB8.out.size))
  have HM9 := Lib.hid (HM8.out.below hb)
  have HR69 := Lib.hid (own_beside HR68.out (Beside.of_below hb (fun _ => False)) fun _ _ e => e)
  have HR89 := Lib.hid (own_beside HR8.out (Beside.of_below hb (fun _ => False)) fun _ _ e => e)
  have HT69 := Lib.hid (fun q (hq : row A6 = some q) => Nat.lt_of_lt_of_le (HT68.out q hq) hb.size)
  have HT89 := Lib.hid (fun q (hq : row A8 = some q) => Nat.lt_of_lt_of_le (HT8.out q hq) hb.size)
  have C10 := Lib.hid ((Fetch_s HA.out HL9.out).mono fun _ _ ht => ht.read)
  have HK10 := Lib.hid (readS_len (ss := ss) (a := a) (n := 8) (need := 4))
  clear C9 hb ho9 HL8 HM8 HB8 HR68 HT68 HR8 HT8 HS8
  go_wp2_with fail
  refine C10.out.mono ?_
  rintro e w10 ⟨A10, c10, rfl, ho10, hb⟩
  have HS10 := Lib.hid (Src.of_own ho10).lt
  have HR10 := Lib.hid (own_more ho10 HB9.out.size)
  have HR610 := Lib.hid (own_beside HR69.out (Beside.of_below hb (fun _ => False)) fun _ _ e => e)
  have HR810 := Lib.hid (own_beside HR89.out (Beside.of_below hb (fun _ => False)) fun _ _ e => e)
  have HD610 := Lib.hid (fun q (hq : row A6 = some q) (hq' : row A10 = some q) => Nat.lt_irrefl q (Nat.lt_of_lt_of_le (HT69.out q hq) (ho10.lt q (by rw [row_own]; exact hq')).1))
  have HD810 := Lib.hid (fun q (hq : row A8 = some q) (hq' : row A10 = some q) => Nat.lt_irrefl q (Nat.lt_of_lt_of_le (HT89.out q hq) (ho10.lt q (by rw [row_own]; exact hq')).1))
  have HL10 := Lib.hid (HL9.out.below hb)
  have HM10 := Lib.hid (HM9.out.below hb)
  have HB10 := Lib.hid (HB9.out.trans (hb.mono HB9.out.size))
  have C11 := Lib.hid ((Get_m 8 HA.out (p := 4) (by omega) HM10.out).mono fun _ _ ht => ht.read)
  clear C10 hb ho10 HL9 HM9 HB9 HR69 HT69 HR89 HT89 cv1 cv2
  generalize readS ss a 8 4 = r10 at *
  generalize goesS ss a 8 4 = x10 at *
  go_wp2_with fail
  refine C11.out.mono ?_
  rintro e w11 ⟨A11, c11, rfl, ho11, hb⟩
  have cv1 := conv_string (HS10.out.on hb)
  have cv2 := conv_string (Src.of_own ho11)
  have HL11 := Lib.hid (HL10.out.below hb)
  have HB11 := Lib.hid (HB10.out.trans (hb.mono HB10.out.size))
  have HM11 := Lib.hid (HM10.out.below hb)
  have HR611 := Lib.hid (own_beside HR610.out (Beside.of_below hb (fun _ => False)) fun _ _ e => e)
  have HR811 := Lib.hid (own_beside HR810.out (Beside.of_below hb (fun _ => False)) fun _ _ e => e)
  have HR1011 := Lib.hid (own_beside HR10.out (Beside.of_below hb (fun _ => False)) fun _ _ e => e)
  have C12 := Lib.hid (owned_three HB11.out.size HR611.out HR811.out HR1011.out HD68.out HD610.out HD810.out HK6.out HK8.out HK10.out)
  clear C11 hb ho11 HL10 HM10 HB10 HR610 HR810 HR10 HS10 HR611 HR811 HR1011 HD68 HD610 HD810 HK6 HK8 HK10 HL11 HM11
  go_wp2_with fail
  refine C12.out.mono ?_
  rintro e w12 ⟨rfl, hb⟩
  have HB12 := Lib.hid (HB11.out.trans hb)
  have HL12 := Lib.hid (HL.out.below HB12.out)
  have HM12 := Lib.hid (HM.out.below HB12.out)
  have C13 := Lib.hid (Word_s HA.out HL12.out)
  clear C12 hb HB11 HL HM cv1 cv2
  go_wp2_with fail
  refine C13.out.mono ?_
  rintro e w13 ⟨rfl, hb⟩
  have HB13 := Lib.hid (HB12.out.trans (hb.mono HB12.out.size))
  have HL13 := Lib.hid (HL12.out.below hb)
  have HM13 := Lib.hid (HM12.out.below hb)
  have C14 := Lib.hid (Word_m HA.out (p := 1) (by omega) HM13.out)
  clear C13 hb HL12 HM12 HB12
  generalize wordS ss a 1 = y1 at *
  generalize goesS ss a 8 1 = z1 at *
  go_wp2_with fail
  refine C14.out.mono ?_
  rintro e w14 ⟨rfl, hb⟩
  have HB14 := Lib.hid (HB13.out.trans (hb.mono HB13.out.size))
  have HL14 := Lib.hid (HL13.out.below hb)
  have HM14 := Lib.hid (HM13.out.below hb)
  have C15 := Lib.hid (PeekWord_s HA.out HL14.out)
  clear C14 hb HL13 HM13 HB13
  go_wp2_with fail
  refine C15.out.mono ?_
  rintro e w15 ⟨rfl, hb⟩
  have HB15 := Lib.hid (HB14.out.trans (hb.mono HB14.out.size))
  have HM15 := Lib.hid (HM14.out.below hb)
  have C16 := Lib.hid (Word_m HA.out (p := 0) (by omega) HM15.out)
  clear C15 hb HL14 HM14 HB14
  generalize wordS ss a 0 = y0 at *
  generalize goesS ss a 8 0 = z0 at *
  go_wp2_with fail
  refine C16.out.mono ?_
  rintro e w16 ⟨rfl, hb⟩
  have HB16 := Lib.hid (HB15.out.trans (hb.mono HB15.out.size))
  clear C16 hb HM15 HB15
  go_wp2_with fail
  first | go_ret | skip
  exact ⟨by simp, HB16.out⟩
end Go.Proofs.Ythbdncojekpanaa
