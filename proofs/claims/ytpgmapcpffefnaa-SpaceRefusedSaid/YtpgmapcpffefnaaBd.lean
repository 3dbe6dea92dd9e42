/-
  The law of what is refused, walked.
-/
import Derived.Test.YtpgmapcpffefnaaBw
namespace Go.Proofs.Ytpgmapcpffefnaa
open Go.RowKit

theorem boxed {w : World} {P : Nat → Prop} {x : Ac} {A : Option Addr} {c : Nat} (h : AcV w P x A c) (t : TypeId) : AcV (w.alloc (.cells (acells x A c) t)) P x A c := h.keep fun k _ hk => Below.heap_alloc w _ k hk
theorem boxed_acs {w : World} {P : Nat → Prop} {A : Option Addr} {n c : Nat} {xs : List Ac} (h : Acs w P A n c xs) (o : Obj) : Acs (w.alloc o) P A n c xs := h.keep fun k _ hk => Below.heap_alloc w o k hk
theorem AcV.weak {w : World} {P Q : Nat → Prop} {x : Ac} {A : Option Addr} {c : Nat} (h : AcV w P x A c) (hk : ∀ k, P k → Q k) : AcV w Q x A c := ⟨h.src.weak hk, h.len, h.at_, h.n⟩
theorem Acs.weak {w : World} {P Q : Nat → Prop} {A : Option Addr} {n c : Nat} {xs : List Ac} (h : Acs w P A n c xs) (hk : ∀ k, P k → Q k) : Acs w Q A n c xs :=
  ⟨h.len, h.nil, h.cap, fun ad hA hn => hk _ (h.blk ad hA hn), fun ad hA i hi => by
    obtain ⟨Ai, ci, h1, h2⟩ := h.at_ ad hA i hi
    exact ⟨Ai, ci, h1.weak hk, h2⟩⟩
set_option maxRecDepth 100000 in
set_option maxHeartbeats 4000000 in
theorem refused_any (A0 : Option Addr) (n0 c0 : Nat) (xs : List Ac) (x : Ac) (A1 : Option Addr) (c1 : Nat) (a : Int) (ha : I64 a) (w0 : World) (h : Acs w0 (fun k => k < w0.heap.size) A0 n0 c0 xs) (hv : AcV w0 (fun k => k < w0.heap.size) x A1 c1) (hn : n0 ≤ 140737488351232) :
    Calls Try.prog 7 #[.slice A0 n0 c0, .agg (acells x A1 c1), .int .i64 a] w0 fun e w' => e = .returned (.bool true) ∧ Below w0.heap.size w0 w' := by
  have hsz : w0.heap.size ≤ (w0.alloc (.cells (acells x A1 c1) 33)).heap.size := ((Below.refl w0.heap.size w0).alloc (Nat.le_refl _) (.cells (acells x A1 c1) 33)).size
  have HX := Lib.hid ((boxed_acs h (.cells (acells x A1 c1) 33)).weak fun k hk => Nat.lt_of_lt_of_le hk hsz)
  have HV := Lib.hid ((boxed hv 33).weak fun k hk => Nat.lt_of_lt_of_le hk hsz)
  have HA := Lib.hid ha
  have HB0 := Lib.hid (show ∀ w', Below (w0.alloc (.cells (acells x A1 c1) 33)).heap.size (w0.alloc (.cells (acells x A1 c1) 33)) w' → Below w0.heap.size w0 w' from fun w' hb => ((Below.refl w0.heap.size w0).alloc (Nat.le_refl _) (.cells (acells x A1 c1) 33)).trans (hb.mono hsz))
  have HBX := Lib.hid (Bx.new w0 (acells x A1 c1) 33)
  have HLT := Lib.hid (show w0.heap.size < (w0.alloc (.cells (acells x A1 c1) 33)).heap.size by simp)
  clear h hv ha hsz
  unfold acells at *
  go_enter Try.func7, Try.ntmps7
  go_wp2_with fail
  generalize w0.alloc (.cells #[.int .i64 x.do_, .int .i64 x.at_, .int .i64 x.n, .int .i64 x.perm, .slice A1 x.b.length c1] 33) = w at *
  refine (awake_any w).mono ?_
  rintro e w1 ⟨rfl, hb⟩
  have HP := Lib.hid (played_any A0 n0 c0 xs w w1 hb HX.out hn)
  clear hb
  go_wp2_with fail
  refine HP.out.mono ?_
  rintro e w2 ⟨g, rfl, h2⟩
  have hg := good_play xs good_nil
  have HC := Lib.hid h2.copy
  have HBX2 := Lib.hid h2.1
  generalize playS [] xs = ss at *
  clear HP h2
  go_wp2_with fail
  refine HC.out.mono ?_
  rintro e w3 ⟨gc, rfl, h3⟩
  have hb3 := Bx.below HBX.out (h3.1.mono (Nat.le_refl _))
  have q0 := (hb3.c 0)
  have q1 := (hb3.c 1)
  have q2 := (hb3.c 2)
  have q3 := (hb3.c 3)
  have q4 := (hb3.c 4)
  simp only [List.getElem?_toArray, List.getElem?_cons_zero, List.getElem?_cons_succ] at q0 q1 q2 q3 q4
  have hv3 := HV.out.keep fun k hk _ => h3.1.block k hk
  have hsz3 := h3.1.size
  have C := Lib.hid (h3.act (f := 17) (args := #[.pointer (some ⟨g, 0, none⟩), .agg #[.int .i64 x.do_, .int .i64 x.at_, .int .i64 x.n, .int .i64 x.perm, .slice A1 x.b.length c1]]) (v := .tuple #[.int .i64 (actS ss x).1, .int .i64 (actS ss x).2.1]) (s2 := (actS ss x).2.2) fun F hl => does_any x A1 c1 hl hv3 fun q hq => ⟨fun hf => by have := (hl.lt hf).1; omega, by omega⟩)
  have HRF := Lib.hid (fun h => act_refused hg (x := x) h)
  generalize actS ss x = u at *
  obtain ⟨u1, u2, u3⟩ := u
  simp only at C HRF
  clear h3 hb3 hv3 hsz3 HC hg
  go_wp2_with fail
  refine C.out.mono ?_
  rintro e w4 ⟨rfl, h4⟩
  have H4 := Lib.hid h4
  clear C h4
  by_cases hu : u2 = 0
  · have HE := Lib.hid (HB0.out w4 H4.out.1)
    subst hu
    clear HRF
    go_wp2_with fail
    first | go_ret | skip
    exact ⟨rfl, HE.out⟩
  · have hss := HRF.out hu
    subst hss
    have b1 : (u2 == 0) = false := by simpa using hu
    have HP := Lib.hid (H4.out.took fun F hl => Peek_s (a := a) 16 HA.out hl)
    have hfew := H4.out.few
    clear HRF hu H4
    generalize hE : goesS u3 a 16 0 = E at *
    have HEE := Lib.hid hE
    clear hE
    go_wp2_with fail
    refine HP.out.mono ?_
    rintro e w5 ⟨A5, c5, rfl, s5, h5, _⟩
    have HS5 := Lib.hid s5
    have HQ := Lib.hid (h5.swap.took fun F hl => Peek_s (a := a) 16 HA.out hl)
    rw [HEE.out] at HQ
    clear HP s5 h5
    go_wp2_with fail
    refine HQ.out.mono ?_
    rintro e w6 ⟨A6, c6, rfl, s6, h6, hb6⟩
    have HS5' := Lib.hid (HS5.out.on hb6)
    have HS6 := Lib.hid s6
    have HR := Lib.hid h6.swap.regions
    clear HQ s6 h6 hb6 HS5
    go_wp2_with fail
    refine HR.out.mono ?_
    rintro e w7 ⟨A7, c7, rfl, l7, h7, hb7⟩
    have HL := Lib.hid l7
    have HS5 := Lib.hid (HS5'.out.on hb7)
    have HS6' := Lib.hid (HS6.out.on hb7)
    have HR2 := Lib.hid h7.swap.regions
    clear HR l7 h7 hb7 HS5' HS6
    go_wp2_with fail
    refine HR2.out.mono ?_
    rintro e w8 ⟨A8, c8, rfl, l8, h8, hb8⟩
    have HSR := Lib.hid (sameR_any _ A7 A8 c7 c8 _ w8 (HL.out.below hb8) l8 (by omega))
    have HS5' := Lib.hid (HS5.out.on hb8)
    have HS6 := Lib.hid (HS6'.out.on hb8)
    have HW := Lib.hid h8.1
    clear HR2 l8 h8 hb8 HS5 HS6'
    go_wp2_with fail
    refine HSR.out.mono ?_
    rintro e w9 ⟨rfl, hb9⟩
    have cv5 := conv_string (HS5'.out.on hb9)
    have cv6 := conv_string (HS6.out.on hb9)
    have HE := Lib.hid (HB0.out w9 (HW.out.trans (hb9.mono HW.out.size)))
    clear HSR hb9
    go_wp2_with fail
    first | go_ret | skip
    exact ⟨by simp, HE.out⟩
end Go.Proofs.Ytpgmapcpffefnaa
