/-
  A case: both memories behind its acts and its code.
-/
import Derived.Test.YtfkhfjefddgkoaaDoorZO
import Derived.Test.YtfkhfjefddgkoaaDoorZD
namespace Go.Proofs.YtfkhfjefddgkoaaDoor
open Go.RowKit

structure Cs where
  acts : List Ac
  code : List Ins
  at_ : Int
  c : Cx
def caseC (x : Cs) (A : Option Addr) (a : Nat) (B : Option Addr) (e : Nat) : List Value := .slice A x.acts.length a :: .slice B x.code.length e :: .int .i64 x.at_ :: cxC x.c
abbrev caseA (x : Cs) (A : Option Addr) (a : Nat) (B : Option Addr) (e : Nat) : Array Value := (caseC x A a B e).toArray
abbrev caseV (x : Cs) (A : Option Addr) (a : Nat) (B : Option Addr) (e : Nat) : Value := .agg (caseA x A a B e)
/-- A case that came in. -/
structure CsV (w : World) (P : Nat → Prop) (x : Cs) (A : Option Addr) (a : Nat) (B : Option Addr) (e : Nat) : Prop where
  acts : Acs w P A x.acts.length a x.acts
  code : Cod.Isl w P B x.code.length e x.code
  at_ : I64 x.at_
  ok : Okc x.c
  na : x.acts.length ≤ 140737488351232
  nc : x.code.length ≤ 140737488351232
theorem CsV.keep {w w' : World} {P : Nat → Prop} {x : Cs} {A B : Option Addr} {a e : Nat} (h : CsV w P x A a B e) (hk : ∀ k, P k → k < w.heap.size → w'.heap[k]? = w.heap[k]?) : CsV w' P x A a B e :=
  ⟨h.acts.keep hk, h.code.keep hk, h.at_, h.ok, h.na, h.nc⟩
/-- One instruction laid into a memory, where it may be. -/
def lay1 (u : List Seg × Int) (i : Ins) : List Seg × Int := if Cod.mayB i = true then ((storeS u.1 u.2 (Cod.bytesOf i) 0).2, w64 (u.2 + 8)) else u
def layS (u : List Seg × Int) (l : List Ins) : List Seg × Int := l.foldl lay1 u
theorem layS_snoc (u : List Seg × Int) (l : List Ins) (k : Nat) (hk : k < l.length) : layS u (l.take (k + 1)) = lay1 (layS u (l.take k)) l[k] := by
  unfold layS
  rw [List.take_succ_eq_append_getElem hk, List.foldl_append]
  rfl
def caseS (x : Cs) : List Seg := (layS (playS [] x.acts, x.at_) x.code).1
theorem lay_i64 (l : List Ins) : ∀ {u : List Seg × Int}, I64 u.2 → I64 (layS u l).2 := by
  induction l with
  | nil => exact fun h => h
  | cons i l ih =>
    intro u h
    refine ih ?_
    unfold lay1
    split
    · exact w64_i64 _
    · exact h
theorem Wm.pokeset {w0 w1 w2 : World} {Q : Nat → Prop} {g gm b a0 m sc : Nat} {ss : List Seg} {a : Int} {ms : Str} (h : Wm w0 w1 Q g ss gm ss) (hb : Below w1.heap.size w1 w2) (hs : Src w2 (fun _ => True) (some ⟨b, a0, none⟩) m sc (cells ms)) (h1 : w1.heap.size ≤ b) (hm : 0 < m) (ha : I64 a) :
    Calls Tryd.prog 21 #[.pointer (some ⟨g, 0, none⟩), .int .i64 a, .slice (some ⟨b, a0, none⟩) m sc] w2 fun e w' => e = .returned (.int .i64 (storeS ss a ms 0).1) ∧ Kept Q w1 w' ∧
      Calls Tryd.prog 22 #[.pointer (some ⟨gm, 0, none⟩), .int .i64 a, .slice (some ⟨b, a0, none⟩) m sc, .int .i64 0] w' fun e w3 => e = .returned (.int .i64 (storeS ss a ms 0).1) ∧ Wm w0 w3 Q g (storeS ss a ms 0).2 gm (storeS ss a ms 0).2 ∧ Kept Q w' w3 := by
  have h2 : b < w2.heap.size := hs.lt.blk _ rfl hm
  have hs2 : Src w2 (fun q => q = b) (some ⟨b, a0, none⟩) m sc (cells ms) := ⟨hs.len, hs.nil, hs.cap, fun ad h _ => by cases h; rfl, hs.at_⟩
  obtain ⟨hmr, hk0⟩ := h.more hb h1 h2
  have hmr2 := hmr
  obtain ⟨hb0, F, F', l1, l2, l3, l4⟩ := hmr
  refine (Poke_s ha l1 hs2 fun q hq => ⟨(l4 q (.inr hq)).2.1, (l4 q (.inr hq)).1⟩).mono fun e w3 ⟨he, hw⟩ => ?_
  obtain ⟨hw3, hk3⟩ := Wm.went hb0 l1 l2 l3 l4 hw
  refine ⟨he, fun k hk => (hk3 k (.inl hk)).trans (hk0 k hk), ?_⟩
  have hs3 : Src w3 (fun q => q = b) (some ⟨b, a0, none⟩) m sc (cells ms) := hs2.keep fun k hk _ => hk3 k (.inr hk)
  obtain ⟨hb0, F, F', l1, l2, l3, l4⟩ := hw3
  refine (Set_m ha (p := 0) (by omega) l2 hs3 fun q hq => ⟨(l4 q (.inr hq)).2.2, (l4 q (.inr hq)).1⟩).mono fun e w4 ⟨he, hw⟩ => ?_
  obtain ⟨hw4, hk4⟩ := Wm.wentM hb0 l1 l2 l3 l4 hw
  exact ⟨he, hw4.less fun k hk => .inl hk, fun k hk => hk4 k (.inl hk)⟩
theorem Bx.kept {w w' : World} {g : Nat} {cs : Array Value} {t : TypeId} {Q : Nat → Prop} (h : Bx w g cs t) (hk : Kept Q w w') (hq : Q g) : Bx w' g cs t := (hk g hq).trans h
theorem Wm.newQ {w0 w1 w2 : World} {bx : Nat} (hb1 : Below w0.heap.size w0 w1) (hbx : bx < w1.heap.size) (hb : Below w1.heap.size w1 w2) (hl : Lies w2 w0.heap.size w1.heap.size (fun k => k = w1.heap.size) []) :
    Wm w0 (w2.alloc (.cells #[.slice none 0 0] 64)) (fun q => q = bx) w1.heap.size [] w2.heap.size [] ∧ Below w1.heap.size w1 (w2.alloc (.cells #[.slice none 0 0] 64)) := by
  have hbe : Below w2.heap.size w2 (w2.alloc (.cells #[.slice none 0 0] 64)) := (Below.refl _ w2).alloc (Nat.le_refl _) _
  have hb3 := hb.trans (hbe.mono hb.size)
  have hlt := (hl.lt (k := w1.heap.size) rfl).2
  have s1 := hb.size
  have s2 := hb3.size
  refine ⟨⟨hb1.trans (hb3.mono hb1.size), _, _, hl.below hbe, mies_new w2 w0.heap.size (Nat.le_trans hb1.size hb.size), fun k hk e => ?_, fun k hk => ?_⟩, hb3⟩
  · omega
  · subst hk
    exact ⟨by omega, by omega, by omega⟩
/-- Where the first loop stands; where the second does. -/
def BothA (w wr : World) (bx g gm : Nat) (x : Cs) (A : Option Addr) (a : Nat) (B : Option Addr) (e : Nat) (k : Nat) : Prop := Wm w wr (fun q => q = bx) g (playS [] (x.acts.take k)) gm (playS [] (x.acts.take k)) ∧ Bx wr bx (caseA x A a B e) 28
def BothC (w wr : World) (bx g gm : Nat) (x : Cs) (A : Option Addr) (a : Nat) (B : Option Addr) (e : Nat) (k : Nat) : Prop := Wm w wr (fun q => q = bx) g (layS (playS [] x.acts, x.at_) (x.code.take k)).1 gm (layS (playS [] x.acts, x.at_) (x.code.take k)).1 ∧ Bx wr bx (caseA { x with at_ := (layS (playS [] x.acts, x.at_) (x.code.take k)).2 } A a B e) 28
set_option maxRecDepth 100000 in
set_option maxHeartbeats 8000000 in
theorem both_any (x : Cs) (A : Option Addr) (a : Nat) (B : Option Addr) (e : Nat) (w : World) (h : CsV w (fun k => k < w.heap.size) x A a B e) (hs : Cod.Shps w) :
    Calls Tryd.prog 11 #[caseV x A a B e] w fun en w' => ∃ g gm, en = .returned (.tuple #[.pointer (some ⟨g, 0, none⟩), .pointer (some ⟨gm, 0, none⟩), .bool true]) ∧ Wm w w' (fun _ => False) g (caseS x) gm (caseS x) := by
  have HX := Lib.hid h
  have hla := h.na
  have hlc := h.nc
  have HS := Lib.hid hs
  clear h hs
  go_enter Tryd.func11, Tryd.ntmps11
  go_upto_region 1 with (fail)
  have HB1 := Lib.hid (show Below w.heap.size w (w.alloc (.cells (caseA x A a B e) 28)) from (Below.refl _ _).alloc (Nat.le_refl _) _)
  have HX1 := Lib.hid (Bx.new w (caseA x A a B e) 28)
  generalize w.alloc (.cells (caseA x A a B e) 28) = w1 at *
  have hbx : w.heap.size < w1.heap.size := HX1.out.lt
  have C1 := Lib.hid (New_s w1 w.heap.size HB1.out.size)
  go_wp2_with fail
  refine C1.out.mono ?_
  rintro e w2 ⟨rfl, hl, hb⟩
  obtain ⟨hw3, hb3⟩ := Wm.newQ HB1.out hbx hb hl
  have HA := Lib.hid (show BothA w (w2.alloc (.cells #[.slice none 0 0] 64)) w.heap.size w1.heap.size w2.heap.size x A a B e 0 from ⟨hw3, HX1.out.below hb3⟩)
  have hz := hb3.size
  clear hl hw3 C1
  go_upto_region 6 with (fail)
  generalize w2.alloc (.cells #[.slice none 0 0] 64) = w3 at *
  generalize w2.heap.size = gm at *
  generalize w1.heap.size = g at *
  clear hb hb3 hz hbx
  go_loopw [7] (fun t7 wr => ∃ k : Nat, k ≤ x.acts.length ∧ t7 = .int .i64 (k : Int) ∧ BothA w wr w.heap.size g gm x A a B e k) (fun t7 _ => x.acts.length - (intOf t7).toNat)
  case atStart => exact ⟨0, Nat.zero_le _, rfl, HA.out⟩
  case round =>
    obtain ⟨k, hk, rfl, hat⟩ := hrel
    have HAT := Lib.hid hat
    have q0 : wr.cell? ⟨w.heap.size, 0, none⟩ = some (.slice A x.acts.length a) := hat.2.c 0
    clear hat HA
    by_cases hlt : k < x.acts.length
    · obtain ⟨ad, rfl⟩ : ∃ ad, A = some ad := by
        cases A with
        | none => have := (HX.out.acts.nil rfl).1; omega
        | some ad => exact ⟨ad, rfl⟩
      have HAC := Lib.hid (HX.out.acts.keep (w' := wr) fun q hq _ => HAT.out.1.1.block q hq)
      obtain ⟨b, o, Ai, ci, rfl, hv, k0, k1, k2, k3, k4⟩ := HAC.out.cells k hlt
      have hcap := HX.out.acts.cap
      have HV := Lib.hid hv
      have hps := playS_snoc [] x.acts k hlt
      have HDO := HAT.out.1.does x.acts[k] Ai ci hv (fun q hq => .inl hq)
      have HMO : ∀ w5, Wm w w5 (fun q => q = w.heap.size) g (playS [] (x.acts.take (k + 1))) gm (playS [] (x.acts.take k)) → Calls Tryd.prog 25 #[.pointer (some ⟨gm, 0, none⟩), .agg (acells x.acts[k] Ai ci)] w5 fun e w' => e = .returned (.tuple #[.int .i64 (actS (playS [] (x.acts.take k)) x.acts[k]).1, .int .i64 (actS (playS [] (x.acts.take k)) x.acts[k]).2.1]) ∧ Wm w w' (fun q => q = w.heap.size) g (playS [] (x.acts.take (k + 1))) gm (playS [] (x.acts.take (k + 1))) ∧ Kept (fun q => q = w.heap.size) w5 w' := fun w5 h5 => by
        have := h5.model x.acts[k] Ai ci (hv.keep fun q hq _ => (h5.1.block q hq).trans (HAT.out.1.1.block q hq).symm) (fun q hq => .inl hq)
        rw [← hps] at this
        exact this
      rw [← hps] at HDO
      unfold acells at HDO HMO
      have HKC := Lib.hid (show ∀ X, Below w.heap.size w X → (X.cell? ⟨b, o + k * 5, none⟩ = some (.int .i64 x.acts[k].do_) ∧ X.cell? ⟨b, o + k * 5 + 1, none⟩ = some (.int .i64 x.acts[k].at_) ∧ X.cell? ⟨b, o + k * 5 + 2, none⟩ = some (.int .i64 x.acts[k].n) ∧ X.cell? ⟨b, o + k * 5 + 3, none⟩ = some (.int .i64 x.acts[k].perm) ∧ X.cell? ⟨b, o + k * 5 + 4, none⟩ = some (.slice Ai x.acts[k].b.length ci)) from fun X hX => by
        have hb0 : b < w.heap.size := HX.out.acts.blk _ rfl (by omega)
        have hbk := (hX.block b hb0).trans (HAT.out.1.1.block b hb0).symm
        exact ⟨(World.cell?_of_block (a := ⟨b, _, none⟩) hbk).trans k0, (World.cell?_of_block (a := ⟨b, _, none⟩) hbk).trans k1, (World.cell?_of_block (a := ⟨b, _, none⟩) hbk).trans k2, (World.cell?_of_block (a := ⟨b, _, none⟩) hbk).trans k3, (World.cell?_of_block (a := ⟨b, _, none⟩) hbk).trans k4⟩)
      have HDO := Lib.hid HDO
      have HMO := Lib.hid HMO
      have HBX := Lib.hid HAT.out.2
      clear hv hps
      generalize actS (playS [] (x.acts.take k)) x.acts[k] = r0 at *
      generalize x.acts[k].do_ = x0 at *
      generalize x.acts[k].at_ = x1 at *
      generalize x.acts[k].n = x2 at *
      generalize x.acts[k].perm = x3 at *
      generalize x.acts[k].b.length = x4 at *
      go_wp2_with fail
      refine HDO.out.mono ?_
      rintro en w5 ⟨rfl, hw5, hk5⟩
      have HM5 := Lib.hid (HMO.out w5 hw5)
      have HB5 := Lib.hid (HBX.out.kept hk5 rfl)
      clear k0 k1 k2 k3 k4 q0
      obtain ⟨k0, k1, k2, k3, k4⟩ := HKC.out _ hw5.1
      have q0 : w5.cell? ⟨w.heap.size, 0, none⟩ = some (.slice (some ⟨b, o, none⟩) x.acts.length a) := HB5.out.c 0
      clear hw5 hk5 HDO HMO HBX HAT
      go_wp2_with fail
      refine HM5.out.mono ?_
      rintro en w6 ⟨rfl, hw6, hk6⟩
      have HA6 := Lib.hid (show BothA w w6 w.heap.size g gm x (some ⟨b, o, none⟩) a B e (k + 1) from ⟨hw6, HB5.out.kept hk6 rfl⟩)
      clear hw6 hk6 HM5 HB5 k0 k1 k2 k3 k4 q0 HV HAC HKC
      go_wp2_with fail
      go_roundw
      case rel => exact ⟨k + 1, by omega, by go_num, HA6.out⟩
      case measure => simp [intOf]; omega
    · obtain rfl : k = x.acts.length := by omega
      have htk : x.acts.take x.acts.length = x.acts := List.take_length
      have HC0 := Lib.hid (show BothC w wr w.heap.size g gm x A a B e 0 from ⟨by have := HAT.out.1; rw [htk] at this; exact this, HAT.out.2⟩)
      clear htk HAT
      go_upto_region 11 with (fail)
      clear q0
      go_loopw [8] (fun t8 wr => ∃ k : Nat, k ≤ x.code.length ∧ t8 = .int .i64 (k : Int) ∧ BothC w wr w.heap.size g gm x A a B e k) (fun t8 _ => x.code.length - (intOf t8).toNat)
      case atStart => exact ⟨0, Nat.zero_le _, rfl, HC0.out⟩
      case round =>
        obtain ⟨k, hk, rfl, hat⟩ := hrel
        have HAT := Lib.hid hat
        have q1 : wr.cell? ⟨w.heap.size, 1, none⟩ = some (.slice B x.code.length e) := hat.2.c 1
        clear hat HC0
        by_cases hlt : k < x.code.length
        · obtain ⟨ad, rfl⟩ : ∃ ad, B = some ad := by
            cases B with
            | none => have := (HX.out.code.nil rfl).1; omega
            | some ad => exact ⟨ad, rfl⟩
          obtain ⟨b, o, rfl⟩ := HX.out.code.plain (by omega)
          have hcap := HX.out.code.cap
          have HKC := Lib.hid (show ∀ X, Below w.heap.size w X → _ from fun X hX => (HX.out.code.keep (w' := X) fun q hq _ => hX.block q hq).get k hlt)
          have hls := layS_snoc (playS [] x.acts, x.at_) x.code k hlt
          have hi64 := lay_i64 (x.code.take k) (u := (playS [] x.acts, x.at_)) HX.out.at_
          have HAT1 := Lib.hid HAT.out.1
          have HAT2 := Lib.hid HAT.out.2
          have hcr : ∀ w' su au, (lay1 (layS (playS [] x.acts, x.at_) (x.code.take k)) x.code[k]) = (su, au) → Wm w w' (fun q => q = w.heap.size) g su gm su → Bx w' w.heap.size (caseA { x with at_ := au } A a (some ⟨b, o, none⟩) e) 28 → BothC w w' w.heap.size g gm x A a (some ⟨b, o, none⟩) e (k + 1) := fun w' su au hu h1 h2 => by
            unfold BothC
            rw [hls, hu]
            exact ⟨h1, h2⟩
          have HCR := Lib.hid hcr
          clear hcr hls HAT
          generalize layS (playS [] x.acts, x.at_) (x.code.take k) = u at *
          obtain ⟨su, au⟩ := u
          simp only at HAT1 HAT2 hi64
          have hQ : w.heap.size ≤ w.heap.size := Nat.le_refl _
          have HI := Lib.hid hi64
          clear hi64
          by_cases hmay : Cod.mayB x.code[k] = true
          · have HM := Lib.hid (show Calls Tryd.prog 19 #[.agg #[.int .i64 x.code[k].op, .int .i64 x.code[k].a, .int .i64 x.code[k].b, .int .i64 x.code[k].c, .int .i64 x.code[k].n]] wr fun en w' => en = .returned (.bool true) ∧ Below wr.heap.size wr w' from (Cod.rmay_any x.code[k] wr).mono fun _ _ hh => ⟨by rw [hh.1, hmay], hh.2⟩)
            have HRB := Lib.hid (show ∀ X, Calls Tryd.prog 20 #[.agg #[.int .i64 x.code[k].op, .int .i64 x.code[k].a, .int .i64 x.code[k].b, .int .i64 x.code[k].c, .int .i64 x.code[k].n]] X fun e w' => e = .returned (.slice (some ⟨X.heap.size + 1, 0, none⟩) 8 8) ∧ Below X.heap.size X w' ∧ Src w' (fun _ => True) (some ⟨X.heap.size + 1, 0, none⟩) 8 8 (Cod.cells (Cod.bytesOf x.code[k])) from fun X => Cod.rbytes_any x.code[k] X hmay)
            have HCR1 := Lib.hid (fun w' (hu : lay1 (su, au) x.code[k] = ((storeS su au (Cod.bytesOf x.code[k]) 0).2, w64 (au + 8))) => HCR.out w' _ _ hu)
            have HLY := Lib.hid (show lay1 (su, au) x.code[k] = ((storeS su au (Cod.bytesOf x.code[k]) 0).2, w64 (au + 8)) from if_pos hmay)
            have HPP := Lib.hid (fun (w1' w2' : World) (h1 : Wm w w1' (fun q => q = w.heap.size) g su gm su) (hb : Below w1'.heap.size w1' w2') (hs : Src w2' (fun _ => True) (some ⟨w1'.heap.size + 1, 0, none⟩) 8 8 (Cod.cells (Cod.bytesOf x.code[k]))) => Wm.pokeset (a := au) (ms := Cod.bytesOf x.code[k]) h1 hb hs (Nat.le_succ _) (Nat.succ_pos 7) HI.out)
            obtain ⟨k0, k1, k2, k3, k4⟩ := HKC.out _ HAT1.out.1
            generalize Cod.bytesOf x.code[k] = bs at *
            generalize lay1 (su, au) x.code[k] = ly at *
            generalize x.code[k].op = x0 at *
            generalize x.code[k].a = x1 at *
            generalize x.code[k].b = x2 at *
            generalize x.code[k].c = x3 at *
            generalize x.code[k].n = x4 at *
            go_wp2_with fail
            refine HM.out.mono ?_
            rintro en w4 ⟨rfl, hb4⟩
            have HW4 := Lib.hid (HAT1.out.quiet hb4)
            have HX4 := Lib.hid (HAT2.out.below hb4)
            clear k0 k1 k2 k3 k4 q1
            obtain ⟨k0, k1, k2, k3, k4⟩ := HKC.out _ HW4.out.1.1
            have q1 : w4.cell? ⟨w.heap.size, 1, none⟩ = some (.slice (some ⟨b, o, none⟩) x.code.length e) := HX4.out.c 1
            clear hb4 HM HAT1 HAT2
            go_wp2_with fail
            refine (HRB.out _).mono ?_
            rintro en w5 ⟨rfl, hb5, hs5⟩
            have HP := Lib.hid (HPP.out _ _ HW4.out.1 hb5 hs5)
            have HX5 := Lib.hid (HX4.out.below hb5)
            have q2 : w5.cell? ⟨w.heap.size, 2, none⟩ = some (.int .i64 au) := HX5.out.c 2
            have HK5 := Lib.hid (show Kept (fun q => q = w.heap.size) w4 w5 from (HW4.out.1.quiet hb5).2)
            clear hb5 hs5 HRB HPP k0 k1 k2 k3 k4 q1
            generalize w4.heap.size + 1 = b4 at *
            go_wp2_with fail
            refine HP.out.mono ?_
            rintro en w6 ⟨rfl, hk6, hset⟩
            have HST := Lib.hid hset
            have HX6 := Lib.hid (HX4.out.kept hk6 rfl)
            clear q2
            have q2 : w6.cell? ⟨w.heap.size, 2, none⟩ = some (.int .i64 au) := HX6.out.c 2
            clear hk6 hset HP HX5 HK5
            go_wp2_with fail
            refine HST.out.mono ?_
            rintro en w7 ⟨rfl, hw7, hk7⟩
            have HX7 := Lib.hid (HX6.out.kept hk7 rfl)
            have HW7 := Lib.hid hw7
            clear q2
            have q2 : w7.cell? ⟨w.heap.size, 2, none⟩ = some (.int .i64 au) := HX7.out.c 2
            have f2 : w7.frozen? ⟨w.heap.size, 2, none⟩ = false := HX7.out.f 2
            clear hw7 hk7 HST HX6 HW4 HX4
            go_upto_region 12 with (fail)
            have HA8 := Lib.hid (HCR1.out (w7.setCell ⟨w.heap.size, 2, none⟩ (.int .i64 (w64 (au + 8)))) HLY.out (HW7.out.stir (beside_cell w7 w.heap.size 2 _) (fun q hq => by subst hq; exact ⟨rfl, hQ⟩)) (by
              have := heap_setCell_same w7 w.heap.size 2 _ _ (.int .i64 (w64 (au + 8))) HX7.out
              exact this))
            change Code.wp _ _ _ _ (w7.setCell ⟨w.heap.size, 2, none⟩ (.int .i64 (w64 (au + 8))))
            generalize w7.setCell ⟨w.heap.size, 2, none⟩ (.int .i64 (w64 (au + 8))) = w8 at *
            clear q2 f2 HX7 HW7 HCR1 HLY
            go_wp2_with fail
            go_roundw
            case rel => exact ⟨k + 1, by omega, by go_num, HA8.out⟩
            case measure => simp [intOf]; omega
          · have hmf : Cod.mayB x.code[k] = false := by simpa using hmay
            have HM := Lib.hid (show Calls Tryd.prog 19 #[.agg #[.int .i64 x.code[k].op, .int .i64 x.code[k].a, .int .i64 x.code[k].b, .int .i64 x.code[k].c, .int .i64 x.code[k].n]] wr fun en w' => en = .returned (.bool false) ∧ Below wr.heap.size wr w' from (Cod.rmay_any x.code[k] wr).mono fun _ _ hh => ⟨by rw [hh.1, hmf], hh.2⟩)
            have HCR2 := Lib.hid (fun w' => HCR.out w' su au (if_neg hmay))
            obtain ⟨k0, k1, k2, k3, k4⟩ := HKC.out _ HAT1.out.1
            generalize x.code[k].op = x0 at *
            generalize x.code[k].a = x1 at *
            generalize x.code[k].b = x2 at *
            generalize x.code[k].c = x3 at *
            generalize x.code[k].n = x4 at *
            clear hmay hmf
            go_wp2_with fail
            refine HM.out.mono ?_
            rintro en w4 ⟨rfl, hb4⟩
            have HA8 := Lib.hid (HCR2.out _ (HAT1.out.quiet hb4).1 (HAT2.out.below hb4))
            clear hb4 HM HAT1 HAT2 k0 k1 k2 k3 k4 q1
            go_wp2_with fail
            go_roundw
            case rel => exact ⟨k + 1, by omega, by go_num, HA8.out⟩
            case measure => simp [intOf]; omega
        · obtain rfl : k = x.code.length := by omega
          have HE := Lib.hid (show Wm w wr (fun _ => False) g (caseS x) gm (caseS x) from by
            have := HAT.out.1
            rw [List.take_length] at this
            exact this.less fun _ hq => hq.elim)
          clear HAT
          go_wp2_with fail
          first | go_ret3 | skip
          exact ⟨g, gm, rfl, HE.out⟩
end Go.Proofs.YtfkhfjefddgkoaaDoor
