/-
  An act of a script, done.
-/
import Derived.Test.YtpgmapcpffefnaaAg
namespace Go.Proofs.Ytpgmapcpffefnaa
open Go.RowKit

structure Ac where
  do_ : Int
  at_ : Int
  n : Int
  perm : Int
  b : Str
def acells (x : Ac) (A : Option Addr) (c : Nat) : Array Value := #[.int .i64 x.do_, .int .i64 x.at_, .int .i64 x.n, .int .i64 x.perm, .slice A x.b.length c]
structure AcV (w : World) (P : Nat → Prop) (x : Ac) (A : Option Addr) (c : Nat) : Prop where
  src : Src w P A x.b.length c (cells x.b)
  len : x.b.length ≤ 140737488351232
  at_ : I64 x.at_
  n : I64 x.n
theorem AcV.keep {w w' : World} {P : Nat → Prop} {x : Ac} {A : Option Addr} {c : Nat} (h : AcV w P x A c) (hk : ∀ k, P k → k < w.heap.size → w'.heap[k]? = w.heap[k]?) : AcV w' P x A c := ⟨h.src.keep hk, h.len, h.at_, h.n⟩
def actS (ss : List Seg) (x : Ac) : Int × Int × List Seg :=
  if x.do_ = 1 then mapS ss x.n x.perm
  else if x.do_ = 2 then (0, mapAtS ss x.at_ x.n x.perm)
  else if x.do_ = 3 then (0, unmapS ss x.at_)
  else if x.do_ = 4 then (0, protS ss x.at_ x.perm)
  else if x.do_ = 5 then (0, storeS ss x.at_ x.b 2)
  else if x.do_ = 6 then (0, storeS ss x.at_ x.b 0)
  else if x.do_ = 7 then (0, storeS ss x.at_ (digs x.n 8) 2)
  else if x.do_ = 8 then (0, storeS ss x.at_ (digs x.n 8) 0)
  else (0, 0, ss)
theorem good_act {ss : List Seg} (h : Good ss) (x : Ac) : Good (actS ss x).2.2 := by
  unfold actS
  split
  · exact good_map_ h _ _
  split
  · exact good_mapAt h _ _ _
  split
  · exact good_unmap h _
  split
  · exact good_prot h _ _
  split
  · exact good_store h _ _ _
  split
  · exact good_store h _ _ _
  split
  · exact good_store h _ _ _
  split
  · exact good_store h _ _ _
  · exact h
/-- Behind an act. -/
def DidS (w : World) (B g : Nat) (F : Nat → Prop) (u : Int × Int × List Seg) (e : Ending) (w' : World) : Prop := e = .returned (.tuple #[.int .i64 u.1, .int .i64 u.2.1]) ∧ Went w w' B g F u.2.2
theorem DidS.box {w w' : World} {B g : Nat} {F : Nat → Prop} {u : Int × Int × List Seg} {e : Ending} (o : Obj) (h : DidS (w.alloc o) B g F u e w') : DidS w B g F u e w' := ⟨h.1, Went.then (Beside.alloc w o F) (fun _ h => .inl h) h.2⟩
set_option maxRecDepth 100000 in
set_option maxHeartbeats 4000000 in
theorem does_any {w : World} {B g : Nat} {F P : Nat → Prop} {ss : List Seg} (x : Ac) (A : Option Addr) (c : Nat) (h : Lies w B g F ss) (hv : AcV w P x A c) (hP : ∀ q, P q → ¬ F q ∧ q < w.heap.size) :
    Calls Try.prog 17 #[.pointer (some ⟨g, 0, none⟩), .agg (acells x A c)] w (DidS w B g F (actS ss x)) := by
  have hbx := (Below.refl w.heap.size w).alloc (Nat.le_refl _) (.cells (acells x A c) 33)
  have hl := h.below hbx
  have hP2 : ∀ q, P q → ¬ F q ∧ q < (w.alloc (.cells (acells x A c) 33)).heap.size := fun q hq => ⟨(hP q hq).1, Nat.lt_of_lt_of_le (hP q hq).2 hbx.size⟩
  have hV := hv.keep (w' := w.alloc (.cells (acells x A c) 33)) fun k _ hk => hbx.block k hk
  have hsrc := hV.src
  have hat := hV.at_
  have hu : actS ss x = if x.do_ = 1 then mapS ss x.n x.perm
    else if x.do_ = 2 then (0, mapAtS ss x.at_ x.n x.perm)
    else if x.do_ = 3 then (0, unmapS ss x.at_)
    else if x.do_ = 4 then (0, protS ss x.at_ x.perm)
    else if x.do_ = 5 then (0, storeS ss x.at_ x.b 2)
    else if x.do_ = 6 then (0, storeS ss x.at_ x.b 0)
    else if x.do_ = 7 then (0, storeS ss x.at_ (digs x.n 8) 2)
    else if x.do_ = 8 then (0, storeS ss x.at_ (digs x.n 8) 0)
    else (0, 0, ss) := rfl
  generalize actS ss x = u at *
  have HBOX := Lib.hid (fun e w' => DidS.box (w := w) (w' := w') (B := B) (g := g) (F := F) (u := u) (e := e) (.cells (acells x A c) 33))
  have HST := Lib.hid (Went.stay h hbx)
  have HL := Lib.hid hl
  have HP := Lib.hid hP2
  have HSR := Lib.hid hsrc
  have HAT := Lib.hid hat
  clear h hbx hV hv hP hl hP2 hsrc hat
  obtain ⟨d, a, n, p, b⟩ := x
  unfold acells at *
  simp only at *
  by_cases h1 : d = 1
  · rw [if_pos h1] at hu
    subst hu
    subst h1
    have HX := Lib.hid (Map_s n p HL.out)
    clear HL HP HSR HAT HST
    go_enter Try.func17, Try.ntmps17
    go_wp2_with fail
    refine HX.out.mono ?_
    rintro e w2 ⟨rfl, hw⟩
    have HE := Lib.hid (HBOX.out _ w2 ⟨rfl, hw⟩)
    clear hw HX HBOX
    go_wp2_with fail
    first | go_ret2 | skip
    exact HE.out
  rw [if_neg h1] at hu
  by_cases h2 : d = 2
  · rw [if_pos h2] at hu
    subst hu
    subst h2
    have HX := Lib.hid (MapAt_s a n p HL.out)
    clear HL HP HSR HAT HST
    go_enter Try.func17, Try.ntmps17
    go_wp2_with fail
    refine HX.out.mono ?_
    rintro e w2 ⟨rfl, hw⟩
    have HE := Lib.hid (HBOX.out _ w2 ⟨rfl, hw⟩)
    clear hw HX HBOX
    go_wp2_with fail
    first | go_ret2 | skip
    exact HE.out
  rw [if_neg h2] at hu
  by_cases h3 : d = 3
  · rw [if_pos h3] at hu
    subst hu
    subst h3
    have HX := Lib.hid (Unmap_s a HL.out)
    clear HL HP HSR HAT HST
    go_enter Try.func17, Try.ntmps17
    go_wp2_with fail
    refine HX.out.mono ?_
    rintro e w2 ⟨rfl, hw⟩
    have HE := Lib.hid (HBOX.out _ w2 ⟨rfl, hw⟩)
    clear hw HX HBOX
    go_wp2_with fail
    first | go_ret2 | skip
    exact HE.out
  rw [if_neg h3] at hu
  by_cases h4 : d = 4
  · rw [if_pos h4] at hu
    subst hu
    subst h4
    have HX := Lib.hid (Protect_s a p HL.out)
    clear HL HP HSR HAT HST
    go_enter Try.func17, Try.ntmps17
    go_wp2_with fail
    refine HX.out.mono ?_
    rintro e w2 ⟨rfl, hw⟩
    have HE := Lib.hid (HBOX.out _ w2 ⟨rfl, hw⟩)
    clear hw HX HBOX
    go_wp2_with fail
    first | go_ret2 | skip
    exact HE.out
  rw [if_neg h4] at hu
  by_cases h5 : d = 5
  · rw [if_pos h5] at hu
    subst hu
    subst h5
    have HX := Lib.hid (Write_s HAT.out HL.out HSR.out HP.out)
    clear HL HP HSR HAT HST
    go_enter Try.func17, Try.ntmps17
    go_wp2_with fail
    refine HX.out.mono ?_
    rintro e w2 ⟨rfl, hw⟩
    have HE := Lib.hid (HBOX.out _ w2 ⟨rfl, hw⟩)
    clear hw HX HBOX
    go_wp2_with fail
    first | go_ret2 | skip
    exact HE.out
  rw [if_neg h5] at hu
  by_cases h6 : d = 6
  · rw [if_pos h6] at hu
    subst hu
    subst h6
    have HX := Lib.hid (Poke_s HAT.out HL.out HSR.out HP.out)
    clear HL HP HSR HAT HST
    go_enter Try.func17, Try.ntmps17
    go_wp2_with fail
    refine HX.out.mono ?_
    rintro e w2 ⟨rfl, hw⟩
    have HE := Lib.hid (HBOX.out _ w2 ⟨rfl, hw⟩)
    clear hw HX HBOX
    go_wp2_with fail
    first | go_ret2 | skip
    exact HE.out
  rw [if_neg h6] at hu
  by_cases h7 : d = 7
  · rw [if_pos h7] at hu
    subst hu
    subst h7
    have HX := Lib.hid (SetWord_s n HAT.out HL.out)
    clear HL HP HSR HAT HST
    go_enter Try.func17, Try.ntmps17
    go_wp2_with fail
    refine HX.out.mono ?_
    rintro e w2 ⟨rfl, hw⟩
    have HE := Lib.hid (HBOX.out _ w2 ⟨rfl, hw⟩)
    clear hw HX HBOX
    go_wp2_with fail
    first | go_ret2 | skip
    exact HE.out
  rw [if_neg h7] at hu
  by_cases h8 : d = 8
  · rw [if_pos h8] at hu
    subst hu
    subst h8
    have HX := Lib.hid (PokeWord_s n HAT.out HL.out)
    clear HL HP HSR HAT HST
    go_enter Try.func17, Try.ntmps17
    go_wp2_with fail
    refine HX.out.mono ?_
    rintro e w2 ⟨rfl, hw⟩
    have HE := Lib.hid (HBOX.out _ w2 ⟨rfl, hw⟩)
    clear hw HX HBOX
    go_wp2_with fail
    first | go_ret2 | skip
    exact HE.out
  rw [if_neg h8] at hu
  subst hu
  clear HL HP HSR HAT HBOX
  go_enter Try.func17, Try.ntmps17
  go_wp2_with fail
  first | go_ret2 | skip
  exact ⟨rfl, HST.out⟩
end Go.Proofs.Ytpgmapcpffefnaa
