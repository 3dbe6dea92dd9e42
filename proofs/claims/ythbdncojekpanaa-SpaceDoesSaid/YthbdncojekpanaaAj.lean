/-
  An act of a script, done.
  A script in memory, played.
-/
import Derived.Test.YthbdncojekpanaaAg
namespace Go.Proofs.Ythbdncojekpanaa
section
open Go.RowKit

structure Ac where
  do_ : Int
  at_ : Int
  n : Int
  perm : Int
  b : Str
def acells (x : Ac) (A : Option Addr) (c : Nat) : Array Value := #[.int .i64 x.do_, .int .i64 x.at_, .int .i64 x.n, .int .i64 x.perm, .slice A x.b.length c]
structure AcV (w : World) (P : Nat → Prop) (x : Ac) (A : Option Addr) (c : Nat) : Prop where
  src : Src w P A x.b.length c (cells x.b)
  len : x.b.length ≤ 140737488351232
  at_ : I64 x.at_
  n : I64 x.n
theorem AcV.keep {w w' : World} {P : Nat → Prop} {x : Ac} {A : Option Addr} {c : Nat} (h : AcV w P x A c) (hk : ∀ k, P k → k < w.heap.size → w'.heap[k]? = w.heap[k]?) : AcV w' P x A c := ⟨h.src.keep hk, h.len, h.at_, h.n⟩
def actS (ss : List Seg) (x : Ac) : Int × Int × List Seg :=
  if x.do_ = 1 then mapS ss x.n x.perm
  else if x.do_ = 2 then (0, mapAtS ss x.at_ x.n x.perm)
  else if x.do_ = 3 then (0, unmapS ss x.at_)
  else if x.do_ = 4 then (0, protS ss x.at_ x.perm)
  else if x.do_ = 5 then (0, storeS ss x.at_ x.b 2)
  else if x.do_ = 6 then (0, storeS ss x.at_ x.b 0)
  else if x.do_ = 7 then (0, storeS ss x.at_ (digs x.n 8) 2)
  else if x.do_ = 8 then (0, storeS ss x.at_ (digs x.n 8) 0)
  else (0, 0, ss)
theorem good_act {ss : List Seg} (h : Good ss) (x : Ac) : Good (actS ss x).2.2 := by
  unfold actS
  split
  · exact good_map_ h _ _
  split
  · exact good_mapAt h _ _ _
  split
  · exact good_unmap h _
  split
  · exact good_prot h _ _
  split
  · exact good_store h _ _ _
  split
  · exact good_store h _ _ _
  split
  · exact good_store h _ _ _
  split
  · exact good_store h _ _ _
  · exact h
/-- Behind an act. -/
def DidS (w : World) (B g : Nat) (F : Nat → Prop) (u : Int × Int × List Seg) (e : Ending) (w' : World) : Prop := e = .returned (.tuple #[.int .i64 u.1, .int .i64 u.2.1]) ∧ Went w w' B g F u.2.2
theorem DidS.box {w w' : World} {B g : Nat} {F : Nat → Prop} {u : Int × Int × List Seg} {e : Ending} (o : Obj) (h : DidS (w.alloc o) B g F u e w') : DidS w B g F u e w' := ⟨h.1, Went.then (Beside.alloc w o F) (fun _ h => .inl h) h.2⟩
set_option maxRecDepth 100000 in
set_option maxHeartbeats 4000000 in
theorem does_any {w : World} {B g : Nat} {F P : Nat → Prop} {ss : List Seg} (x : Ac) (A : Option Addr) (c : Nat) (h : Lies w B g F ss) (hv : AcV w P x A c) (hP : ∀ q, P q → ¬ F q ∧ q < w.heap.size) :
    Calls Try.prog 17 #[.pointer (some ⟨g, 0, none⟩), .agg (acells x A c)] w (DidS w B g F (actS ss x)) := by
  have hbx := (Below.refl w.heap.size w).alloc (Nat.le_refl _) (.cells (acells x A c) 33)
  have hl := h.below hbx
  have hP2 : ∀ q, P q → ¬ F q ∧ q < (w.alloc (.cells (acells x A c) 33)).heap.size := fun q hq => ⟨(hP q hq).1, Nat.lt_of_lt_of_le (hP q hq).2 hbx.size⟩
  have hV := hv.keep (w' := w.alloc (.cells (acells x A c) 33)) fun k _ hk => hbx.block k hk
  have hsrc := hV.src
  have hat := hV.at_
  have hu : actS ss x = if x.do_ = 1 then mapS ss x.n x.perm
    else if x.do_ = 2 then (0, mapAtS ss x.at_ x.n x.perm)
    else if x.do_ = 3 then (0, unmapS ss x.at_)
    else if x.do_ = 4 then (0, protS ss x.at_ x.perm)
    else if x.do_ = 5 then (0, storeS ss x.at_ x.b 2)
    else if x.do_ = 6 then (0, storeS ss x.at_ x.b 0)
    else if x.do_ = 7 then (0, storeS ss x.at_ (digs x.n 8) 2)
    else if x.do_ = 8 then (0, storeS ss x.at_ (digs x.n 8) 0)
    else (0, 0, ss) := rfl
  generalize actS ss x = u at *
  have HBOX := Lib.hid (fun e w' => DidS.box (w := w) (w' := w') (B := B) (g := g) (F := F) (u := u) (e := e) (.cells (acells x A c) 33))
  have HST := Lib.hid (Went.stay h hbx)
  have HL := Lib.hid hl
  have HP := Lib.hid hP2
  have HSR := Lib.hid hsrc
  have HAT := Lib.hid hat
  clear h hbx hV hv hP hl hP2 hsrc hat
  obtain ⟨d, a, n, p, b⟩ := x
  unfold acells at *
  simp only at *
  by_cases h1 : d = 1
  · rw [if_pos h1] at hu
    subst hu
    subst h1
    have HX := Lib.hid (Map_s n p HL.out)
    clear HL HP HSR HAT HST
    go_enter Try.func17, Try.ntmps17
    go_wp2_with fail
    refine HX.out.mono ?_
    rintro e w2 ⟨rfl, hw⟩
    have HE := Lib.hid (HBOX.out _ w2 ⟨rfl, hw⟩)
    clear hw HX HBOX
    go_wp2_with fail
    first | go_ret2 | skip
    exact HE.out
  rw [if_neg h1] at hu
  by_cases h2 : d = 2
  · rw [if_pos h2] at hu
    subst hu
    subst h2
    have HX := Lib.hid (MapAt_s a n p HL.out)
    clear HL HP HSR HAT HST
    go_enter Try.func17, Try.ntmps17
    go_wp2_with fail
    refine HX.out.mono ?_
    rintro e w2 ⟨rfl, hw⟩
    have HE := Lib.hid (HBOX.out _ w2 ⟨rfl, hw⟩)
    clear hw HX HBOX
    go_wp2_with fail
    first | go_ret2 | skip
    exact HE.out
  rw [if_neg h2] at hu
  by_cases h3 : d = 3
  · rw [if_pos h3] at hu
    subst hu
    subst h3
    have HX := Lib.hid (Unmap_s a HL.out)
    clear HL HP HSR HAT HST
    go_enter Try.func17, Try.ntmps17
    go_wp2_with fail
    refine HX.out.mono ?_
    rintro e w2 ⟨rfl, hw⟩
    have HE := Lib.hid (HBOX.out _ w2 ⟨rfl, hw⟩)
    clear hw HX HBOX
    go_wp2_with fail
    first | go_ret2 | skip
    exact HE.out
  rw [if_neg h3] at hu
  by_cases h4 : d = 4
  · rw [if_pos h4] at hu
    subst hu
    subst h4
    have HX := Lib.hid (Protect_s a p HL.out)
    clear HL HP HSR HAT HST
    go_enter Try.func17, Try.ntmps17
    go_wp2_with fail
    refine HX.out.mono ?_
    rintro e w2 ⟨rfl, hw⟩
    have HE := Lib.hid (HBOX.out _ w2 ⟨rfl, hw⟩)
    clear hw HX HBOX
    go_wp2_with fail
    first | go_ret2 | skip
    exact HE.out
  rw [if_neg h4] at hu
  by_cases h5 : d = 5
  · rw [if_pos h5] at hu
    subst hu
    subst h5
    have HX := Lib.hid (Write_s HAT.out HL.out HSR.out HP.out)
    clear HL HP HSR HAT HST
    go_enter Try.func17, Try.ntmps17
    go_wp2_with fail
    refine HX.out.mono ?_
    rintro e w2 ⟨rfl, hw⟩
    have HE := Lib.hid (HBOX.out _ w2 ⟨rfl, hw⟩)
    clear hw HX HBOX
    go_wp2_with fail
    first | go_ret2 | skip
    exact HE.out
  rw [if_neg h5] at hu
  by_cases h6 : d = 6
  · rw [if_pos h6] at hu
    subst hu
    subst h6
    have HX := Lib.hid (Poke_s HAT.out HL.out HSR.out HP.out)
    clear HL HP HSR HAT HST
    go_enter Try.func17, Try.ntmps17
    go_wp2_with fail
    refine HX.out.mono ?_
    rintro e w2 ⟨rfl, hw⟩
    have HE := Lib.hid (HBOX.out _ w2 ⟨rfl, hw⟩)
    clear hw HX HBOX
    go_wp2_with fail
    first | go_ret2 | skip
    exact HE.out
  rw [if_neg h6] at hu
  by_cases h7 : d = 7
  · rw [if_pos h7] at hu
    subst hu
    subst h7
    have HX := Lib.hid (SetWord_s n HAT.out HL.out)
    clear HL HP HSR HAT HST
    go_enter Try.func17, Try.ntmps17
    go_wp2_with fail
    refine HX.out.mono ?_
    rintro e w2 ⟨rfl, hw⟩
    have HE := Lib.hid (HBOX.out _ w2 ⟨rfl, hw⟩)
    clear hw HX HBOX
    go_wp2_with fail
    first | go_ret2 | skip
    exact HE.out
  rw [if_neg h7] at hu
  by_cases h8 : d = 8
  · rw [if_pos h8] at hu
    subst hu
    subst h8
    have HX := Lib.hid (PokeWord_s n HAT.out HL.out)
    clear HL HP HSR HAT HST
    go_enter Try.func17, Try.ntmps17
    go_wp2_with fail
    refine HX.out.mono ?_
    rintro e w2 ⟨rfl, hw⟩
    have HE := Lib.hid (HBOX.out _ w2 ⟨rfl, hw⟩)
    clear hw HX HBOX
    go_wp2_with fail
    first | go_ret2 | skip
    exact HE.out
  rw [if_neg h8] at hu
  subst hu
  clear HL HP HSR HAT HBOX
  go_enter Try.func17, Try.ntmps17
  go_wp2_with fail
  first | go_ret2 | skip
  exact ⟨rfl, HST.out⟩
end

section
open Go.RowKit

structure Acs (w : World) (P : Nat → Prop) (A : Option Addr) (n c : Nat) (xs : List Ac) : Prop where
  len : xs.length = n
  nil : A = none → n = 0 ∧ c = 0
  cap : n ≤ c
  blk : ∀ ad, A = some ad → 0 < n → P ad.block
  at_ : ∀ ad, A = some ad → ∀ i (hi : i < xs.length), ∃ Ai ci, AcV w P xs[i] Ai ci ∧ ∀ j u, (acells xs[i] Ai ci)[j]? = some u → w.cell? (ad.add (i * 5 + j)) = some u
theorem Acs.keep {w w' : World} {P : Nat → Prop} {A : Option Addr} {n c : Nat} {xs : List Ac} (h : Acs w P A n c xs) (hk : ∀ k, P k → k < w.heap.size → w'.heap[k]? = w.heap[k]?) : Acs w' P A n c xs :=
  ⟨h.len, h.nil, h.cap, h.blk, fun ad hA i hi => by
    obtain ⟨Ai, ci, h1, h2⟩ := h.at_ ad hA i hi
    refine ⟨Ai, ci, h1.keep hk, fun j u hu => ?_⟩
    have h3 := h2 j u hu
    have hb := h.blk ad hA (by rw [← h.len]; omega)
    rw [World.cell?_of_block (hk _ (by rw [addBlock]; exact hb) (World.block_lt_of_cell? w _ h3))]
    exact h3⟩
theorem Acs.cells {w : World} {P : Nat → Prop} {ad : Addr} {n c : Nat} {xs : List Ac} (h : Acs w P (some ad) n c xs) (k : Nat) (hk : k < xs.length) :
    ∃ b o Ai ci, ad = ⟨b, o, none⟩ ∧ AcV w P xs[k] Ai ci ∧ w.cell? ⟨b, o + k * 5, none⟩ = some (.int .i64 xs[k].do_) ∧ w.cell? ⟨b, o + k * 5 + 1, none⟩ = some (.int .i64 xs[k].at_) ∧
      w.cell? ⟨b, o + k * 5 + 2, none⟩ = some (.int .i64 xs[k].n) ∧ w.cell? ⟨b, o + k * 5 + 3, none⟩ = some (.int .i64 xs[k].perm) ∧ w.cell? ⟨b, o + k * 5 + 4, none⟩ = some (.slice Ai xs[k].b.length ci) := by
  obtain ⟨Ai, ci, hv, hcl⟩ := h.at_ ad rfl k hk
  obtain ⟨b, o, spot⟩ := ad
  have hs : spot = none := by
    obtain ⟨_, _, _, hc0⟩ := h.at_ _ rfl 0 (by omega)
    have h0 := World.cell?_spot (hc0 0 _ rfl)
    simpa [Addr.add] using h0
  subst hs
  have f : ∀ j u, (acells xs[k] Ai ci)[j]? = some u → w.cell? ⟨b, o + (k * 5 + j), none⟩ = some u := fun j u hu => by rw [← plainAdd]; exact hcl j u hu
  exact ⟨b, o, Ai, ci, rfl, hv, f 0 _ rfl, f 1 _ rfl, f 2 _ rfl, f 3 _ rfl, f 4 _ rfl⟩
def playS (ss : List Seg) (xs : List Ac) : List Seg := xs.foldl (fun ss x => (actS ss x).2.2) ss
theorem playS_snoc (ss : List Seg) (xs : List Ac) (k : Nat) (hk : k < xs.length) : playS ss (xs.take (k + 1)) = (actS (playS ss (xs.take k)) xs[k]).2.2 := by
  unfold playS
  rw [List.take_succ_eq_append_getElem hk, List.foldl_append]
  rfl
theorem good_play (xs : List Ac) : ∀ {ss : List Seg}, Good ss → Good (playS ss xs) := by
  induction xs with
  | nil => exact fun h => h
  | cons x xs ih => exact fun h => ih (good_act h x)
def PlayedS (w0 : World) (xs : List Ac) (e : Ending) (w' : World) : Prop := ∃ g, e = .returned (.pointer (some ⟨g, 0, none⟩)) ∧ Ws w0 w' g (playS [] xs)
set_option maxHeartbeats 2000000 in
set_option maxRecDepth 100000 in
theorem played_any (Ap : Option Addr) (n cp : Nat) (xs : List Ac) (w0 w : World) (hb : Below w0.heap.size w0 w) (h : Acs w0 (fun k => k < w0.heap.size) Ap n cp xs) (hn : n ≤ 140737488351232) :
    Calls Try.prog 21 #[.slice Ap n cp] w (PlayedS w0 xs) := by
  have HL := Lib.hid h.len
  have HN := Lib.hid (New_w w0 w hb)
  have HX := Lib.hid h
  generalize hL : PlayedS w0 xs = L at *
  have HLL := Lib.hid hL
  clear h hb hL
  go_enter Try.func21, Try.ntmps21
  go_wp2_with fail
  refine HN.out.mono ?_
  rintro en w1 ⟨rfl, h1⟩
  have H1 := Lib.hid h1
  clear h1 HN
  generalize w.heap.size = g at *
  go_wp2_with fail
  go_loopw [4] (fun i wr => ∃ k : Nat, k ≤ n ∧ i = .int .i64 k ∧ Ws w0 wr g (playS [] (xs.take k))) (fun i _ => n - (intOf i).toNat)
  case atStart => exact ⟨0, Nat.zero_le _, rfl, H1.out⟩
  case round =>
    obtain ⟨k, hk, rfl, hat⟩ := hrel
    by_cases hlt : k < n
    · have hkl : k < xs.length := by rw [HL.out]; exact hlt
      obtain ⟨ad, rfl⟩ : ∃ ad, Ap = some ad := by
        cases Ap with
        | none => have := (HX.out.nil rfl).1; omega
        | some ad => exact ⟨ad, rfl⟩
      obtain ⟨b, o, Ai, ci, rfl, hv, k0, k1, k2, k3, k4⟩ := (HX.out.keep fun k hk _ => hat.1.block k hk).cells k hkl
      have hcp := HX.out.cap
      have hsz := hat.1.size
      have HC := Lib.hid (hat.act (f := 17) (args := #[.pointer (some ⟨g, 0, none⟩), .agg (acells xs[k] Ai ci)]) (v := .tuple #[.int .i64 (actS (playS [] (xs.take k)) xs[k]).1, .int .i64 (actS (playS [] (xs.take k)) xs[k]).2.1]) (ss' := (actS (playS [] (xs.take k)) xs[k]).2.2) fun F hl => does_any xs[k] Ai ci hl hv fun q hq => ⟨fun hf => by have := (hl.lt hf).1; omega, by omega⟩)
      rw [← playS_snoc [] xs k hkl] at HC
      unfold acells at HC
      generalize (actS (playS [] (xs.take k)) xs[k]).1 = r0 at *
      generalize (actS (playS [] (xs.take k)) xs[k]).2.1 = r1 at *
      generalize hv0 : xs[k].do_ = x0 at *
      generalize hv1 : xs[k].at_ = x1 at *
      generalize hv2 : xs[k].n = x2 at *
      generalize hv3 : xs[k].perm = x3 at *
      generalize hv4 : xs[k].b.length = x4 at *
      clear hat hv hv0 hv1 hv2 hv3 hv4 hsz
      go_wp2_with (go_at_call 17; refine HC.out.mono ?_; rintro en w7 ⟨rfl, hw⟩; have HA := Lib.hid hw; clear hw)
      go_roundw
      case rel => exact ⟨k + 1, by omega, by go_num, HA.out⟩
      case measure => simp [intOf]; omega
    · obtain rfl : k = n := by omega
      have htk : xs.take k = xs := List.take_of_length_le (by rw [HL.out]; exact Nat.le_refl _)
      rw [htk] at hat
      have HAT := Lib.hid hat
      clear hat htk
      go_wp2
      first | go_ret | skip
      rw [← HLL.out]
      exact ⟨g, rfl, HAT.out⟩
end
end Go.Proofs.Ythbdncojekpanaa
