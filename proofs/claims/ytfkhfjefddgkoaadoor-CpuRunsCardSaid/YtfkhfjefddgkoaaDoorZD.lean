/-
  An act of a script, done.
  A script in memory, played.
  What a new region is asked: plain facts.
  Calls and returns of the machine.
-/
import Derived.Test.YtfkhfjefddgkoaaDoorZSAg
namespace Go.Proofs.YtfkhfjefddgkoaaDoor
open Go.RowKit

structure Ac where
  do_ : Int
  at_ : Int
  n : Int
  perm : Int
  b : Str
def acells (x : Ac) (A : Option Addr) (c : Nat) : Array Value := #[.int .i64 x.do_, .int .i64 x.at_, .int .i64 x.n, .int .i64 x.perm, .slice A x.b.length c]
structure AcV (w : World) (P : Nat → Prop) (x : Ac) (A : Option Addr) (c : Nat) : Prop where
  src : Src w P A x.b.length c (cells x.b)
  len : x.b.length ≤ 140737488351232
  at_ : I64 x.at_
  n : I64 x.n
theorem AcV.keep {w w' : World} {P : Nat → Prop} {x : Ac} {A : Option Addr} {c : Nat} (h : AcV w P x A c) (hk : ∀ k, P k → k < w.heap.size → w'.heap[k]? = w.heap[k]?) : AcV w' P x A c := ⟨h.src.keep hk, h.len, h.at_, h.n⟩
def actS (ss : List Seg) (x : Ac) : Int × Int × List Seg :=
  if x.do_ = 1 then mapS ss x.n x.perm
  else if x.do_ = 2 then (0, mapAtS ss x.at_ x.n x.perm)
  else if x.do_ = 3 then (0, unmapS ss x.at_)
  else if x.do_ = 4 then (0, protS ss x.at_ x.perm)
  else if x.do_ = 5 then (0, storeS ss x.at_ x.b 2)
  else if x.do_ = 6 then (0, storeS ss x.at_ x.b 0)
  else if x.do_ = 7 then (0, storeS ss x.at_ (digs x.n 8) 2)
  else if x.do_ = 8 then (0, storeS ss x.at_ (digs x.n 8) 0)
  else (0, 0, ss)
theorem good_act {ss : List Seg} (h : Good ss) (x : Ac) : Good (actS ss x).2.2 := by
  unfold actS
  split
  · exact good_map_ h _ _
  split
  · exact good_mapAt h _ _ _
  split
  · exact good_unmap h _
  split
  · exact good_prot h _ _
  split
  · exact good_store h _ _ _
  split
  · exact good_store h _ _ _
  split
  · exact good_store h _ _ _
  split
  · exact good_store h _ _ _
  · exact h
/-- Behind an act. -/
def DidS (w : World) (B g : Nat) (F : Nat → Prop) (u : Int × Int × List Seg) (e : Ending) (w' : World) : Prop := e = .returned (.tuple #[.int .i64 u.1, .int .i64 u.2.1]) ∧ Went w w' B g F u.2.2
theorem DidS.box {w w' : World} {B g : Nat} {F : Nat → Prop} {u : Int × Int × List Seg} {e : Ending} (o : Obj) (h : DidS (w.alloc o) B g F u e w') : DidS w B g F u e w' := ⟨h.1, Went.then (Beside.alloc w o F) (fun _ h => .inl h) h.2⟩
set_option maxRecDepth 100000 in
set_option maxHeartbeats 4000000 in
theorem does_any {w : World} {B g : Nat} {F P : Nat → Prop} {ss : List Seg} (x : Ac) (A : Option Addr) (c : Nat) (h : Lies w B g F ss) (hv : AcV w P x A c) (hP : ∀ q, P q → ¬ F q ∧ q < w.heap.size) :
    Calls Tryd.prog 24 #[.pointer (some ⟨g, 0, none⟩), .agg (acells x A c)] w (DidS w B g F (actS ss x)) := by
  have hbx := (Below.refl w.heap.size w).alloc (Nat.le_refl _) (.cells (acells x A c) 68)
  have hl := h.below hbx
  have hP2 : ∀ q, P q → ¬ F q ∧ q < (w.alloc (.cells (acells x A c) 68)).heap.size := fun q hq => ⟨(hP q hq).1, Nat.lt_of_lt_of_le (hP q hq).2 hbx.size⟩
  have hV := hv.keep (w' := w.alloc (.cells (acells x A c) 68)) fun k _ hk => hbx.block k hk
  have hsrc := hV.src
  have hat := hV.at_
  have hu : actS ss x = if x.do_ = 1 then mapS ss x.n x.perm
    else if x.do_ = 2 then (0, mapAtS ss x.at_ x.n x.perm)
    else if x.do_ = 3 then (0, unmapS ss x.at_)
    else if x.do_ = 4 then (0, protS ss x.at_ x.perm)
    else if x.do_ = 5 then (0, storeS ss x.at_ x.b 2)
    else if x.do_ = 6 then (0, storeS ss x.at_ x.b 0)
    else if x.do_ = 7 then (0, storeS ss x.at_ (digs x.n 8) 2)
    else if x.do_ = 8 then (0, storeS ss x.at_ (digs x.n 8) 0)
    else (0, 0, ss) := rfl
  generalize actS ss x = u at *
  have HBOX := Lib.hid (fun e w' => DidS.box (w := w) (w' := w') (B := B) (g := g) (F := F) (u := u) (e := e) (.cells (acells x A c) 68))
  have HST := Lib.hid (Went.stay h hbx)
  have HL := Lib.hid hl
  have HP := Lib.hid hP2
  have HSR := Lib.hid hsrc
  have HAT := Lib.hid hat
  clear h hbx hV hv hP hl hP2 hsrc hat
  obtain ⟨d, a, n, p, b⟩ := x
  unfold acells at *
  simp only at *
  by_cases h1 : d = 1
  · rw [if_pos h1] at hu
    subst hu
    subst h1
    have HX := Lib.hid (Map_s n p HL.out)
    clear HL HP HSR HAT HST
    go_enter Tryd.func24, Tryd.ntmps24
    go_wp2_with fail
    refine HX.out.mono ?_
    rintro e w2 ⟨rfl, hw⟩
    have HE := Lib.hid (HBOX.out _ w2 ⟨rfl, hw⟩)
    clear hw HX HBOX
    go_wp2_with fail
    first | go_ret2 | skip
    exact HE.out
  rw [if_neg h1] at hu
  by_cases h2 : d = 2
  · rw [if_pos h2] at hu
    subst hu
    subst h2
    have HX := Lib.hid (MapAt_s a n p HL.out)
    clear HL HP HSR HAT HST
    go_enter Tryd.func24, Tryd.ntmps24
    go_wp2_with fail
    refine HX.out.mono ?_
    rintro e w2 ⟨rfl, hw⟩
    have HE := Lib.hid (HBOX.out _ w2 ⟨rfl, hw⟩)
    clear hw HX HBOX
    go_wp2_with fail
    first | go_ret2 | skip
    exact HE.out
  rw [if_neg h2] at hu
  by_cases h3 : d = 3
  · rw [if_pos h3] at hu
    subst hu
    subst h3
    have HX := Lib.hid (Unmap_s a HL.out)
    clear HL HP HSR HAT HST
    go_enter Tryd.func24, Tryd.ntmps24
    go_wp2_with fail
    refine HX.out.mono ?_
    rintro e w2 ⟨rfl, hw⟩
    have HE := Lib.hid (HBOX.out _ w2 ⟨rfl, hw⟩)
    clear hw HX HBOX
    go_wp2_with fail
    first | go_ret2 | skip
    exact HE.out
  rw [if_neg h3] at hu
  by_cases h4 : d = 4
  · rw [if_pos h4] at hu
    subst hu
    subst h4
    have HX := Lib.hid (Protect_s a p HL.out)
    clear HL HP HSR HAT HST
    go_enter Tryd.func24, Tryd.ntmps24
    go_wp2_with fail
    refine HX.out.mono ?_
    rintro e w2 ⟨rfl, hw⟩
    have HE := Lib.hid (HBOX.out _ w2 ⟨rfl, hw⟩)
    clear hw HX HBOX
    go_wp2_with fail
    first | go_ret2 | skip
    exact HE.out
  rw [if_neg h4] at hu
  by_cases h5 : d = 5
  · rw [if_pos h5] at hu
    subst hu
    subst h5
    have HX := Lib.hid (Write_s HAT.out HL.out HSR.out HP.out)
    clear HL HP HSR HAT HST
    go_enter Tryd.func24, Tryd.ntmps24
    go_wp2_with fail
    refine HX.out.mono ?_
    rintro e w2 ⟨rfl, hw⟩
    have HE := Lib.hid (HBOX.out _ w2 ⟨rfl, hw⟩)
    clear hw HX HBOX
    go_wp2_with fail
    first | go_ret2 | skip
    exact HE.out
  rw [if_neg h5] at hu
  by_cases h6 : d = 6
  · rw [if_pos h6] at hu
    subst hu
    subst h6
    have HX := Lib.hid (Poke_s HAT.out HL.out HSR.out HP.out)
    clear HL HP HSR HAT HST
    go_enter Tryd.func24, Tryd.ntmps24
    go_wp2_with fail
    refine HX.out.mono ?_
    rintro e w2 ⟨rfl, hw⟩
    have HE := Lib.hid (HBOX.out _ w2 ⟨rfl, hw⟩)
    clear hw HX HBOX
    go_wp2_with fail
    first | go_ret2 | skip
    exact HE.out
  rw [if_neg h6] at hu
  by_cases h7 : d = 7
  · rw [if_pos h7] at hu
    subst hu
    subst h7
    have HX := Lib.hid (SetWord_s n HAT.out HL.out)
    clear HL HP HSR HAT HST
    go_enter Tryd.func24, Tryd.ntmps24
    go_wp2_with fail
    refine HX.out.mono ?_
    rintro e w2 ⟨rfl, hw⟩
    have HE := Lib.hid (HBOX.out _ w2 ⟨rfl, hw⟩)
    clear hw HX HBOX
    go_wp2_with fail
    first | go_ret2 | skip
    exact HE.out
  rw [if_neg h7] at hu
  by_cases h8 : d = 8
  · rw [if_pos h8] at hu
    subst hu
    subst h8
    have HX := Lib.hid (PokeWord_s n HAT.out HL.out)
    clear HL HP HSR HAT HST
    go_enter Tryd.func24, Tryd.ntmps24
    go_wp2_with fail
    refine HX.out.mono ?_
    rintro e w2 ⟨rfl, hw⟩
    have HE := Lib.hid (HBOX.out _ w2 ⟨rfl, hw⟩)
    clear hw HX HBOX
    go_wp2_with fail
    first | go_ret2 | skip
    exact HE.out
  rw [if_neg h8] at hu
  subst hu
  clear HL HP HSR HAT HBOX
  go_enter Tryd.func24, Tryd.ntmps24
  go_wp2_with fail
  first | go_ret2 | skip
  exact ⟨rfl, HST.out⟩
end Go.Proofs.YtfkhfjefddgkoaaDoor

namespace Go.Proofs.YtfkhfjefddgkoaaDoor
open Go.RowKit

structure Acs (w : World) (P : Nat → Prop) (A : Option Addr) (n c : Nat) (xs : List Ac) : Prop where
  len : xs.length = n
  nil : A = none → n = 0 ∧ c = 0
  cap : n ≤ c
  blk : ∀ ad, A = some ad → 0 < n → P ad.block
  at_ : ∀ ad, A = some ad → ∀ i (hi : i < xs.length), ∃ Ai ci, AcV w P xs[i] Ai ci ∧ ∀ j u, (acells xs[i] Ai ci)[j]? = some u → w.cell? (ad.add (i * 5 + j)) = some u
theorem Acs.keep {w w' : World} {P : Nat → Prop} {A : Option Addr} {n c : Nat} {xs : List Ac} (h : Acs w P A n c xs) (hk : ∀ k, P k → k < w.heap.size → w'.heap[k]? = w.heap[k]?) : Acs w' P A n c xs :=
  ⟨h.len, h.nil, h.cap, h.blk, fun ad hA i hi => by
    obtain ⟨Ai, ci, h1, h2⟩ := h.at_ ad hA i hi
    refine ⟨Ai, ci, h1.keep hk, fun j u hu => ?_⟩
    have h3 := h2 j u hu
    have hb := h.blk ad hA (by rw [← h.len]; omega)
    rw [World.cell?_of_block (hk _ (by rw [addBlock]; exact hb) (World.block_lt_of_cell? w _ h3))]
    exact h3⟩
theorem Acs.cells {w : World} {P : Nat → Prop} {ad : Addr} {n c : Nat} {xs : List Ac} (h : Acs w P (some ad) n c xs) (k : Nat) (hk : k < xs.length) :
    ∃ b o Ai ci, ad = ⟨b, o, none⟩ ∧ AcV w P xs[k] Ai ci ∧ w.cell? ⟨b, o + k * 5, none⟩ = some (.int .i64 xs[k].do_) ∧ w.cell? ⟨b, o + k * 5 + 1, none⟩ = some (.int .i64 xs[k].at_) ∧
      w.cell? ⟨b, o + k * 5 + 2, none⟩ = some (.int .i64 xs[k].n) ∧ w.cell? ⟨b, o + k * 5 + 3, none⟩ = some (.int .i64 xs[k].perm) ∧ w.cell? ⟨b, o + k * 5 + 4, none⟩ = some (.slice Ai xs[k].b.length ci) := by
  obtain ⟨Ai, ci, hv, hcl⟩ := h.at_ ad rfl k hk
  obtain ⟨b, o, spot⟩ := ad
  have hs : spot = none := by
    obtain ⟨_, _, _, hc0⟩ := h.at_ _ rfl 0 (by omega)
    have h0 := World.cell?_spot (hc0 0 _ rfl)
    simpa [Addr.add] using h0
  subst hs
  have f : ∀ j u, (acells xs[k] Ai ci)[j]? = some u → w.cell? ⟨b, o + (k * 5 + j), none⟩ = some u := fun j u hu => by rw [← plainAdd]; exact hcl j u hu
  exact ⟨b, o, Ai, ci, rfl, hv, f 0 _ rfl, f 1 _ rfl, f 2 _ rfl, f 3 _ rfl, f 4 _ rfl⟩
def playS (ss : List Seg) (xs : List Ac) : List Seg := xs.foldl (fun ss x => (actS ss x).2.2) ss
theorem playS_snoc (ss : List Seg) (xs : List Ac) (k : Nat) (hk : k < xs.length) : playS ss (xs.take (k + 1)) = (actS (playS ss (xs.take k)) xs[k]).2.2 := by
  unfold playS
  rw [List.take_succ_eq_append_getElem hk, List.foldl_append]
  rfl
theorem good_play (xs : List Ac) : ∀ {ss : List Seg}, Good ss → Good (playS ss xs) := by
  induction xs with
  | nil => exact fun h => h
  | cons x xs ih => exact fun h => ih (good_act h x)
def PlayedS (w0 : World) (xs : List Ac) (e : Ending) (w' : World) : Prop := ∃ g, e = .returned (.pointer (some ⟨g, 0, none⟩)) ∧ Ws w0 w' g (playS [] xs)
end Go.Proofs.YtfkhfjefddgkoaaDoor

namespace Go.Proofs.YtfkhfjefddgkoaaDoor
open Go.RowKit

theorem ins_len (x : Seg) : ∀ ss, (insS x ss).length = ss.length + 1
  | [] => rfl
  | s :: ss => by
    unfold insS
    split
    · rfl
    · rw [List.length_cons, ins_len x ss, List.length_cons]
theorem mem_ins (x : Seg) : ∀ ss, x ∈ insS x ss
  | [] => List.mem_singleton.2 rfl
  | s :: ss => by
    unfold insS
    split
    · exact List.mem_cons_self ..
    · exact List.mem_cons_of_mem _ (mem_ins x ss)
theorem ins_old {x s : Seg} : ∀ {ss : List Seg}, s ∈ ss → s ∈ insS x ss
  | y :: ss, h => by
    unfold insS
    split
    · exact List.mem_cons_of_mem _ h
    · rcases List.mem_cons.1 h with rfl | h
      · exact List.mem_cons_self ..
      · exact List.mem_cons_of_mem _ (ins_old h)
theorem del_ins {x : Seg} : ∀ {ss : List Seg}, (∀ s ∈ ss, s.at_ ≠ x.at_) → delS (insS x ss) x.at_ = ss
  | [], _ => by unfold insS delS; simp
  | s :: ss, h => by
    have h1 := h s (List.mem_cons_self ..)
    have hr : ∀ y ∈ ss, y.at_ ≠ x.at_ := fun y hy => h y (List.mem_cons_of_mem _ hy)
    have hall : ss.filter (fun s => decide (s.at_ ≠ x.at_)) = ss := List.filter_eq_self.2 fun y hy => by simpa using hr y hy
    unfold insS
    split
    · unfold delS
      rw [List.filter_cons_of_neg (by simp), List.filter_cons_of_pos (by simpa using h1), hall]
    · have ih := del_ins hr
      unfold delS at ih ⊢
      rw [List.filter_cons_of_pos (by simpa using h1), ih]
theorem hold_mem {ss : List Seg} (hg : Good ss) {x : Seg} (hx : x ∈ ss) {a n : Int} (hn : 1 ≤ n) (h1 : x.at_ ≤ a) (h2 : a + n ≤ x.at_ + x.size) : holdS ss a n = some x := by
  unfold holdS
  obtain ⟨k, hk, rfl⟩ := List.getElem_of_mem hx
  rw [List.find?_eq_some_iff_getElem]
  refine ⟨by unfold inS; simpa using ⟨h1, h2⟩, k, hk, rfl, fun j hj => ?_⟩
  have h3 := List.pairwise_iff_getElem.1 hg.next j k (by omega) hk hj
  unfold inS
  simp
  omega
theorem hold_in {ss : List Seg} {a n : Int} {x : Seg} (h : holdS ss a n = some x) : x ∈ ss ∧ x.at_ ≤ a ∧ a + n ≤ x.at_ + x.size := by
  unfold holdS at h
  have h1 := List.find?_some h
  unfold inS at h1
  exact ⟨List.mem_of_find?_eq_some h, by simpa using h1⟩
theorem free_not {ss : List Seg} (hg : Good ss) {a n : Int} (hn : 1 ≤ n) (hf : freeS ss a n) : ∀ s ∈ ss, s.at_ ≠ a := fun s hs e => by
  have := (hg.fit s hs).2.2.1
  rcases hf s hs with h | h <;> omega
theorem has_ins (x : Seg) (ss : List Seg) : hasS (insS x ss) x.at_ = true := by
  unfold hasS
  rw [List.any_eq_true]
  exact ⟨x, mem_ins x ss, by simp⟩
theorem has_none {ss : List Seg} {a : Int} (h : ∀ s ∈ ss, s.at_ ≠ a) : hasS ss a = false := by
  unfold hasS
  rw [List.any_eq_false]
  intro s hs
  simpa using h s hs
theorem and_zero (p : Int) : bits .and .i64 p 0 = 0 := by
  have h : (BitVec.ofInt 64 p &&& BitVec.ofInt 64 0) = 0#64 := by
    rw [show BitVec.ofInt 64 0 = 0#64 from rfl, BitVec.and_zero]
  unfold bits
  simp
  rfl
theorem and_one (p : Int) (hp : 0 ≤ p ∧ p ≤ 7) : (bits .and .i64 p 1 = 1 ↔ p % 2 = 1) := by
  have : p = 0 ∨ p = 1 ∨ p = 2 ∨ p = 3 ∨ p = 4 ∨ p = 5 ∨ p = 6 ∨ p = 7 := by omega
  rcases this with rfl | rfl | rfl | rfl | rfl | rfl | rfl | rfl <;> decide
theorem map_cases {ss : List Seg} (hg : Good ss) (s p : Int) : mapS ss s p = (0, 1, ss) ∨ mapS ss s p = (0, 3, ss) ∨ ∃ a, mapS ss s p = (a, 0, insS (newS a (up s) p) ss) ∧ (1 ≤ s ∧ s ≤ 1048576) ∧ (0 ≤ p ∧ p ≤ 7) ∧ gapS s 4096 ss = some a ∧ 4096 ≤ a ∧ a + up s ≤ 4294967296 ∧ a % 64 = 0 ∧ freeS ss a (up s) := by
  unfold mapS
  split
  · rename_i hb
    obtain ⟨h1, h2⟩ := (Bool.and_eq_true _ _).mp hb
    cases hgp : gapS s 4096 ss with
    | none => exact .inr (.inl rfl)
    | some a =>
      obtain ⟨g1, g2, g3, g4⟩ := gapS_free hg (fun x hx => (hg.fit x hx).1) hgp
      have g5 := g4 (by omega)
      have h3 := up_fit g5 g1 (size_of h1) (by omega)
      exact .inr (.inr ⟨a, rfl, size_of h1, perm_of h2, rfl, g1, h3.2.2.2.2.2, g5, freeS_up hg g5 g3⟩)
  · exact .inl rfl
theorem new_asks {ss : List Seg} (hg : Good ss) {a s p : Int} (hg' : Good (insS (newS a (up s) p) ss)) (hs : 1 ≤ s ∧ s ≤ 1048576) (hp : 0 ≤ p ∧ p ≤ 7) (hf : freeS ss a (up s)) :
    goesS (insS (newS a (up s) p) ss) a s 0 = 0 ∧ gotS (insS (newS a (up s) p) ss) a s = zeros s.toNat ∧ goesS (insS (newS a (up s) p) ss) a s 1 = (if p % 2 = 1 then 0 else 52) ∧
      unmapS (insS (newS a (up s) p) ss) a = (0, ss) ∧ unmapS ss a = (50, ss) := by
  have hu : s ≤ up s := by unfold up; omega
  have hh : holdS (insS (newS a (up s) p) ss) a s = some (newS a (up s) p) := hold_mem hg' (mem_ins _ _) hs.1 (Int.le_refl _) (by show a + s ≤ a + up s; omega)
  have hno : ∀ x ∈ ss, x.at_ ≠ a := free_not hg (by omega) hf
  refine ⟨?_, ?_, ?_, ?_, ?_⟩
  · unfold goesS
    rw [if_neg (by omega), hh]
    exact if_pos (and_zero p)
  · unfold gotS
    rw [hh]
    show (List.range s.toNat).map (fun _ => (0 : UInt8)) = zeros s.toNat
    unfold zeros
    rw [List.map_const', List.length_range]
  · unfold goesS
    rw [if_neg (by omega), hh]
    show (if bits .and .i64 p 1 = 1 then (0 : Int) else 52) = _
    by_cases h : p % 2 = 1
    · rw [if_pos h, if_pos ((and_one p hp).2 h)]
    · rw [if_neg h, if_neg fun e => h ((and_one p hp).1 e)]
  · unfold unmapS
    rw [if_pos (has_ins (newS a (up s) p) ss), show delS (insS (newS a (up s) p) ss) a = ss from del_ins (x := newS a (up s) p) hno]
  · unfold unmapS
    rw [if_neg (by rw [has_none hno]; decide)]
end Go.Proofs.YtfkhfjefddgkoaaDoor

namespace Go.Proofs.YtfkhfjefddgkoaaDoor
open Go.RowKit

/-- Behind what a machine did: its context and its space are these; nothing beside them has changed. -/
def Ran (w w' : World) (B g s : Nat) (F : Nat → Prop) (c : Cx) (ss : List Seg) : Prop :=
  ∃ F', Lies w' B s F' ss ∧ Mc w' g c s ∧ ¬ F' g ∧ Beside w w' (fun k => F k ∨ k = g) ∧ ∀ k, F' k → F k ∨ w.heap.size ≤ k
theorem Mc.draw {w : World} {g s : Nat} {c : Cx} (h : Mc w g c s) : Mc w.drew g c s := ⟨h.bx, h.len⟩
theorem Mc.lt {w : World} {g s : Nat} {c : Cx} (h : Mc w g c s) : g < w.heap.size := h.bx.lt
section
variable {w w1 w2 : World} {B g s : Nat} {F : Nat → Prop} {c c2 : Cx} {ss s2 : List Seg}
theorem Ran.refl (h : Lies w B s F ss) (hm : Mc w g c s) (hg : ¬ F g) : Ran w w B g s F c ss := ⟨F, h, hm, hg, Beside.refl _ _, fun _ hk => .inl hk⟩
theorem Ran.join {F1 : Nat → Prop} (b1 : Beside w w1 (fun k => F k ∨ k = g)) (k1 : ∀ k, F1 k → F k ∨ w.heap.size ≤ k) (h2 : Ran w1 w2 B g s F1 c2 s2) : Ran w w2 B g s F c2 s2 := by
  obtain ⟨F2, l2, m2, n2, b2, k2⟩ := h2
  refine ⟨F2, l2, m2, n2, ⟨b2.os.trans b1.os, b2.tape.trans b1.tape, b2.output.trans b1.output, Nat.le_trans b1.size b2.size, fun k hk hp => ?_⟩, fun k hk => ?_⟩
  · refine (b2.block k (Nat.lt_of_lt_of_le hk b1.size) fun h => ?_).trans (b1.block k hk hp)
    rcases h with h | h
    · rcases k1 k h with h | h
      · exact hp (.inl h)
      · omega
    · exact hp (.inr h)
  · rcases k2 k hk with h | h
    · exact k1 k h
    · exact .inr (Nat.le_trans b1.size h)
theorem Ran.then (h : Ran w w1 B g s F c ss) (h2 : ∀ F1, Lies w1 B s F1 ss → Mc w1 g c s → ¬ F1 g → Ran w1 w2 B g s F1 c2 s2) : Ran w w2 B g s F c2 s2 := by
  obtain ⟨F1, l1, m1, n1, b1, k1⟩ := h
  exact Ran.join b1 k1 (h2 F1 l1 m1 n1)
theorem Ran.quiet (h : Ran w w1 B g s F c ss) (hb : Below w1.heap.size w1 w2) : Ran w w2 B g s F c ss :=
  h.then fun F1 l1 m1 n1 => ⟨F1, l1.below hb, m1.below hb, n1, Beside.of_below hb _, fun _ hk => .inl hk⟩
theorem beside_cell (w : World) (g i : Nat) (v : Value) : Beside w (w.setCell ⟨g, i, none⟩ v) (fun k => k = g) :=
  ⟨rfl, rfl, rfl, by simp [World.setCell], fun k _ hk => Below.heap_setCell w ⟨g, i, none⟩ v k hk⟩
theorem Ran.jump (h : Ran w w1 B g s F c ss) (v : Int) : Ran w (w1.setCell ⟨g, 0, none⟩ (.int .i64 v)) B g s F (c.to v) ss :=
  h.then fun F1 l1 m1 n1 => ⟨F1, l1.beside (beside_cell w1 g 0 _) (fun _ hk e => n1 (e ▸ hk)), m1.jump v, n1, (beside_cell w1 g 0 _).weak fun _ _ hk => .inr hk, fun _ hk => .inl hk⟩
theorem Ran.set (h : Ran w w1 B g s F c ss) (a : Nat) (ha : a < 16) (v : Int) : Ran w (w1.setCell ⟨g, 2 + a, none⟩ (.int .i64 v)) B g s F (c.put (a : Int) v) ss :=
  h.then fun F1 l1 m1 n1 => ⟨F1, l1.beside (beside_cell w1 g (2 + a) _) (fun _ hk e => n1 (e ▸ hk)), m1.set a ha v, n1, (beside_cell w1 g (2 + a) _).weak fun _ _ hk => .inr hk, fun _ hk => .inl hk⟩
theorem Ran.went (hm : Mc w g c s) (hg : ¬ F g) (h : Went w w1 B s F s2) : Ran w w1 B g s F c s2 := by
  obtain ⟨F1, l1, b1, k1⟩ := h
  refine ⟨F1, l1, hm.beside b1 hg, fun hf => ?_, b1.weak fun _ _ hk => .inl hk, k1⟩
  rcases k1 g hf with h | h
  · exact hg h
  · have := hm.lt
    omega
theorem Ran.pre (hb : Below w.heap.size w w1) (h : Ran w1 w2 B g s F c ss) : Ran w w2 B g s F c ss := by
  obtain ⟨F2, l2, m2, n2, b2, k2⟩ := h
  exact ⟨F2, l2, m2, n2, ⟨b2.os.trans hb.os, b2.tape.trans hb.tape, b2.output.trans hb.output, Nat.le_trans hb.size b2.size, fun k hk hp => (b2.block k (Nat.lt_of_lt_of_le hk hb.size) hp).trans (hb.block k hk)⟩, fun k hk => (k2 k hk).imp id fun h => Nat.le_trans hb.size h⟩
theorem Ran.mach (h : Ran w w1 B g s F c ss) : Mc w1 g c s := h.choose_spec.2.1
end

theorem reg_put {c : Cx} (h : c.rs.length = 16) (a : Nat) (v : Int) (ha : a < 16) : (c.put (a : Int) v).reg (a : Int) = v := by
  unfold Cx.put Cx.reg
  simp [h, ha]
set_option maxHeartbeats 4000000 in
theorem call_any {w : World} {B g s : Nat} {F : Nat → Prop} {c : Cx} {ss : List Seg} (to : Int) (h : Lies w B s F ss) (hm : Mc w g c s) (hg : ¬ F g) :
    Calls Tryd.prog 96 #[.pointer (some ⟨g, 0, none⟩), .int .i64 to] w fun en w' => en = .returned (.int .i64 (callM ss c to).1) ∧ Ran w w' B g s F (callM ss c to).2.1 (callM ss c to).2.2 := by
  have hR0 := Ran.refl h hm hg
  have HR0 := Lib.hid hR0
  have hsp := w64_i64 (c.reg 15 - 8)
  have k1 := hm.at_ 15 (by omega)
  have k2 := hm.draw.at_ 15 (by omega)
  have f1 := hm.fro 17
  have f2 := hm.draw.fro 17
  simp only [Nat.reduceAdd] at k1 k2
  have HCM := Lib.hid (show callM ss c to = ((storeS ss (w64 (c.reg 15 - 8)) (digs c.pc 8) 2).1, (c.put 15 (w64 (c.reg 15 - 8))).to to, (storeS ss (w64 (c.reg 15 - 8)) (digs c.pc 8) 2).2) from rfl)
  generalize callM ss c to = cm at *
  clear h hm hg
  go_enter Tryd.func96, Tryd.ntmps96
  go_wp2_with fail
  go_region
  have HR1 := Lib.hid ((HR0.out.set 15 (by omega) (w64 (c.reg 15 - 8))).quiet (drew_below _))
  generalize (w.setCell ⟨g, 17, none⟩ (.int .i64 (w64 (c.reg 15 - 8)))).drew = w1 at *
  have h15 : (c.put 15 (w64 (c.reg 15 - 8))).reg 15 = w64 (c.reg 15 - 8) := reg_put (hR0.mach.len) 15 _ (by omega)
  generalize hc1 : c.put 15 (w64 (c.reg 15 - 8)) = c1 at *
  have hpc : c1.pc = c.pc := by rw [← hc1]; rfl
  generalize w64 (c.reg 15 - 8) = sp at *
  obtain ⟨F1, l1, m1, n1, b1, kk1⟩ := HR1.out
  have HJ := Lib.hid (fun (w2 : World) (c2 : Cx) (s2 : List Seg) (h2 : Ran w1 w2 B g s F1 c2 s2) => Ran.join (F := F) (w := w) b1 kk1 h2)
  have HSW := Lib.hid (show ∀ X, Below w1.heap.size w1 X → Calls Tryd.prog 59 #[.pointer (some ⟨s, 0, none⟩), .int .i64 sp, .int .i64 c.pc] X fun e w' => e = .returned (.int .i64 (storeS ss sp (digs c.pc 8) 2).1) ∧ Ran w1 w' B g s F1 c1 (storeS ss sp (digs c.pc 8) 2).2 from
    fun X hX => (SetWord_s c.pc hsp (l1.below hX)).mono fun _ _ hh => ⟨hh.1, Ran.pre hX (Ran.went (m1.below hX) n1 hh.2)⟩)
  have HKE := Lib.hid (show ∀ X, Mc X g c1 s → (X.cell? ⟨g, 0, none⟩ = some (.int .i64 c.pc) ∧ X.cell? ⟨g, 17, none⟩ = some (.int .i64 sp) ∧ X.cell? ⟨g, 18, none⟩ = some (.pointer (some ⟨s, 0, none⟩))) from
    fun X hX => ⟨by rw [hX.pc, hpc], by have h := hX.at_ 15 (by omega); rw [show ((15 : Nat) : Int) = 15 from rfl, h15] at h; exact h, hX.space⟩)
  have HM1 := Lib.hid m1
  obtain ⟨q0, q1, q2⟩ := HKE.out _ m1
  clear k1 k2 f1 f2 hpc hsp hc1 h15 l1 m1 n1 b1 kk1 HR0 HR1
  go_wp2_with fail
  go_region_held3 (fun X => X.cell? ⟨g, 0, none⟩ = some (.int .i64 c.pc) ∧ X.cell? ⟨g, 17, none⟩ = some (.int .i64 sp) ∧ X.cell? ⟨g, 18, none⟩ = some (.pointer (some ⟨s, 0, none⟩))) (first | (exact ⟨by assumption, by assumption, by assumption⟩) | go_keep) (first
    | (go_at_call 59; (with_reducible refine (HSW.out _ (by first | assumption | exact below_draw6 (by assumption) | exact Below.refl _ _ | exact drew_below _)).mono ?_); rintro e w2 ⟨rfl, hr⟩; obtain ⟨p0, p1, p2⟩ := HKE.out _ hr.mach; have HR2 := Lib.hid hr; clear hr))
  all_goals
    have hr3 := HJ.out _ _ _ HR2.out
    have f3 := hr3.mach.fro 0
    have HR3 := Lib.hid (hr3.jump to)
    clear hr3
    go_wp2_with fail
    go_ret
    exact ⟨by rw [HCM.out]; rfl, by rw [HCM.out]; exact HR3.out⟩
end Go.Proofs.YtfkhfjefddgkoaaDoor
