/-
  An act of a script, done.
-/
import Derived.Test.YtmabhciijdceoaaDoorS
import Derived.Test.YtmabhciijdceoaaDoorY
namespace Go.Proofs.YtmabhciijdceoaaDoor
open Go.RowKit Go.Maps

structure Ac where
  do_ : Int
  a : Str
  b : Str
  by_ : Str
def acells (x : Ac) (A : Option Addr) (c : Nat) : Array Value := #[.int .i64 x.do_, str x.a, str x.b, .slice A x.by_.length c]
structure AcV (w : World) (P : Nat → Prop) (x : Ac) (A : Option Addr) (c : Nat) : Prop where
  by_ : Src w P A x.by_.length c (cells x.by_)
  la : x.a.length ≤ 9223372036854775807
  lb : x.b.length ≤ 9223372036854775807
  lby : x.by_.length ≤ 140737488351232
theorem AcV.keep {w w' : World} {P : Nat → Prop} {x : Ac} {A : Option Addr} {c : Nat} (h : AcV w P x A c) (hk : ∀ k, P k → k < w.heap.size → w'.heap[k]? = w.heap[k]?) : AcV w' P x A c := ⟨h.by_.keep hk, h.la, h.lb, h.lby⟩

def doesM (s : St) (x : Ac) : St × Int :=
  if x.do_ = 1 then mkdirM s x.a
  else if x.do_ = 2 then putM s x.a x.by_
  else if x.do_ = 3 then alsoM s x.a x.b
  else if x.do_ = 4 then symM s x.a x.b
  else if x.do_ = 5 then removeM s x.a
  else if x.do_ = 6 then renameM s x.a x.b
  else (s, 0)

theorem lent_src {w : World} {g : Nat} {l : Str} (h : w.heap[g]? = some (.cells (lentCells l).toArray 5 (0, 0))) : Src w (fun k => k = g) (some ⟨g, 0, none⟩) l.length (l.length + 3) (cells l) := by
  refine ⟨cells_len l, (by intro h; cases h), by omega, (by intro ad h _; cases h; rfl), fun ad hA j u hu => ?_⟩
  cases hA
  have hj : j < (cells l).length := (List.getElem?_eq_some_iff.1 hu).1
  have e : (⟨g, 0, none⟩ : Addr).add j = ⟨g, j, none⟩ := by
    unfold Addr.add
    split
    · rename_i h0; rw [h0]
    · simp
  rw [e, cell_of_row w g j _ _ _ h]
  simp only [List.getElem?_toArray, lentCells]
  rw [List.getElem?_append_left hj]
  exact hu

set_option maxRecDepth 100000 in
set_option maxHeartbeats 2000000 in
theorem does_any (B sb mb : Nat) (s : St) (x : Ac) (A : Option Addr) (c : Nat) (w : World) (h : Sto w sb mb s) (hg : Good s.d) (hv : AcV w (fun k => k < B) x A c) (hB : B ≤ sb ∧ B ≤ mb) (hp : s.puts ≤ 4611686018427387904) :
    Calls Tryd.prog 20 #[.pointer (some ⟨sb, 0, none⟩), .agg (acells x A c)] w (Does w sb mb (doesM s x)) := by
  have hbx := (Below.refl w.heap.size w).alloc (Nat.le_refl _) (.cells (acells x A c) 40)
  have hS := h.below hbx
  have hV := hv.keep (w' := w.alloc (.cells (acells x A c) 40)) fun k _ hk => hbx.block k hk
  have HBX := Lib.hid hbx
  have hlt := h.lt
  have hu : doesM s x = if x.do_ = 1 then mkdirM s x.a
    else if x.do_ = 2 then putM s x.a x.by_
    else if x.do_ = 3 then alsoM s x.a x.b
    else if x.do_ = 4 then symM s x.a x.b
    else if x.do_ = 5 then removeM s x.a
    else if x.do_ = 6 then renameM s x.a x.b
    else (s, 0) := rfl
  generalize doesM s x = u at *
  have hsz : (w.alloc (.cells (acells x A c) 40)).heap.size = w.heap.size + 1 := by simp
  obtain ⟨d, a, b, by_⟩ := x
  have la := hv.la
  have lb := hv.lb
  have lby := hv.lby
  unfold acells at *
  simp only at *
  clear h hbx hv
  by_cases h1 : d = 1
  · rw [if_pos h1] at hu
    subst hu
    subst h1
    have HX := Lib.hid (mkdir_any sb mb s a _ hS la)
    clear hS hV hsz hg
    go_enter Tryd.func20, Tryd.ntmps20
    go_wp2_with fail
    refine HX.out.mono ?_
    rintro e w2 hd
    obtain ⟨rfl, hs2, ht2⟩ := Does.behind HBX.out hd
    have HS2 := Lib.hid hs2
    have HT2 := Lib.hid ht2
    clear hd hs2 ht2 HX
    go_wp2
    go_ret
    exact ⟨rfl, HS2.out, HT2.out⟩
  rw [if_neg h1] at hu
  have b1 : (d == 1) = false := by simpa using h1
  by_cases h2 : d = 2
  · rw [if_pos h2] at hu
    subst h2
    subst hu
    have hbox : (w.alloc (.cells #[.int .i64 2, str a, str b, .slice A by_.length c] 40)).heap[w.heap.size]? = some (.cells #[.int .i64 2, str a, str b, .slice A by_.length c] 40 (0, 0)) := heap_alloc_new _ _
    have HBOX := Lib.hid hbox
    have HL := Lib.hid (lent_any (fun k => k < B) A by_.length c by_ _ hV.by_ lby)
    have HV := Lib.hid hV
    have HS0 := Lib.hid hS
    have HSZ := Lib.hid hsz
    have HLT := Lib.hid hlt
    have HB2 := Lib.hid hB
    have HPU := Lib.hid hp
    have HLA := Lib.hid la
    have HLY := Lib.hid lby
    clear hS hV hsz hg h1 hbox hlt hB hp la lb lby
    go_enter Tryd.func20, Tryd.ntmps20
    go_wp2_with fail
    refine HL.out.mono ?_
    rintro en w2 ⟨g, rfl, hcell, hbel, hgs⟩
    have hs2 := HS0.out.below hbel
    have hlt0 := HLT.out
    have hB0 := HB2.out
    have hsz0 := HSZ.out
    have hg2 : g < w2.heap.size := (Array.getElem?_eq_some_iff.1 hcell).1
    have hsz2 := hbel.size
    have HGS := Lib.hid (show w.heap.size < g by omega)
    have HP := Lib.hid (put_any sb mb s a by_ (fun k => k = g) (some ⟨g, 0, none⟩) (by_.length + 3) w2 hs2 HLA.out (lent_src hcell) HPU.out (by have := HLY.out; omega))
    have hbox2 := (hbel.block w.heap.size (by omega)).trans HBOX.out
    have hb21 : w2.cell? ⟨w.heap.size, 1, none⟩ = some (str a) := cell_of_row w2 w.heap.size 1 _ _ _ hbox2
    have HBOX2 := Lib.hid hbox2
    have HBEL := Lib.hid hbel
    have HCELL := Lib.hid hcell
    have HN := Lib.hid (show g ≠ sb ∧ g ≠ mb ∧ w.heap.size ≠ sb ∧ w.heap.size ≠ mb ∧ w.heap.size < w2.heap.size ∧ g < w2.heap.size ∧ ¬ g < B by omega)
    clear hbox2 hbel hcell hgs hs2 hlt0 hB0 hsz0 hg2 hsz2
    go_wp2_with fail
    refine HP.out.mono ?_
    rintro en w3 ⟨rfl, hs3, ht3⟩
    have hn := HN.out
    have hbox3 := (ht3.block w.heap.size hn.2.2.2.2.1 hn.2.2.1 hn.2.2.2.1).trans HBOX2.out
    have hcell3 := (ht3.block g hn.2.2.2.2.2.1 hn.1 hn.2.1).trans HCELL.out
    have hb33 : w3.cell? ⟨w.heap.size, 3, none⟩ = some (.slice A by_.length c) := cell_of_row w3 w.heap.size 3 _ _ _ hbox3
    have hv3 : Src w3 (fun k => k < B) A by_.length c (cells by_) := by
      have hlt0 := HLT.out
      have hB0 := HB2.out
      have h2 := HV.out.by_.keep (w' := w2) fun k _ hk => HBEL.out.block k hk
      have hsz2 := HBEL.out.size
      exact h2.keep (w' := w3) fun k hk hk2 => ht3.block k hk2 (by omega) (by omega)
    have HBK := Lib.hid (back_any' (fun k => k < B) g A by_.length c by_ w3 hv3 hcell3 hn.2.2.2.2.2.2 HLY.out)
    have HS3 := Lib.hid hs3
    have HT3 := Lib.hid ht3
    clear hn hbox3 hcell3 hv3 hs3 ht3
    go_wp2_with fail
    refine HBK.out.mono ?_
    rintro en w4 ⟨rfl, hg4⟩
    have HG4 := Lib.hid hg4
    clear hg4
    go_wp2
    go_ret
    have hn := HN.out
    have hlt0 := HLT.out
    have hsz0 := HSZ.out
    have hg4 := HG4.out
    have hs3 := HS3.out
    have hlt3 := hs3.lt
    have e1 : w4.heap[sb]? = w3.heap[sb]? := hg4.block sb hlt3.1 (by intro e; injection e with e; omega)
    have e2 : w4.heap[mb]? = w3.heap[mb]? := hg4.block mb hlt3.2 (by intro e; injection e with e; omega)
    have hT : Turn sb mb w w3 := ((Turn.of_below HBX.out (Nat.le_refl _)).trans (Turn.of_below HBEL.out (Nat.le_refl _))).trans HT3.out
    have hwg : w.heap.size < g := by have := HN.out; have := (Array.getElem?_eq_some_iff.1 HCELL.out).1; exact HGS.out
    refine ⟨rfl, hs3.keep e1 e2 ((Turn.of_grown (sb := g) hg4).ml hs3.ml (by omega) (by omega)), ⟨hg4.os.trans hT.os, hg4.tape.trans hT.tape, hg4.output.trans hT.output, Nat.le_trans hT.size hg4.size, fun k hk h1 h2 => ?_⟩⟩
    have hk3 : k < w3.heap.size := Nat.lt_of_lt_of_le hk hT.size
    exact (hg4.block k hk3 (by intro e; injection e with e; omega)).trans (hT.block k hk h1 h2)
  rw [if_neg h2] at hu
  have b2 : (d == 2) = false := by simpa using h2
  by_cases h3 : d = 3
  · rw [if_pos h3] at hu
    subst hu
    subst h3
    have HX := Lib.hid (also_any sb mb s a b _ hS la lb)
    clear hS hV hsz hg h1 h2
    go_enter Tryd.func20, Tryd.ntmps20
    go_wp2_with fail
    refine HX.out.mono ?_
    rintro e w2 hd
    obtain ⟨rfl, hs2, ht2⟩ := Does.behind HBX.out hd
    have HS2 := Lib.hid hs2
    have HT2 := Lib.hid ht2
    clear hd hs2 ht2 HX
    go_wp2
    go_ret
    exact ⟨rfl, HS2.out, HT2.out⟩
  rw [if_neg h3] at hu
  have b3 : (d == 3) = false := by simpa using h3
  by_cases h4 : d = 4
  · rw [if_pos h4] at hu
    subst hu
    subst h4
    have HX := Lib.hid (sym_any sb mb s a b _ hS la lb)
    clear hS hV hsz hg h1 h2 h3
    go_enter Tryd.func20, Tryd.ntmps20
    go_wp2_with fail
    refine HX.out.mono ?_
    rintro e w2 hd
    obtain ⟨rfl, hs2, ht2⟩ := Does.behind HBX.out hd
    have HS2 := Lib.hid hs2
    have HT2 := Lib.hid ht2
    clear hd hs2 ht2 HX
    go_wp2
    go_ret
    exact ⟨rfl, HS2.out, HT2.out⟩
  rw [if_neg h4] at hu
  have b4 : (d == 4) = false := by simpa using h4
  by_cases h5 : d = 5
  · rw [if_pos h5] at hu
    subst hu
    subst h5
    have HX := Lib.hid (remove_any sb mb s a _ hS hg la)
    clear hS hV hsz hg h1 h2 h3 h4
    go_enter Tryd.func20, Tryd.ntmps20
    go_wp2_with fail
    refine HX.out.mono ?_
    rintro e w2 hd
    obtain ⟨rfl, hs2, ht2⟩ := Does.behind HBX.out hd
    have HS2 := Lib.hid hs2
    have HT2 := Lib.hid ht2
    clear hd hs2 ht2 HX
    go_wp2
    go_ret
    exact ⟨rfl, HS2.out, HT2.out⟩
  rw [if_neg h5] at hu
  have b5 : (d == 5) = false := by simpa using h5
  by_cases h6 : d = 6
  · rw [if_pos h6] at hu
    subst hu
    subst h6
    have HX := Lib.hid (rename_any sb mb s a b _ hS la lb)
    clear hS hV hsz hg h1 h2 h3 h4 h5
    go_enter Tryd.func20, Tryd.ntmps20
    go_wp2_with fail
    refine HX.out.mono ?_
    rintro e w2 hd
    obtain ⟨rfl, hs2, ht2⟩ := Does.behind HBX.out hd
    have HS2 := Lib.hid hs2
    have HT2 := Lib.hid ht2
    clear hd hs2 ht2 HX
    go_wp2
    go_ret
    exact ⟨rfl, HS2.out, HT2.out⟩
  rw [if_neg h6] at hu
  have b6 : (d == 6) = false := by simpa using h6
  subst hu
  have HS := Lib.hid hS
  clear hS hV hsz hg h1 h2 h3 h4 h5 h6
  go_enter Tryd.func20, Tryd.ntmps20
  go_wp2
  go_ret
  exact ⟨rfl, HS.out, Turn.of_below HBX.out (Nat.le_refl _)⟩
end Go.Proofs.YtmabhciijdceoaaDoor
