/- A part of the proof. -/
import Derived.Test.YtfljignkjmabpaaGreatZDB
import Derived.Laws.Tables
set_option linter.unusedSimpArgs false
set_option linter.unusedVariables false
namespace Go.Proofs.YtfljignkjmabpaaGreat
set_option maxRecDepth 100000
open Go.RowKit
theorem rblock_d {w : World} {B g : Nat} {s : St} (h : Rq w B g s) : Calls Tryz.prog 59 #[.pointer (some ⟨g, 0, none⟩)] w fun e w' => ∃ A c, e = .returned (.slice A (rMeas 4 1048576 s).1.length c) ∧ Src w' (fun k => k < B) A (rMeas 4 1048576 s).1.length c (cells (rMeas 4 1048576 s).1) ∧ Rq w' B g (rMeas 4 1048576 s).2 ∧ w.grownBy w' (some g) := by
 obtain ⟨A, c, k⟩ := h.ex
 refine (mblock_any _ g s A c w k).mono fun e w' hh => ?_
 obtain ⟨A', c', h1, h2, h3⟩ := hh
 exact ⟨A', c', h1, h2, h.of_is h3⟩
set_option maxHeartbeats 1000000 in
theorem dbytes_any (P : Nat → Prop) (A : Option Addr) (c : Nat) (l : Str) (w : World) (h : Src w P A l.length c (cells l)) (hl : l.length ≤ 1048576) :
  Calls Tryz.prog 58 #[.slice A l.length c] w fun e w' => ∃ A' c', e = .returned (.slice A' l.length c') ∧ w'.ownsRow w.heap.size 5 1 (.slice A' l.length c') l.length (cells l) ∧ Below w.heap.size w w' := by
 obtain ⟨i0, hi, hz0, hz1, hz2⟩ := info_parts Tryz.info_byte
 have HS := hD h
 have h1 := cells_one l
 have m1 : 0 + l.length ≤ maxLen := by simp only [maxLen]; omega
 have m2 : (0 + l.length) * 1 ≤ 140737488355328 := by omega
 clear h
 go_enter Tryz.func58, Tryz.ntmps58
 go_wp2_with (at_builtin; refine wpList_append_src rfl (.tmp 4) (.tmp 5) 22 rfl w.heap.size 5 i0 _ 1 Tryz.underlying22 hi hz0 hz1 hz2 rfl (.slice none 0 0) 0 [] rfl (World.ownsRow_nil _ _ _ _) _ _ _ _ (cells l) rfl HS.out h1 m1 m2 (Nat.le_refl _) ?_; intro v' w6 hown hg hat; obtain ⟨A6, c6, rfl⟩ := own_slice hown; have HB6 := hD (show Below w.heap.size w w6 from (Below.refl _ _).grown hg (Nat.le_refl _) (fun k hk => by cases hk)); simp only [Nat.zero_add, List.nil_append] at hown; have HO6 := hD hown; clear hown hg hat)
 go_ret
 exact ⟨A6, c6, by simp, HO6.out, HB6.out⟩
end Go.Proofs.YtfljignkjmabpaaGreat
namespace Go.Proofs.YtfljignkjmabpaaGreat
set_option maxRecDepth 100000
open Go.RowKit
structure Sv (g : Nat) (r : Option Nat) (w X : World) : Prop where
 os : X.os = w.os
 tape : X.tape = w.tape
 output : X.output = w.output
 size : w.heap.size ≤ X.heap.size
 block : ∀ k, k < w.heap.size → k ≠ g → some k ≠ r → X.heap[k]? = w.heap[k]?
section
variable {g gi B : Nat} {r : Option Nat} {w X X' w0 wl wr : World} {cs : Array Value} {s s' : St}
theorem Sv.drew (g : Nat) (r : Option Nat) (w : World) : Sv g r w w.drew := ⟨rfl, rfl, rfl, Nat.le_refl _, fun _ _ _ _ => rfl⟩
theorem Sv.trans {X2 : World} (h : Sv g r w X) (k : Sv g r X X2) : Sv g r w X2 :=
 ⟨k.os.trans h.os, k.tape.trans h.tape, k.output.trans h.output, Nat.le_trans h.size k.size, fun i hi h1 h2 => (k.block i (Nat.lt_of_lt_of_le hi h.size) h1 h2).trans (h.block i hi h1 h2)⟩
theorem Sv.below (h : Sv g r w X) (hb : Below X.heap.size X X') : Sv g r w X' :=
 h.trans ⟨hb.os, hb.tape, hb.output, hb.size, fun i hi _ _ => hb.block i hi⟩
theorem Sv.alloc (h : Sv g r w X) (o : Obj) : Sv g r w (X.alloc o) := h.below ((Below.refl _ _).alloc (Nat.le_refl _) o)
theorem Sv.grown (h : Sv g r w X) (k : X.grownBy X' (some g)) : Sv g r w X' :=
 h.trans ⟨k.os, k.tape, k.output, k.size, fun i hi h1 _ => k.block i hi (fun e => h1 (by injection e))⟩
theorem Sv.row (h : Sv g r w X) (k : X.grownBy X' r) : Sv g r w X' :=
 h.trans ⟨k.os, k.tape, k.output, k.size, fun i hi _ h2 => k.block i hi h2⟩
theorem Sv.cell (h : Sv g r w X) {a : Addr} {v : Value} (hc : w.cell? a = some v) (h1 : a.block ≠ g) (h2 : some a.block ≠ r) : X.cell? a = some v :=
 (World.cell?_of_block (h.block a.block (World.block_lt_of_cell? w a hc) h1 h2)).trans hc
theorem Kr.of_grown (k : X.grownBy X' (some g)) : Kr gi g X X' := ⟨k.os, k.tape, k.output, k.size, fun i hi h1 _ => k.block i hi (fun e => h1 (by injection e))⟩
theorem Kr.of_row (k : X.grownBy X' r) (h : ∀ q, r = some q → w0.heap.size ≤ q) (h0 : Kr gi g w0 X) : Kr gi g w0 X' :=
 ⟨k.os.trans h0.os, k.tape.trans h0.tape, k.output.trans h0.output, Nat.le_trans h0.size k.size, fun i hi h1 h2 => (k.block i (Nat.lt_of_lt_of_le hi h0.size) (fun e => by have := h i e.symm; omega)).trans (h0.block i hi h1 h2)⟩
theorem Kr.of_set (gi : Nat) (g : Nat) (X : World) (f : Nat) (v : Value) : Kr gi g X (X.setCell ⟨gi, f, none⟩ v) :=
 ⟨rfl, rfl, rfl, (by simp [World.setCell]), fun i _ _ h2 => heap_setCell_other X ⟨gi, f, none⟩ i v h2⟩
structure Rc (w0 X : World) (B g gi : Nat) (cs : Array Value) (s : St) : Prop where
 rq : Rq X B g s
 bx : Bx X gi cs 40
 lt : g < gi
 gt : gi < w0.heap.size
 kr : Kr gi g w0 X
theorem Rc.call (h : Rc w0 X B g gi cs s) (hq : Rq X' B g s') (hg : X.grownBy X' (some g)) : Rc w0 X' B g gi cs s' :=
 ⟨hq, (hg.block gi h.bx.lt (fun e => by have := h.lt; injection e with e; omega)).trans h.bx, h.lt, h.gt, h.kr.trans (Kr.of_grown hg)⟩
theorem Rc.below (h : Rc w0 X B g gi cs s) (hb : Below X.heap.size X X') : Rc w0 X' B g gi cs s :=
 ⟨h.rq.below hb, h.bx.below hb, h.lt, h.gt, h.kr.trans (Kr.of_below hb)⟩
theorem Rc.grown (h : Rc w0 X B g gi cs s) (hg : X.grownBy X' r) (hr : ∀ q, r = some q → w0.heap.size ≤ q) : Rc w0 X' B g gi cs s := by
 have h1 := h.lt
 have h2 := h.gt
 have h3 := h.rq.ge
 have h4 := h.rq.le
 have hn : ∀ k, k ≤ gi → some k ≠ r := fun k hk e => by have := hr k e.symm; omega
 have h5 := h.rq.lt
 exact ⟨h.rq.keep hg.size (fun k hk => hg.block k (by omega) (hn k (by omega))) (hg.block g h5 (hn g (by omega))), (hg.block gi h.bx.lt (hn gi (Nat.le_refl _))).trans h.bx, h.lt, h.gt, Kr.of_row hg hr h.kr⟩
theorem Rc.set (h : Rc w0 X B g gi cs s) (f : Nat) (v : Value) : Rc w0 (X.setCell ⟨gi, f, none⟩ v) B g gi (cs.setIfInBounds f v) s := by
 have h1 := h.lt
 have h3 := h.rq.ge
 have ho : ∀ k, k ≠ gi → (X.setCell ⟨gi, f, none⟩ v).heap[k]? = X.heap[k]? := fun k hk => heap_setCell_other X ⟨gi, f, none⟩ k v hk
 exact ⟨h.rq.keep (by simp [World.setCell]) (fun k hk => ho k (by omega)) (ho g (by omega)), heap_setCell_same X gi f cs 40 v h.bx, h.lt, h.gt, h.kr.trans (Kr.of_set gi g X f v)⟩
theorem Rc.rebase (h : Rc w0 X B g gi cs s) : Rc X X B g gi cs s := ⟨h.rq, h.bx, h.lt, h.bx.lt, Kr.refl _ _ _⟩
theorem own_set {X : World} {base sz n f : Nat} {e : TypeId} {v u : Value} {xs : List Value} (h : X.ownsRow base e sz v n xs) (hb : gi < base) : (X.setCell ⟨gi, f, none⟩ u).ownsRow base e sz v n xs :=
 own_keep h fun k hk => heap_setCell_other X ⟨gi, f, none⟩ k u (by have := (h.lt k hk).1; intro e; simp only at e; omega)
end
def Mk {α : Type} (arr : α → Option Addr × Nat → Array Value) (d : α) (dat : World → (Nat → Prop) → α → Option Addr × Nat → Prop) (wl wr : World) (A : Option Addr) (n : Nat) (xs : List Value) (want : List α) : Prop :=
 ∃ Bs : Nat → Option Addr × Nat, n = want.length ∧ xs = flatE (fun i => arr (want.getD i d) (Bs i)) n ∧ ∀ i, i < n → dat wr (fun q => (wl.heap.size ≤ q ∧ q < wr.heap.size) ∧ row A ≠ some q) (want.getD i d) (Bs i)
def Stays {α : Type} (dat : World → (Nat → Prop) → α → Option Addr × Nat → Prop) : Prop :=
 ∀ (X X' : World) (P P' : Nat → Prop) (y : α) (b : Option Addr × Nat), dat X P y b → (∀ q, P q → q < X.heap.size → X'.heap[q]? = X.heap[q]?) → (∀ q, P q → q < X.heap.size → P' q) → dat X' P' y b
section
variable {α : Type} {arr : α → Option Addr × Nat → Array Value} {d : α} {dat : World → (Nat → Prop) → α → Option Addr × Nat → Prop} {wl wr X4 X5 : World} {A A5 : Option Addr} {n g gi f : Nat} {xs : List Value} {want : List α} {v : Value}
theorem Mk.nil (wl wr : World) (A : Option Addr) : Mk arr d dat wl wr A 0 [] [] := ⟨fun _ => (none, 0), rfl, rfl, fun i hi => by omega⟩
theorem Mk.push (hst : Stays dat) (h : Mk arr d dat wl wr A n xs want) (hk : Kr gi g wr X4) (hgr : X4.grownBy X5 (row A)) (hgi : gi < wl.heap.size) (hg : g < wl.heap.size) (hwl : wl.heap.size ≤ wr.heap.size)
  (hA : ∀ q, row A = some q → q < wr.heap.size) (hat : row A5 = row A ∨ row A5 = some X4.heap.size) {y : α} {b : Option Addr × Nat} (hi : dat X4 (fun q => wr.heap.size ≤ q ∧ q < X4.heap.size) y b) :
  Mk arr d dat wl (X5.setCell ⟨gi, f, none⟩ v) A5 (n + 1) (xs ++ (arr y b).toList) (want ++ [y]) := by
 obtain ⟨Bs, hn, hx, hd⟩ := h
 have z1 := hk.size
 have z2 := hgr.size
 have hsz : (X5.setCell ⟨gi, f, none⟩ v).heap.size = X5.heap.size := by simp [World.setCell]
 have ho : ∀ q, wl.heap.size ≤ q → q < X4.heap.size → row A ≠ some q → (X5.setCell ⟨gi, f, none⟩ v).heap[q]? = X4.heap[q]? := fun q h1 h2 h3 =>
  (heap_setCell_other X5 ⟨gi, f, none⟩ q v (by simp only; omega)).trans (hgr.block q h2 (Ne.symm h3))
 have hw : ∀ q, q < X4.heap.size → row A ≠ some q → row A5 ≠ some q := fun q h1 h2 => by
  rcases hat with e | e
  ·
   rw [e]; exact h2
  ·
   rw [e]; intro e2; injection e2 with e2; omega
 refine ⟨fun i => if i = n then b else Bs i, by rw [List.length_append, hn]; rfl, ?_, fun i hi' => ?_⟩
 ·
  show _ = flatE _ n ++ (arr ((want ++ [y]).getD n d) (if n = n then b else Bs n)).toList
  rw [if_pos rfl, getD_last hn, hx]
  congr 1
  exact flatE_congr n fun i hi => by simp only; rw [if_neg (by omega), getD_old (by omega)]
 ·
  by_cases hin : i = n
  ·
   subst hin
   simp only
   rw [if_pos trivial, getD_last hn]
   have hne : ∀ q, wr.heap.size ≤ q → row A ≠ some q := fun q hq e => by have := hA q e; omega
   exact hst _ _ _ _ _ _ hi (fun q hq _ => ho q (by omega) hq.2 (hne q hq.1)) (fun q hq _ => ⟨⟨by omega, by omega⟩, hw q hq.2 (hne q hq.1)⟩)
  ·
   simp only
   rw [if_neg hin, getD_old (by omega)]
   refine hst _ _ _ _ _ _ (hd i (by omega)) (fun q hq hl => ?_) (fun q hq hl => ⟨⟨hq.1.1, by omega⟩, hw q (by omega) hq.2⟩)
   rw [ho q hq.1.1 (by omega) hq.2]
   exact hk.block q hl (by omega) (by omega)
theorem Mk.els {e : TypeId} {sz c : Nat} (h : Mk arr d dat wl wr A n xs want) (hst : Stays dat) (hz : ∀ y b, (arr y b).size = sz) (ho : wr.ownsRow wl.heap.size e sz (.slice A n c) n xs) :
  ∃ Bs : Nat → Option Addr × Nat, n = want.length ∧ Els wr (fun k => wl.heap.size ≤ k ∧ k < wr.heap.size) A want.length c sz (fun i => arr (want.getD i d) (Bs i)) ∧ ∀ i, i < want.length → dat wr (fun k => wl.heap.size ≤ k ∧ k < wr.heap.size) (want.getD i d) (Bs i) := by
 obtain ⟨Bs, hn, hx, hd⟩ := h
 subst hn
 exact ⟨Bs, rfl, els_of_own (fun i _ => hz _ _) (hx ▸ ho), fun i hi => hst _ _ _ _ _ _ (hd i hi) (fun _ _ _ => rfl) (fun q hq _ => hq.1)⟩
end
end Go.Proofs.YtfljignkjmabpaaGreat
namespace Go.Proofs.YtfljignkjmabpaaGreat
set_option maxRecDepth 100000
open Go.RowKit
theorem wpl_store_row {ops : Array Oper} {rest : List Oper} {u v : Tmp} {ty q : TypeId} {s : String} {af : Array Edge} {a : Act} {w : World} {Q : Exit → Act → World → Prop} {r : Nat} {old cs : Array Value} (hb : Bx w r old ty) (hi : (Tryz.prog.info? ty).map (·.size) = some cs.size) (ho : old.size = cs.size) (h1 : cs.all (·.oneCell') = true)
  (hu : a.eval (.tmp u) = .pointer (some ⟨r, 0, none⟩)) (hv : a.eval (.tmp v) = .agg cs) (h : wpList Tryz.prog ops Q rest a (w.setRow r cs)) : wpList Tryz.prog ops Q (⟨none, .store ty (.tmp u) (.tmp v), q, s, af, none⟩ :: rest) a w :=
 wpList_plain rfl fun _ hK => wp_store_row ty _ _ rfl r cs hu hv ty old hb hi ho h1 (hK _ _ h)
theorem Tryz.info_sym9 : (Tryz.prog.info? 105).map (·.size) = some 9 := by kernel_rfl
theorem wpl_load_sym {ops : Array Oper} {rest : List Oper} {t u : Tmp} {q : TypeId} {s : String} {af : Array Edge} {a : Act} {w : World} {Q : Exit → Act → World → Prop} {r : Nat} {y : Sym} (hb : Bx w r (symA y) 105) (hu : a.eval (.tmp u) = .pointer (some ⟨r, 0, none⟩))
  (h : wpList Tryz.prog ops Q rest (a.put (some t) (.agg (symA y))) w) : wpList Tryz.prog ops Q (⟨some t, .load 105 (.tmp u), q, s, af, none⟩ :: rest) a w :=
 wpList_plain rfl fun _ hK => wp_load_row 105 _ rfl r hu 105 _ (0, 0) _ hb Tryz.underlying105 rfl Tryz.info_sym9 (hK _ _ h)
structure Q2 (w X : World) (B g : Nat) (c0 c1 : Array Value) (s : St) : Prop where
 rq : Rq X B g s
 b0 : Bx X w.heap.size c0 105
 b1 : Bx X (w.heap.size + 1) c1 105
 gr : w.grownBy X (some g)
 lt : g < w.heap.size
section
variable {w X X' : World} {B g : Nat} {c0 c1 : Array Value} {s s' : St}
theorem Q2.call (h : Q2 w X B g c0 c1 s) (hq : Rq X' B g s') (k : X.grownBy X' (some g)) : Q2 w X' B g c0 c1 s' := by
 have h1 := h.lt
 exact ⟨hq, (k.block _ h.b0.lt (fun e => by injection e with e; omega)).trans h.b0, (k.block _ h.b1.lt (fun e => by injection e with e; omega)).trans h.b1, grown_trans h.gr k, h1⟩
theorem Q2.set (h : Q2 w X B g c0 c1 s) (f : Nat) (v : Value) : Q2 w (X.setCell ⟨w.heap.size + 1, f, none⟩ v) B g c0 (c1.setIfInBounds f v) s := by
 have h1 := h.lt
 have h2 := h.rq.le
 have h3 := h.rq.ge
 have ho : ∀ k, k ≠ w.heap.size + 1 → (X.setCell ⟨w.heap.size + 1, f, none⟩ v).heap[k]? = X.heap[k]? := fun k hk => heap_setCell_other X ⟨w.heap.size + 1, f, none⟩ k v hk
 exact ⟨h.rq.keep (by simp [World.setCell]) (fun k hk => ho k (by omega)) (ho g (by omega)), (ho _ (by omega)).trans h.b0, heap_setCell_same X _ f c1 105 v h.b1,
  ⟨h.gr.os, h.gr.tape, h.gr.output, (by simpa [World.setCell] using h.gr.size), fun k hk hn => (ho k (by omega)).trans (h.gr.block k hk hn)⟩, h1⟩
theorem Q2.row (h : Q2 w X B g c0 c1 s) (cs : Array Value) : Q2 w (X.setRow w.heap.size cs) B g cs c1 s := by
 have h1 := h.lt
 have h2 := h.rq.le
 have h3 := h.rq.ge
 have ho : ∀ k, k ≠ w.heap.size → (X.setRow w.heap.size cs).heap[k]? = X.heap[k]? := fun k hk => setRow_other X w.heap.size k cs hk
 exact ⟨h.rq.keep (by simp [setRow_size]) (fun k hk => ho k (by omega)) (ho g (by omega)), setRow_heap X w.heap.size c0 cs 105 (0, 0) h.b0, (ho _ (by omega)).trans h.b1,
  ⟨h.gr.os, h.gr.tape, h.gr.output, (by simpa [setRow_size] using h.gr.size), fun k hk hn => (ho k (by omega)).trans (h.gr.block k hk hn)⟩, h1⟩
theorem Q2.drew (h : Q2 w X B g c0 c1 s) : Q2 w X.drew B g c0 c1 s := ⟨h.rq.below (drew_below X), h.b0.below (drew_below X), h.b1.below (drew_below X), grown_below h.gr (drew_below X), h.lt⟩
end
theorem rdSym_at (s : St) : ∃ (nm vr : Str) (a b c d e x y : Int) (u v t1 t2 : St), rMeas 2 4096 s = (nm, u) ∧ rMeas 2 4096 u = (vr, v) ∧ rdMany (rdNum 1) 5 v = ([a, b, c, d, e], false, t1) ∧ rdMany (rdNum 8) 2 t1 = ([x, y], false, t2) ∧
  rdSym s = (⟨nm, vr, bitOf c, a, bitOf d, b, bitOf e, x, y⟩, bitBad c || (bitBad d || bitBad e), t2) := by
 have H : ∀ s, ∃ (nm vr : Str) (a b c d e x y : Int) (u v p1 p2 p3 p4 t1 p6 t2 : St), rMeas 2 4096 s = (nm, u) ∧ rMeas 2 4096 u = (vr, v) ∧ rNum 1 v = (a, p1) ∧ rNum 1 p1 = (b, p2) ∧ rNum 1 p2 = (c, p3) ∧ rNum 1 p3 = (d, p4) ∧ rNum 1 p4 = (e, t1) ∧ rNum 8 t1 = (x, p6) ∧ rNum 8 p6 = (y, t2) :=
  fun s => ⟨_, _, _, _, _, _, _, _, _, _, _, _, _, _, _, _, _, _, rfl, rfl, rfl, rfl, rfl, rfl, rfl, rfl, rfl⟩
 obtain ⟨nm, vr, a, b, c, d, e, x, y, u, v, p1, p2, p3, p4, t1, p6, t2, h1, h2, h3, h4, h5, h6, h7, h8, h9⟩ := H s
 refine ⟨nm, vr, a, b, c, d, e, x, y, u, v, t1, t2, h1, h2, ?_, ?_, ?_⟩
 ·
  simp only [rdMany, rdNum, h3, h4, h5, h6, h7, Bool.false_or]
 ·
  simp only [rdMany, rdNum, h8, h9, Bool.false_or]
 ·
  simp only [rdSym, rdSymP, rdPair, rdText, rdNum, rdBit_eq, mkBit, h1, h2, h3, h4, h5, h6, h7, h8, h9, Bool.false_or, Bool.or_false, mkSym]
def Dsym (w : World) (B g : Nat) (r : Sym × Bool × St) (en : Ending) (w' : World) : Prop :=
 ∃ (y : Sym) (fine : Bool), en = .returned (.tuple #[.agg (symA y), .bool fine]) ∧ Rq w' B g r.2.2 ∧ w.grownBy w' (some g) ∧ (r.2.2.1 = 0 → y = r.1 ∧ fine = !r.2.1)
theorem Dsym.of {w w' : World} {B g : Nat} {r : Sym × Bool × St} {a : Sym} {b : Bool} {t : St} (hr : r = (a, b, t)) (y : Sym) (fine : Bool) (h2 : Rq w' B g t) (h3 : w.grownBy w' (some g)) (h4 : t.1 = 0 → y = a ∧ fine = !b) :
  Dsym w B g r (.returned (.tuple #[.agg (symA y), .bool fine])) w' := by
 subst hr
 exact ⟨y, fine, rfl, h2, h3, h4⟩
theorem five {L : List Int} (h : L.length ≤ 5) : (∃ a b c d e, L = [a, b, c, d, e]) ∨ L.length < 5 := by
 match L, h with
 | [], _ => exact .inr (by simp)
 | [_], _ => exact .inr (by simp)
 | [_, _], _ => exact .inr (by simp)
 | [_, _, _], _ => exact .inr (by simp)
 | [_, _, _, _], _ => exact .inr (by simp)
 | [a, b, c, d, e], _ => exact .inl ⟨a, b, c, d, e, rfl⟩
 | _ :: _ :: _ :: _ :: _ :: _ :: l, h => simp only [List.length_cons] at h; omega
theorem two_of {L : List Int} (h : L.length ≤ 2) : (∃ a b, L = [a, b]) ∨ L.length < 2 := by
 match L, h with
 | [], _ => exact .inr (by simp)
 | [_], _ => exact .inr (by simp)
 | [a, b], _ => exact .inl ⟨a, b, rfl⟩
 | _ :: _ :: _ :: l, h => simp only [List.length_cons] at h; omega
theorem three_of {L : List Int} (h : L.length ≤ 3) : (∃ a b c, L = [a, b, c]) ∨ L.length < 3 := by
 match L, h with
 | [], _ => exact .inr (by simp)
 | [_], _ => exact .inr (by simp)
 | [_, _], _ => exact .inr (by simp)
 | [a, b, c], _ => exact .inl ⟨a, b, c, rfl⟩
 | _ :: _ :: _ :: _ :: l, h => simp only [List.length_cons] at h; omega
theorem ints_cells {w : World} {base : Nat} {A : Option Addr} {n c : Nat} {L : List Int} (h : w.ownsRow base 3 1 (.slice A n c) n (ints L)) (hn : 0 < n) : ∃ q, A = some ⟨q, 0, none⟩ ∧ base ≤ q ∧ q < w.heap.size ∧ ∀ j, (hj : j < L.length) → w.cell? ⟨q, j, none⟩ = some (.int .i64 L[j]) := by
 obtain ⟨q, cap, hv, hb, hlt⟩ := h.form hn
 injection hv with h1 _ h2
 refine ⟨q, h1, hb, hlt, fun j hj => ?_⟩
 have := h.cells (g := q) (by rw [h1]; rfl) j (.int .i64 L[j]) (by simp [ints, hj])
 rw [plainAdd, Nat.zero_add] at this
 exact this
set_option maxHeartbeats 4000000 in
theorem dsymbol_any (B g : Nat) (s : St) (w : World) (h : Rq w B g s) : Calls Tryz.prog 61 #[.pointer (some ⟨g, 0, none⟩)] w (Dsym w B g (rdSym s)) := by
 obtain ⟨nm, vr, ka, kb, kc, kd, ke, vx, vy, u, v, t1, t2, h1, h2, h3, h4, h5⟩ := rdSym_at s
 have HR := hD h5
 have H3 := hD h3
 have H4 := hD h4
 have HT1 := hD h1
 have HT2 := hD h2
 have HNN := hD (rNum_nn (size := 1) (by decide))
 clear h1 h2 h3 h4 h5
 have hb1 : Below w.heap.size w (w.alloc (.cells (symA noSy) 105)) := (Below.refl _ _).alloc (Nat.le_refl _) _
 have hz1 : (w.alloc (.cells (symA noSy) 105)).heap.size = w.heap.size + 1 := by simp
 have hb2 : Below (w.heap.size + 1) (w.alloc (.cells (symA noSy) 105)) ((w.alloc (.cells (symA noSy) 105)).alloc (.cells (symA noSy) 105)) := (Below.refl _ _).alloc (by simp) _
 have hb := hb1.trans (hb2.mono (by omega))
 have hn2 := Bx.new (w.alloc (.cells (symA noSy) 105)) (symA noSy) 105
 rw [hz1] at hn2
 have HQ := hD (show Q2 w ((w.alloc (.cells (symA noSy) 105)).alloc (.cells (symA noSy) 105)) B g (symA noSy) (symA noSy) s from
  ⟨h.below hb, (Bx.new w (symA noSy) 105).below' hb2 (by omega), hn2, ⟨hb.os, hb.tape, hb.output, hb.size, fun k hk _ => hb.block k hk⟩, h.lt⟩)
 clear h hb1 hz1 hb2 hb hn2
 go_enter Tryz.func61, Tryz.ntmps61
 go_upto_region 2 with (fail)
 change Code.wp _ _ _ _ ((w.alloc (.cells (symA noSy) 105)).alloc (.cells (symA noSy) 105))
 generalize (w.alloc (.cells (symA noSy) 105)).alloc (.cells (symA noSy) 105) = w2 at *
 have HN := hD (rtext_d HQ.out.rq)
 rw [HT1.out] at HN
 go_upto_region 3 with (go_at_call 55; (with_reducible refine (HN.out).mono ?_); rintro en w3 ⟨rfl, hr, hg⟩; have H := hD (HQ.out.call hr hg); have k0 : w3.cell? ⟨w.heap.size + 1, 0, none⟩ = some (.string ⟨#[]⟩) := H.out.b1.c 0; have k1 := H.out.b1.f 0; clear hr hg)
 have HA := hD (show Q2 w (w3.setCell ⟨w.heap.size + 1, 0, none⟩ (str nm)) B g (symA noSy) (symA { noSy with name := nm }) u from H.out.set 0 (str nm))
 change Code.wp _ _ _ _ (w3.setCell ⟨w.heap.size + 1, 0, none⟩ (str nm))
 generalize w3.setCell ⟨w.heap.size + 1, 0, none⟩ (str nm) = w4 at *
 clear k0 k1 H HQ HN HT1
 have HN := hD (rtext_d HA.out.rq)
 rw [HT2.out] at HN
 go_upto_region 4 with (go_at_call 55; (with_reducible refine (HN.out).mono ?_); rintro en w5 ⟨rfl, hr, hg⟩; have H := hD (HA.out.call hr hg); have k0 : w5.cell? ⟨w.heap.size + 1, 1, none⟩ = some (.string ⟨#[]⟩) := H.out.b1.c 1; have k1 := H.out.b1.f 1; clear hr hg)
 have HB := hD (show Q2 w (w5.setCell ⟨w.heap.size + 1, 1, none⟩ (str vr)) B g (symA noSy) (symA { noSy with name := nm, ver := vr }) v from H.out.set 1 (str vr))
 change Code.wp _ _ _ _ (w5.setCell ⟨w.heap.size + 1, 1, none⟩ (str vr))
 generalize w5.setCell ⟨w.heap.size + 1, 1, none⟩ (str vr) = w6 at *
 clear k0 k1 H HA HN HT2 w4 w3
 have HN := hD (show Calls Tryz.prog 57 #[.pointer (some ⟨g, 0, none⟩), .int .i64 5, .int .i64 1] w6 _ from dlist_any B g v 1 5 w6 HB.out.rq (by omega))
 rw [H3.out] at HN
 go_upto_region 5 with (go_at_call 57; (with_reducible refine (HN.out).mono ?_); rintro en w7 ⟨A1, c1, L1, rfl, ho1, hl1, hr, hv1, hg⟩; have H := hD (HB.out.call hr hg); have HO1 := hD ho1; have HL1 := hD hl1; have HV1 := hD hv1; have HZ1 := hD hg.size; clear hr hg ho1 hl1 hv1)
 clear HN
 have HN := hD (show Calls Tryz.prog 57 #[.pointer (some ⟨g, 0, none⟩), .int .i64 2, .int .i64 8] w7 _ from dlist_any B g t1 8 2 w7 H.out.rq (by omega))
 rw [H4.out] at HN
 have HLO := hD (show w.heap.size + 1 < w6.heap.size from HB.out.b1.lt)
 have HGL := hD HB.out.lt
 go_upto_region 6 with (go_at_call 57; (with_reducible refine (HN.out).mono ?_); rintro en w8 ⟨A2, c2, L2, rfl, ho2, hl2, hr, hv2, hg⟩; have H8 := hD (H.out.call hr hg); have HO2 := hD ho2; have HL2 := hD hl2; have HV2 := hD hv2; have HO3 := hD (own_grown HO1.out hg (by have := HGL.out; have := HLO.out; omega)); have HS8 := hD hg.size; clear hr hg ho2 hl2 hv2)
 clear HN HO1 H HB
 have HW := hD (show t2.1 = 0 → t1.1 = 0 from fun h0 => by
  by_cases hs : t1.1 = 0
  ·
   exact hs
  ·
   have q := (rdMany_stop' (clean_num 8) (k := 0) (n := 2) (by omega) t1 hs).1
   rw [H4.out] at q
   rw [show t2 = t1 from q] at h0
   exact h0)
 clear H3 H4
 rcases five HL1.out with ⟨a, b, c, d, e, rfl⟩ | hlt
 ·
  rcases two_of HL2.out with ⟨x, y, rfl⟩ | hlt
  ·
   obtain ⟨q1, rfl, hq1, hq1l, hc1⟩ := ints_cells HO3.out (by simp)
   obtain ⟨q2, rfl, hq2, hq2l, hc2⟩ := ints_cells HO2.out (by simp)
   have HC0 := hD (show w8.cell? ⟨q1, 0, none⟩ = some (.int .i64 a) from hc1 0 (by simp))
   have HC1 := hD (show w8.cell? ⟨q1, 1, none⟩ = some (.int .i64 b) from hc1 1 (by simp))
   have HC2 := hD (show w8.cell? ⟨q1, 2, none⟩ = some (.int .i64 c) from hc1 2 (by simp))
   have HC3 := hD (show w8.cell? ⟨q1, 3, none⟩ = some (.int .i64 d) from hc1 3 (by simp))
   have HC4 := hD (show w8.cell? ⟨q1, 4, none⟩ = some (.int .i64 e) from hc1 4 (by simp))
   have HD0 := hD (show w8.cell? ⟨q2, 0, none⟩ = some (.int .i64 x) from hc2 0 (by simp))
   have HD1 := hD (show w8.cell? ⟨q2, 1, none⟩ = some (.int .i64 y) from hc2 1 (by simp))
   have hne : q1 ≠ w.heap.size := by have := HLO.out; omega
   have hne1 : q1 ≠ w.heap.size + 1 := by have := HLO.out; omega
   have hme1 : q2 ≠ w.heap.size + 1 := by have := HLO.out; have := HZ1.out; omega
   have HNE := hD (And.intro hne1 hme1)
   clear hc1 hc2 hq1 hq2 hq1l hq2l HO2 HO3 HL1 HL2
   go_upto_region 8 with (fail)
   have HX := hD H8.out
   clear H8
   have k0 : w8.cell? ⟨w.heap.size + 1, 3, none⟩ = some (.int .i64 0) := HX.out.b1.c 3
   have k1 := HX.out.b1.f 3
   have k2 := HC0.out
   go_upto_region 9 with (fail)
   have HX' := hD (show Q2 w (w8.setCell ⟨w.heap.size + 1, 3, none⟩ (.int .i64 a)) B g (symA noSy) (symA { noSy with name := nm, ver := vr, kind := a }) t2 from HX.out.set 3 _)
   change Code.wp _ _ _ _ (w8.setCell ⟨w.heap.size + 1, 3, none⟩ (.int .i64 a))
   replace HC0 := hD ((World.cell?_setCell_other w8 ⟨w.heap.size + 1, 3, none⟩ _ (.int .i64 a) (by simp only [ne_eq, Addr.mk.injEq, not_and]; intro e; exact absurd e.symm HNE.out.1)).trans HC0.out)
   replace HC1 := hD ((World.cell?_setCell_other w8 ⟨w.heap.size + 1, 3, none⟩ _ (.int .i64 a) (by simp only [ne_eq, Addr.mk.injEq, not_and]; intro e; exact absurd e.symm HNE.out.1)).trans HC1.out)
   replace HC2 := hD ((World.cell?_setCell_other w8 ⟨w.heap.size + 1, 3, none⟩ _ (.int .i64 a) (by simp only [ne_eq, Addr.mk.injEq, not_and]; intro e; exact absurd e.symm HNE.out.1)).trans HC2.out)
   replace HC3 := hD ((World.cell?_setCell_other w8 ⟨w.heap.size + 1, 3, none⟩ _ (.int .i64 a) (by simp only [ne_eq, Addr.mk.injEq, not_and]; intro e; exact absurd e.symm HNE.out.1)).trans HC3.out)
   replace HC4 := hD ((World.cell?_setCell_other w8 ⟨w.heap.size + 1, 3, none⟩ _ (.int .i64 a) (by simp only [ne_eq, Addr.mk.injEq, not_and]; intro e; exact absurd e.symm HNE.out.1)).trans HC4.out)
   replace HD0 := hD ((World.cell?_setCell_other w8 ⟨w.heap.size + 1, 3, none⟩ _ (.int .i64 a) (by simp only [ne_eq, Addr.mk.injEq, not_and]; intro e; exact absurd e.symm HNE.out.2)).trans HD0.out)
   replace HD1 := hD ((World.cell?_setCell_other w8 ⟨w.heap.size + 1, 3, none⟩ _ (.int .i64 a) (by simp only [ne_eq, Addr.mk.injEq, not_and]; intro e; exact absurd e.symm HNE.out.2)).trans HD1.out)
   generalize w8.setCell ⟨w.heap.size + 1, 3, none⟩ (.int .i64 a) = wa0 at *
   clear k0 k1 k2 HX
   have HX := HX'
   clear HX'
   have k0 : wa0.cell? ⟨w.heap.size + 1, 5, none⟩ = some (.int .i64 0) := HX.out.b1.c 5
   have k1 := HX.out.b1.f 5
   have k2 := HC1.out
   go_upto_region 10 with (fail)
   have HX' := hD (show Q2 w (wa0.setCell ⟨w.heap.size + 1, 5, none⟩ (.int .i64 b)) B g (symA noSy) (symA { noSy with name := nm, ver := vr, kind := a, vis := b }) t2 from HX.out.set 5 _)
   change Code.wp _ _ _ _ (wa0.setCell ⟨w.heap.size + 1, 5, none⟩ (.int .i64 b))
   replace HC0 := hD ((World.cell?_setCell_other wa0 ⟨w.heap.size + 1, 5, none⟩ _ (.int .i64 b) (by simp only [ne_eq, Addr.mk.injEq, not_and]; intro e; exact absurd e.symm HNE.out.1)).trans HC0.out)
   replace HC1 := hD ((World.cell?_setCell_other wa0 ⟨w.heap.size + 1, 5, none⟩ _ (.int .i64 b) (by simp only [ne_eq, Addr.mk.injEq, not_and]; intro e; exact absurd e.symm HNE.out.1)).trans HC1.out)
   replace HC2 := hD ((World.cell?_setCell_other wa0 ⟨w.heap.size + 1, 5, none⟩ _ (.int .i64 b) (by simp only [ne_eq, Addr.mk.injEq, not_and]; intro e; exact absurd e.symm HNE.out.1)).trans HC2.out)
   replace HC3 := hD ((World.cell?_setCell_other wa0 ⟨w.heap.size + 1, 5, none⟩ _ (.int .i64 b) (by simp only [ne_eq, Addr.mk.injEq, not_and]; intro e; exact absurd e.symm HNE.out.1)).trans HC3.out)
   replace HC4 := hD ((World.cell?_setCell_other wa0 ⟨w.heap.size + 1, 5, none⟩ _ (.int .i64 b) (by simp only [ne_eq, Addr.mk.injEq, not_and]; intro e; exact absurd e.symm HNE.out.1)).trans HC4.out)
   replace HD0 := hD ((World.cell?_setCell_other wa0 ⟨w.heap.size + 1, 5, none⟩ _ (.int .i64 b) (by simp only [ne_eq, Addr.mk.injEq, not_and]; intro e; exact absurd e.symm HNE.out.2)).trans HD0.out)
   replace HD1 := hD ((World.cell?_setCell_other wa0 ⟨w.heap.size + 1, 5, none⟩ _ (.int .i64 b) (by simp only [ne_eq, Addr.mk.injEq, not_and]; intro e; exact absurd e.symm HNE.out.2)).trans HD1.out)
   generalize wa0.setCell ⟨w.heap.size + 1, 5, none⟩ (.int .i64 b) = wa1 at *
   clear k0 k1 k2 HX
   have HX := HX'
   clear HX'
   have k0 : wa1.cell? ⟨w.heap.size + 1, 2, none⟩ = some (.bool false) := HX.out.b1.c 2
   have k1 := HX.out.b1.f 2
   have k2 := HC2.out
   go_upto_region 11 with (fail)
   have HX' := hD (show Q2 w (wa1.setCell ⟨w.heap.size + 1, 2, none⟩ (.bool (bitOf c))) B g (symA noSy) (symA { noSy with name := nm, ver := vr, kind := a, vis := b, old := bitOf c }) t2 from HX.out.set 2 _)
   change Code.wp _ _ _ _ (wa1.setCell ⟨w.heap.size + 1, 2, none⟩ (.bool (bitOf c)))
   replace HC0 := hD ((World.cell?_setCell_other wa1 ⟨w.heap.size + 1, 2, none⟩ _ (.bool (bitOf c)) (by simp only [ne_eq, Addr.mk.injEq, not_and]; intro e; exact absurd e.symm HNE.out.1)).trans HC0.out)
   replace HC1 := hD ((World.cell?_setCell_other wa1 ⟨w.heap.size + 1, 2, none⟩ _ (.bool (bitOf c)) (by simp only [ne_eq, Addr.mk.injEq, not_and]; intro e; exact absurd e.symm HNE.out.1)).trans HC1.out)
   replace HC2 := hD ((World.cell?_setCell_other wa1 ⟨w.heap.size + 1, 2, none⟩ _ (.bool (bitOf c)) (by simp only [ne_eq, Addr.mk.injEq, not_and]; intro e; exact absurd e.symm HNE.out.1)).trans HC2.out)
   replace HC3 := hD ((World.cell?_setCell_other wa1 ⟨w.heap.size + 1, 2, none⟩ _ (.bool (bitOf c)) (by simp only [ne_eq, Addr.mk.injEq, not_and]; intro e; exact absurd e.symm HNE.out.1)).trans HC3.out)
   replace HC4 := hD ((World.cell?_setCell_other wa1 ⟨w.heap.size + 1, 2, none⟩ _ (.bool (bitOf c)) (by simp only [ne_eq, Addr.mk.injEq, not_and]; intro e; exact absurd e.symm HNE.out.1)).trans HC4.out)
   replace HD0 := hD ((World.cell?_setCell_other wa1 ⟨w.heap.size + 1, 2, none⟩ _ (.bool (bitOf c)) (by simp only [ne_eq, Addr.mk.injEq, not_and]; intro e; exact absurd e.symm HNE.out.2)).trans HD0.out)
   replace HD1 := hD ((World.cell?_setCell_other wa1 ⟨w.heap.size + 1, 2, none⟩ _ (.bool (bitOf c)) (by simp only [ne_eq, Addr.mk.injEq, not_and]; intro e; exact absurd e.symm HNE.out.2)).trans HD1.out)
   generalize wa1.setCell ⟨w.heap.size + 1, 2, none⟩ (.bool (bitOf c)) = wa2 at *
   clear k0 k1 k2 HX
   have HX := HX'
   clear HX'
   have k0 : wa2.cell? ⟨w.heap.size + 1, 4, none⟩ = some (.bool false) := HX.out.b1.c 4
   have k1 := HX.out.b1.f 4
   have k2 := HC3.out
   go_upto_region 12 with (fail)
   have HX' := hD (show Q2 w (wa2.setCell ⟨w.heap.size + 1, 4, none⟩ (.bool (bitOf d))) B g (symA noSy) (symA { noSy with name := nm, ver := vr, kind := a, vis := b, old := bitOf c, weak := bitOf d }) t2 from HX.out.set 4 _)
   change Code.wp _ _ _ _ (wa2.setCell ⟨w.heap.size + 1, 4, none⟩ (.bool (bitOf d)))
   replace HC0 := hD ((World.cell?_setCell_other wa2 ⟨w.heap.size + 1, 4, none⟩ _ (.bool (bitOf d)) (by simp only [ne_eq, Addr.mk.injEq, not_and]; intro e; exact absurd e.symm HNE.out.1)).trans HC0.out)
   replace HC1 := hD ((World.cell?_setCell_other wa2 ⟨w.heap.size + 1, 4, none⟩ _ (.bool (bitOf d)) (by simp only [ne_eq, Addr.mk.injEq, not_and]; intro e; exact absurd e.symm HNE.out.1)).trans HC1.out)
   replace HC2 := hD ((World.cell?_setCell_other wa2 ⟨w.heap.size + 1, 4, none⟩ _ (.bool (bitOf d)) (by simp only [ne_eq, Addr.mk.injEq, not_and]; intro e; exact absurd e.symm HNE.out.1)).trans HC2.out)
   replace HC3 := hD ((World.cell?_setCell_other wa2 ⟨w.heap.size + 1, 4, none⟩ _ (.bool (bitOf d)) (by simp only [ne_eq, Addr.mk.injEq, not_and]; intro e; exact absurd e.symm HNE.out.1)).trans HC3.out)
   replace HC4 := hD ((World.cell?_setCell_other wa2 ⟨w.heap.size + 1, 4, none⟩ _ (.bool (bitOf d)) (by simp only [ne_eq, Addr.mk.injEq, not_and]; intro e; exact absurd e.symm HNE.out.1)).trans HC4.out)
   replace HD0 := hD ((World.cell?_setCell_other wa2 ⟨w.heap.size + 1, 4, none⟩ _ (.bool (bitOf d)) (by simp only [ne_eq, Addr.mk.injEq, not_and]; intro e; exact absurd e.symm HNE.out.2)).trans HD0.out)
   replace HD1 := hD ((World.cell?_setCell_other wa2 ⟨w.heap.size + 1, 4, none⟩ _ (.bool (bitOf d)) (by simp only [ne_eq, Addr.mk.injEq, not_and]; intro e; exact absurd e.symm HNE.out.2)).trans HD1.out)
   generalize wa2.setCell ⟨w.heap.size + 1, 4, none⟩ (.bool (bitOf d)) = wa3 at *
   clear k0 k1 k2 HX
   have HX := HX'
   clear HX'
   have k0 : wa3.cell? ⟨w.heap.size + 1, 6, none⟩ = some (.bool false) := HX.out.b1.c 6
   have k1 := HX.out.b1.f 6
   have k2 := HC4.out
   go_upto_region 13 with (fail)
   have HX' := hD (show Q2 w (wa3.setCell ⟨w.heap.size + 1, 6, none⟩ (.bool (bitOf e))) B g (symA noSy) (symA { noSy with name := nm, ver := vr, kind := a, vis := b, old := bitOf c, weak := bitOf d, dfd := bitOf e }) t2 from HX.out.set 6 _)
   change Code.wp _ _ _ _ (wa3.setCell ⟨w.heap.size + 1, 6, none⟩ (.bool (bitOf e)))
   replace HC0 := hD ((World.cell?_setCell_other wa3 ⟨w.heap.size + 1, 6, none⟩ _ (.bool (bitOf e)) (by simp only [ne_eq, Addr.mk.injEq, not_and]; intro e; exact absurd e.symm HNE.out.1)).trans HC0.out)
   replace HC1 := hD ((World.cell?_setCell_other wa3 ⟨w.heap.size + 1, 6, none⟩ _ (.bool (bitOf e)) (by simp only [ne_eq, Addr.mk.injEq, not_and]; intro e; exact absurd e.symm HNE.out.1)).trans HC1.out)
   replace HC2 := hD ((World.cell?_setCell_other wa3 ⟨w.heap.size + 1, 6, none⟩ _ (.bool (bitOf e)) (by simp only [ne_eq, Addr.mk.injEq, not_and]; intro e; exact absurd e.symm HNE.out.1)).trans HC2.out)
   replace HC3 := hD ((World.cell?_setCell_other wa3 ⟨w.heap.size + 1, 6, none⟩ _ (.bool (bitOf e)) (by simp only [ne_eq, Addr.mk.injEq, not_and]; intro e; exact absurd e.symm HNE.out.1)).trans HC3.out)
   replace HC4 := hD ((World.cell?_setCell_other wa3 ⟨w.heap.size + 1, 6, none⟩ _ (.bool (bitOf e)) (by simp only [ne_eq, Addr.mk.injEq, not_and]; intro e; exact absurd e.symm HNE.out.1)).trans HC4.out)
   replace HD0 := hD ((World.cell?_setCell_other wa3 ⟨w.heap.size + 1, 6, none⟩ _ (.bool (bitOf e)) (by simp only [ne_eq, Addr.mk.injEq, not_and]; intro e; exact absurd e.symm HNE.out.2)).trans HD0.out)
   replace HD1 := hD ((World.cell?_setCell_other wa3 ⟨w.heap.size + 1, 6, none⟩ _ (.bool (bitOf e)) (by simp only [ne_eq, Addr.mk.injEq, not_and]; intro e; exact absurd e.symm HNE.out.2)).trans HD1.out)
   generalize wa3.setCell ⟨w.heap.size + 1, 6, none⟩ (.bool (bitOf e)) = wa4 at *
   clear k0 k1 k2 HX
   have HX := HX'
   clear HX'
   have k0 : wa4.cell? ⟨w.heap.size + 1, 7, none⟩ = some (.int .i64 0) := HX.out.b1.c 7
   have k1 := HX.out.b1.f 7
   have k2 := HD0.out
   go_upto_region 14 with (fail)
   have HX' := hD (show Q2 w (wa4.setCell ⟨w.heap.size + 1, 7, none⟩ (.int .i64 x)) B g (symA noSy) (symA { noSy with name := nm, ver := vr, kind := a, vis := b, old := bitOf c, weak := bitOf d, dfd := bitOf e, val := x }) t2 from HX.out.set 7 _)
   change Code.wp _ _ _ _ (wa4.setCell ⟨w.heap.size + 1, 7, none⟩ (.int .i64 x))
   replace HC0 := hD ((World.cell?_setCell_other wa4 ⟨w.heap.size + 1, 7, none⟩ _ (.int .i64 x) (by simp only [ne_eq, Addr.mk.injEq, not_and]; intro e; exact absurd e.symm HNE.out.1)).trans HC0.out)
   replace HC1 := hD ((World.cell?_setCell_other wa4 ⟨w.heap.size + 1, 7, none⟩ _ (.int .i64 x) (by simp only [ne_eq, Addr.mk.injEq, not_and]; intro e; exact absurd e.symm HNE.out.1)).trans HC1.out)
   replace HC2 := hD ((World.cell?_setCell_other wa4 ⟨w.heap.size + 1, 7, none⟩ _ (.int .i64 x) (by simp only [ne_eq, Addr.mk.injEq, not_and]; intro e; exact absurd e.symm HNE.out.1)).trans HC2.out)
   replace HC3 := hD ((World.cell?_setCell_other wa4 ⟨w.heap.size + 1, 7, none⟩ _ (.int .i64 x) (by simp only [ne_eq, Addr.mk.injEq, not_and]; intro e; exact absurd e.symm HNE.out.1)).trans HC3.out)
   replace HC4 := hD ((World.cell?_setCell_other wa4 ⟨w.heap.size + 1, 7, none⟩ _ (.int .i64 x) (by simp only [ne_eq, Addr.mk.injEq, not_and]; intro e; exact absurd e.symm HNE.out.1)).trans HC4.out)
   replace HD0 := hD ((World.cell?_setCell_other wa4 ⟨w.heap.size + 1, 7, none⟩ _ (.int .i64 x) (by simp only [ne_eq, Addr.mk.injEq, not_and]; intro e; exact absurd e.symm HNE.out.2)).trans HD0.out)
   replace HD1 := hD ((World.cell?_setCell_other wa4 ⟨w.heap.size + 1, 7, none⟩ _ (.int .i64 x) (by simp only [ne_eq, Addr.mk.injEq, not_and]; intro e; exact absurd e.symm HNE.out.2)).trans HD1.out)
   generalize wa4.setCell ⟨w.heap.size + 1, 7, none⟩ (.int .i64 x) = wa5 at *
   clear k0 k1 k2 HX
   have HX := HX'
   clear HX'
   have k0 : wa5.cell? ⟨w.heap.size + 1, 8, none⟩ = some (.int .i64 0) := HX.out.b1.c 8
   have k1 := HX.out.b1.f 8
   have k2 := HD1.out
   go_upto_region 15 with (fail)
   have HX' := hD (show Q2 w (wa5.setCell ⟨w.heap.size + 1, 8, none⟩ (.int .i64 y)) B g (symA noSy) (symA { noSy with name := nm, ver := vr, kind := a, vis := b, old := bitOf c, weak := bitOf d, dfd := bitOf e, val := x, size := y }) t2 from HX.out.set 8 _)
   change Code.wp _ _ _ _ (wa5.setCell ⟨w.heap.size + 1, 8, none⟩ (.int .i64 y))
   replace HC0 := hD ((World.cell?_setCell_other wa5 ⟨w.heap.size + 1, 8, none⟩ _ (.int .i64 y) (by simp only [ne_eq, Addr.mk.injEq, not_and]; intro e; exact absurd e.symm HNE.out.1)).trans HC0.out)
   replace HC1 := hD ((World.cell?_setCell_other wa5 ⟨w.heap.size + 1, 8, none⟩ _ (.int .i64 y) (by simp only [ne_eq, Addr.mk.injEq, not_and]; intro e; exact absurd e.symm HNE.out.1)).trans HC1.out)
   replace HC2 := hD ((World.cell?_setCell_other wa5 ⟨w.heap.size + 1, 8, none⟩ _ (.int .i64 y) (by simp only [ne_eq, Addr.mk.injEq, not_and]; intro e; exact absurd e.symm HNE.out.1)).trans HC2.out)
   replace HC3 := hD ((World.cell?_setCell_other wa5 ⟨w.heap.size + 1, 8, none⟩ _ (.int .i64 y) (by simp only [ne_eq, Addr.mk.injEq, not_and]; intro e; exact absurd e.symm HNE.out.1)).trans HC3.out)
   replace HC4 := hD ((World.cell?_setCell_other wa5 ⟨w.heap.size + 1, 8, none⟩ _ (.int .i64 y) (by simp only [ne_eq, Addr.mk.injEq, not_and]; intro e; exact absurd e.symm HNE.out.1)).trans HC4.out)
   replace HD0 := hD ((World.cell?_setCell_other wa5 ⟨w.heap.size + 1, 8, none⟩ _ (.int .i64 y) (by simp only [ne_eq, Addr.mk.injEq, not_and]; intro e; exact absurd e.symm HNE.out.2)).trans HD0.out)
   replace HD1 := hD ((World.cell?_setCell_other wa5 ⟨w.heap.size + 1, 8, none⟩ _ (.int .i64 y) (by simp only [ne_eq, Addr.mk.injEq, not_and]; intro e; exact absurd e.symm HNE.out.2)).trans HD1.out)
   generalize wa5.setCell ⟨w.heap.size + 1, 8, none⟩ (.int .i64 y) = w9 at *
   clear k0 k1 k2 HX
   have HX := HX'
   clear HX'
   have HY := hD (show Q2 w w9 B g (symA noSy) (symA ⟨nm, vr, bitOf c, a, bitOf d, b, bitOf e, x, y⟩) t2 from HX.out)
   clear HX
   by_cases h2 : c < 2
   ·
    by_cases h3 : d < 2
    ·
     have hd2 : decide (c < 2) = true := decide_eq_true h2
     have hd3 : decide (d < 2) = true := decide_eq_true h3
     refine wp_region_held_drew (S := fun X => ∃ c0 : Array Value, c0.size = 9 ∧ Q2 w X B g c0 (symA ⟨nm, vr, bitOf c, a, bitOf d, b, bitOf e, x, y⟩) t2 ∧ ∀ k, k ≠ w.heap.size → X.heap[k]? = w9.heap[k]?) (by kernel_rfl) ⟨_, rfl, HY.out.drew, fun _ _ => rfl⟩ (fun hHeld0 => ?_)
     refine tjI 0 57 (.agg (symA ⟨nm, vr, bitOf c, a, bitOf d, b, bitOf e, x, y⟩)) ?_ ?_
     ·
      intro X hX; obtain ⟨c0, hc0, hq, hk⟩ := hX; have eq := hq.b1.c; have e0 := eq 0; have e1 := eq 1; have e2 := eq 2; have e3 := eq 3; have e4 := eq 4; have e5 := eq 5; have e6 := eq 6; have e7 := eq 7; have e8 := eq 8; clear eq; simp only [gA, gB, gC] at e0 e1 e2 e3 e4 e5 e6 e7 e8; go_simp
     (try simp only [Act.put, zI, zJ, zK])
     refine tkI 1 58 (.slice (some ⟨q1, 0, none⟩) 5 c1) ?_
     simp only [Act.put, zI, zJ, zK]
     refine tkI 2 59 (.pointer (some ⟨q1, 2, none⟩)) ?_
     simp only [Act.put, zI, zJ, zK]
     refine tjI 3 60 (.int .i64 c) ?_ ?_
     ·
      intro X hX; obtain ⟨c0, hc0, hq, hk⟩ := hX; have e2 := (World.cell?_of_block (hk q1 hne)).trans HC2.out; go_simp
     (try simp only [Act.put, zI, zJ, zK])
     refine tkI 4 61 (.bool true) ?_
     simp only [Act.put, zI, zJ, zK]
     refine tkI 5 62 (.bool true) ?_
     simp only [Act.put, zI, zJ, zK]
     refine tkI 6 63 (.slice (some ⟨q1, 0, none⟩) 5 c1) ?_
     simp only [Act.put, zI, zJ, zK]
     refine tkI 7 64 (.pointer (some ⟨q1, 3, none⟩)) ?_
     simp only [Act.put, zI, zJ, zK]
     refine tjI 8 65 (.int .i64 d) ?_ ?_
     ·
      intro X hX; obtain ⟨c0, hc0, hq, hk⟩ := hX; have e3 := (World.cell?_of_block (hk q1 hne)).trans HC3.out; go_simp
     (try simp only [Act.put, zI, zJ, zK])
     refine tkI 9 66 (.bool true) ?_
     simp only [Act.put, zI, zJ, zK]
     refine tkI 10 67 (.bool true) ?_
     simp only [Act.put, zI, zJ, zK]
     refine tkI 11 68 (.bool true) ?_
     simp only [Act.put, zI, zJ, zK]
     refine tkI 12 69 (.slice (some ⟨q1, 0, none⟩) 5 c1) ?_
     simp only [Act.put, zI, zJ, zK]
     refine tkI 13 70 (.pointer (some ⟨q1, 4, none⟩)) ?_
     simp only [Act.put, zI, zJ, zK]
     refine tjI 14 71 (.int .i64 e) ?_ ?_
     ·
      intro X hX; obtain ⟨c0, hc0, hq, hk⟩ := hX; have e4 := (World.cell?_of_block (hk q1 hne)).trans HC4.out; go_simp
     (try simp only [Act.put, zI, zJ, zK])
     refine tkI 15 72 (.bool (decide (e < 2))) ?_
     simp only [Act.put, zI, zJ, zK]
     refine tkI 16 73 (.bool (decide (e < 2))) ?_
     simp only [Act.put, zI, zJ, zK]
     refine rYI 17 fun K hK => ?_
     rw [if_pos (by rfl)]
     obtain ⟨c0, hc0, hq, hk⟩ := hHeld0
     refine wp_store_row 105 (.tmp 2) (.tmp 57) rfl w.heap.size (symA ⟨nm, vr, bitOf c, a, bitOf d, b, bitOf e, x, y⟩) rfl rfl 105 c0 hq.b0 Tryz.info_sym9 (by rw [hc0]; rfl) (by simp [Value.oneCell']) ?_
     have HZ := hD (hq.row (symA ⟨nm, vr, bitOf c, a, bitOf d, b, bitOf e, x, y⟩))
     refine hK.out _ _ ⟨_, rfl, hq.row _, fun k hne => (setRow_other _ _ _ _ hne).trans (hk k hne)⟩ (fun hHeldZ => ?_)
     clear hK K hq hk
     refine tkI 18 3 (.bool (decide (e < 2))) ?_
     simp only [Act.put, zI, zJ, zK]
     refine wpAnyH_done (by kernel_rfl) ?_ _
     generalize World.setRow (World.drew w9) w.heap.size (symA ⟨nm, vr, bitOf c, a, bitOf d, b, bitOf e, x, y⟩) = wz at *
     clear hHeldZ
     have eq := HZ.out.b0.c; have e0 := eq 0; have e1 := eq 1; have e2 := eq 2; have e3 := eq 3; have e4 := eq 4; have e5 := eq 5; have e6 := eq 6; have e7 := eq 7; have e8 := eq 8; clear eq
     simp only [gA, gB, gC] at e0 e1 e2 e3 e4 e5 e6 e7 e8
     go_wp2_with fail
     refine bodyPost_ret (v := .tuple #[.agg (symA ⟨nm, vr, bitOf c, a, bitOf d, b, bitOf e, x, y⟩), .bool (decide (e < 2))]) ?_ rfl (Dsym.of HR.out _ (decide (e < 2)) HZ.out.rq HZ.out.gr (fun h0 => ?_))
     ·
      rw [results_cell_tmp rfl]; go_simp
     ·
      have e1 := HV1.out (HW.out h0)
      have e2 := HV2.out h0
      simp only [List.cons.injEq, and_true] at e1 e2
      obtain ⟨rfl, rfl, rfl, rfl, rfl⟩ := e1
      obtain ⟨rfl, rfl⟩ := e2
      refine ⟨rfl, ?_⟩
      have b1 : bitBad c = false := decide_eq_false (by omega)
      have b2 : bitBad d = false := decide_eq_false (by omega)
      rw [b1, b2, Bool.false_or, Bool.false_or]
      unfold bitBad
      by_cases h5 : e < 2
      ·
       rw [decide_eq_true h5, decide_eq_false (show ¬ 1 < e by omega)]; rfl
      ·
       rw [decide_eq_false h5, decide_eq_true (show 1 < e by omega)]; rfl
    ·
     have hd2 : decide (c < 2) = true := decide_eq_true h2
     have hd3 : decide (d < 2) = false := decide_eq_false h3
     refine wp_region_held_drew (S := fun X => ∃ c0 : Array Value, c0.size = 9 ∧ Q2 w X B g c0 (symA ⟨nm, vr, bitOf c, a, bitOf d, b, bitOf e, x, y⟩) t2 ∧ ∀ k, k ≠ w.heap.size → X.heap[k]? = w9.heap[k]?) (by kernel_rfl) ⟨_, rfl, HY.out.drew, fun _ _ => rfl⟩ (fun hHeld0 => ?_)
     refine tjI 0 57 (.agg (symA ⟨nm, vr, bitOf c, a, bitOf d, b, bitOf e, x, y⟩)) ?_ ?_
     ·
      intro X hX; obtain ⟨c0, hc0, hq, hk⟩ := hX; have eq := hq.b1.c; have e0 := eq 0; have e1 := eq 1; have e2 := eq 2; have e3 := eq 3; have e4 := eq 4; have e5 := eq 5; have e6 := eq 6; have e7 := eq 7; have e8 := eq 8; clear eq; simp only [gA, gB, gC] at e0 e1 e2 e3 e4 e5 e6 e7 e8; go_simp
     (try simp only [Act.put, zI, zJ, zK])
     refine tkI 1 58 (.slice (some ⟨q1, 0, none⟩) 5 c1) ?_
     simp only [Act.put, zI, zJ, zK]
     refine tkI 2 59 (.pointer (some ⟨q1, 2, none⟩)) ?_
     simp only [Act.put, zI, zJ, zK]
     refine tjI 3 60 (.int .i64 c) ?_ ?_
     ·
      intro X hX; obtain ⟨c0, hc0, hq, hk⟩ := hX; have e2 := (World.cell?_of_block (hk q1 hne)).trans HC2.out; go_simp
     (try simp only [Act.put, zI, zJ, zK])
     refine tkI 4 61 (.bool true) ?_
     simp only [Act.put, zI, zJ, zK]
     refine tkI 5 62 (.bool true) ?_
     simp only [Act.put, zI, zJ, zK]
     refine tkI 6 63 (.slice (some ⟨q1, 0, none⟩) 5 c1) ?_
     simp only [Act.put, zI, zJ, zK]
     refine tkI 7 64 (.pointer (some ⟨q1, 3, none⟩)) ?_
     simp only [Act.put, zI, zJ, zK]
     refine tjI 8 65 (.int .i64 d) ?_ ?_
     ·
      intro X hX; obtain ⟨c0, hc0, hq, hk⟩ := hX; have e3 := (World.cell?_of_block (hk q1 hne)).trans HC3.out; go_simp
     (try simp only [Act.put, zI, zJ, zK])
     refine tkI 9 66 (.bool false) ?_
     simp only [Act.put, zI, zJ, zK]
     refine tkI 10 67 (.bool false) ?_
     simp only [Act.put, zI, zJ, zK]
     refine tkI 11 68 (.bool false) ?_
     simp only [Act.put, zI, zJ, zK]
     refine tnI 12 69 ?_
     simp only [Act.put, zI, zJ, zK]
     refine tnI 13 70 ?_
     simp only [Act.put, zI, zJ, zK]
     refine tnI 14 71 ?_
     simp only [Act.put, zI, zJ, zK]
     refine tnI 15 72 ?_
     simp only [Act.put, zI, zJ, zK]
     refine tkI 16 73 (.bool false) ?_
     simp only [Act.put, zI, zJ, zK]
     refine rYI 17 fun K hK => ?_
     rw [if_pos (by rfl)]
     obtain ⟨c0, hc0, hq, hk⟩ := hHeld0
     refine wp_store_row 105 (.tmp 2) (.tmp 57) rfl w.heap.size (symA ⟨nm, vr, bitOf c, a, bitOf d, b, bitOf e, x, y⟩) rfl rfl 105 c0 hq.b0 Tryz.info_sym9 (by rw [hc0]; rfl) (by simp [Value.oneCell']) ?_
     have HZ := hD (hq.row (symA ⟨nm, vr, bitOf c, a, bitOf d, b, bitOf e, x, y⟩))
     refine hK.out _ _ ⟨_, rfl, hq.row _, fun k hne => (setRow_other _ _ _ _ hne).trans (hk k hne)⟩ (fun hHeldZ => ?_)
     clear hK K hq hk
     refine tkI 18 3 (.bool false) ?_
     simp only [Act.put, zI, zJ, zK]
     refine wpAnyH_done (by kernel_rfl) ?_ _
     generalize World.setRow (World.drew w9) w.heap.size (symA ⟨nm, vr, bitOf c, a, bitOf d, b, bitOf e, x, y⟩) = wz at *
     clear hHeldZ
     have eq := HZ.out.b0.c; have e0 := eq 0; have e1 := eq 1; have e2 := eq 2; have e3 := eq 3; have e4 := eq 4; have e5 := eq 5; have e6 := eq 6; have e7 := eq 7; have e8 := eq 8; clear eq
     simp only [gA, gB, gC] at e0 e1 e2 e3 e4 e5 e6 e7 e8
     go_wp2_with fail
     refine bodyPost_ret (v := .tuple #[.agg (symA ⟨nm, vr, bitOf c, a, bitOf d, b, bitOf e, x, y⟩), .bool false]) ?_ rfl (Dsym.of HR.out _ false HZ.out.rq HZ.out.gr (fun h0 => ?_))
     ·
      rw [results_cell_tmp rfl]; go_simp
     ·
      have e1 := HV1.out (HW.out h0)
      have e2 := HV2.out h0
      simp only [List.cons.injEq, and_true] at e1 e2
      obtain ⟨rfl, rfl, rfl, rfl, rfl⟩ := e1
      obtain ⟨rfl, rfl⟩ := e2
      have b2 : bitBad d = true := decide_eq_true (by omega)
      exact ⟨rfl, by rw [b2]; simp⟩
   ·
    have hd2 : decide (c < 2) = false := decide_eq_false h2
    refine wp_region_held_drew (S := fun X => ∃ c0 : Array Value, c0.size = 9 ∧ Q2 w X B g c0 (symA ⟨nm, vr, bitOf c, a, bitOf d, b, bitOf e, x, y⟩) t2 ∧ ∀ k, k ≠ w.heap.size → X.heap[k]? = w9.heap[k]?) (by kernel_rfl) ⟨_, rfl, HY.out.drew, fun _ _ => rfl⟩ (fun hHeld0 => ?_)
    refine tjI 0 57 (.agg (symA ⟨nm, vr, bitOf c, a, bitOf d, b, bitOf e, x, y⟩)) ?_ ?_
    ·
     intro X hX; obtain ⟨c0, hc0, hq, hk⟩ := hX; have eq := hq.b1.c; have e0 := eq 0; have e1 := eq 1; have e2 := eq 2; have e3 := eq 3; have e4 := eq 4; have e5 := eq 5; have e6 := eq 6; have e7 := eq 7; have e8 := eq 8; clear eq; simp only [gA, gB, gC] at e0 e1 e2 e3 e4 e5 e6 e7 e8; go_simp
    (try simp only [Act.put, zI, zJ, zK])
    refine tkI 1 58 (.slice (some ⟨q1, 0, none⟩) 5 c1) ?_
    simp only [Act.put, zI, zJ, zK]
    refine tkI 2 59 (.pointer (some ⟨q1, 2, none⟩)) ?_
    simp only [Act.put, zI, zJ, zK]
    refine tjI 3 60 (.int .i64 c) ?_ ?_
    ·
     intro X hX; obtain ⟨c0, hc0, hq, hk⟩ := hX; have e2 := (World.cell?_of_block (hk q1 hne)).trans HC2.out; go_simp
    (try simp only [Act.put, zI, zJ, zK])
    refine tkI 4 61 (.bool false) ?_
    simp only [Act.put, zI, zJ, zK]
    refine tkI 5 62 (.bool false) ?_
    simp only [Act.put, zI, zJ, zK]
    refine tnI 6 63 ?_
    simp only [Act.put, zI, zJ, zK]
    refine tnI 7 64 ?_
    simp only [Act.put, zI, zJ, zK]
    refine tnI 8 65 ?_
    simp only [Act.put, zI, zJ, zK]
    refine tnI 9 66 ?_
    simp only [Act.put, zI, zJ, zK]
    refine tkI 10 67 (.bool false) ?_
    simp only [Act.put, zI, zJ, zK]
    refine tkI 11 68 (.bool false) ?_
    simp only [Act.put, zI, zJ, zK]
    refine tnI 12 69 ?_
    simp only [Act.put, zI, zJ, zK]
    refine tnI 13 70 ?_
    simp only [Act.put, zI, zJ, zK]
    refine tnI 14 71 ?_
    simp only [Act.put, zI, zJ, zK]
    refine tnI 15 72 ?_
    simp only [Act.put, zI, zJ, zK]
    refine tkI 16 73 (.bool false) ?_
    simp only [Act.put, zI, zJ, zK]
    refine rYI 17 fun K hK => ?_
    rw [if_pos (by rfl)]
    obtain ⟨c0, hc0, hq, hk⟩ := hHeld0
    refine wp_store_row 105 (.tmp 2) (.tmp 57) rfl w.heap.size (symA ⟨nm, vr, bitOf c, a, bitOf d, b, bitOf e, x, y⟩) rfl rfl 105 c0 hq.b0 Tryz.info_sym9 (by rw [hc0]; rfl) (by simp [Value.oneCell']) ?_
    have HZ := hD (hq.row (symA ⟨nm, vr, bitOf c, a, bitOf d, b, bitOf e, x, y⟩))
    refine hK.out _ _ ⟨_, rfl, hq.row _, fun k hne => (setRow_other _ _ _ _ hne).trans (hk k hne)⟩ (fun hHeldZ => ?_)
    clear hK K hq hk
    refine tkI 18 3 (.bool false) ?_
    simp only [Act.put, zI, zJ, zK]
    refine wpAnyH_done (by kernel_rfl) ?_ _
    generalize World.setRow (World.drew w9) w.heap.size (symA ⟨nm, vr, bitOf c, a, bitOf d, b, bitOf e, x, y⟩) = wz at *
    clear hHeldZ
    have eq := HZ.out.b0.c; have e0 := eq 0; have e1 := eq 1; have e2 := eq 2; have e3 := eq 3; have e4 := eq 4; have e5 := eq 5; have e6 := eq 6; have e7 := eq 7; have e8 := eq 8; clear eq
    simp only [gA, gB, gC] at e0 e1 e2 e3 e4 e5 e6 e7 e8
    go_wp2_with fail
    refine bodyPost_ret (v := .tuple #[.agg (symA ⟨nm, vr, bitOf c, a, bitOf d, b, bitOf e, x, y⟩), .bool false]) ?_ rfl (Dsym.of HR.out _ false HZ.out.rq HZ.out.gr (fun h0 => ?_))
    ·
     rw [results_cell_tmp rfl]; go_simp
    ·
     have e1 := HV1.out (HW.out h0)
     have e2 := HV2.out h0
     simp only [List.cons.injEq, and_true] at e1 e2
     obtain ⟨rfl, rfl, rfl, rfl, rfl⟩ := e1
     obtain ⟨rfl, rfl⟩ := e2
     have b2 : bitBad c = true := decide_eq_true (by omega)
     exact ⟨rfl, by rw [b2]; simp⟩
  ·
   have hl : ((L2.length : Int) < 2) := by omega
   have HF := hD (show t2.1 = 0 → False from fun h0 => by rw [HV2.out h0] at hlt; simp at hlt)
   clear HO2 HO3 HV1 HV2 HL1 HL2 HW
   go_upto_region 7 with (fail)
   refine wp_region_lit ?_
   refine wpl_load_sym H8.out.b1 rfl ?_
   refine wpl_store_row (cs := symA { noSy with name := nm, ver := vr }) H8.out.b0 Tryz.info_sym9 rfl (by simp [Value.oneCell']) rfl rfl ?_
   have HZ := hD (H8.out.row (symA { noSy with name := nm, ver := vr }))
   clear H8
   generalize w8.setRow w.heap.size (symA { noSy with name := nm, ver := vr }) = wz at *
   have eq := HZ.out.b0.c; have e0 := eq 0; have e1 := eq 1; have e2 := eq 2; have e3 := eq 3; have e4 := eq 4; have e5 := eq 5; have e6 := eq 6; have e7 := eq 7; have e8 := eq 8; clear eq
   simp only [gA, gB, gC] at e0 e1 e2 e3 e4 e5 e6 e7 e8
   go_wp2_with (fail)
   refine bodyPost_ret (v := .tuple #[.agg (symA { noSy with name := nm, ver := vr }), .bool true]) ?_ rfl (Dsym.of HR.out _ true HZ.out.rq HZ.out.gr (fun h0 => (HF.out h0).elim))
   rw [results_cell_tmp rfl]
   go_simp
 ·
  have hl : ((L1.length : Int) < 5) := by omega
  have HF := hD (show t2.1 = 0 → False from fun h0 => by rw [HV1.out (HW.out h0)] at hlt; simp at hlt)
  clear HO2 HO3 HV1 HV2 HL1 HL2 HW
  go_upto_region 7 with (fail)
  refine wp_region_lit ?_
  refine wpl_load_sym H8.out.b1 rfl ?_
  refine wpl_store_row (cs := symA { noSy with name := nm, ver := vr }) H8.out.b0 Tryz.info_sym9 rfl (by simp [Value.oneCell']) rfl rfl ?_
  have HZ := hD (H8.out.row (symA { noSy with name := nm, ver := vr }))
  clear H8
  generalize w8.setRow w.heap.size (symA { noSy with name := nm, ver := vr }) = wz at *
  have eq := HZ.out.b0.c; have e0 := eq 0; have e1 := eq 1; have e2 := eq 2; have e3 := eq 3; have e4 := eq 4; have e5 := eq 5; have e6 := eq 6; have e7 := eq 7; have e8 := eq 8; clear eq
  simp only [gA, gB, gC] at e0 e1 e2 e3 e4 e5 e6 e7 e8
  go_wp2_with (fail)
  refine bodyPost_ret (v := .tuple #[.agg (symA { noSy with name := nm, ver := vr }), .bool true]) ?_ rfl (Dsym.of HR.out _ true HZ.out.rq HZ.out.gr (fun h0 => (HF.out h0).elim))
  rw [results_cell_tmp rfl]
  go_simp
end Go.Proofs.YtfljignkjmabpaaGreat
