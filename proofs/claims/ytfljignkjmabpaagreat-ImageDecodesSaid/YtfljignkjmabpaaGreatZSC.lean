/- A part of the proof. -/
import Derived.Test.YtfljignkjmabpaaGreatZDS
import Derived.Test.YtfljignkjmabpaaGreatZSB
import Derived.Test.YtfljignkjmabpaaGreatZTW
set_option linter.unusedSimpArgs false
set_option linter.unusedVariables false
namespace Go.Proofs.YtfljignkjmabpaaGreat
set_option maxRecDepth 100000
open Go.RowKit
abbrev cz (nm : Str) (fl : Int) (a2 a3 a4 a5 a6 a7 : Value) (sh : Int) (a9 a10 a11 a12 a13 : Value) (ts : Int) : Array Value := #[str nm, .int .i64 fl, a2, a3, a4, a5, a6, a7, .int .i64 sh, a9, a10, a11, a12, a13, .int .i64 ts]
abbrev noS : Value := .slice none 0 0
theorem ok_step {α : Type} {r : St → α × Bool × St} {k : Nat} {u : St} {ok0 okv fine : Bool} (hq : okv = (ok0 && !(rdMany r k u).2.1)) (hv : (r (rdMany r k u).2.2).2.2.1 = 0 → fine = !(r (rdMany r k u).2.2).2.1) (hz : (rdMany r (k + 1) u).2.2.1 = 0) : (okv && fine) = (ok0 && !(rdMany r (k + 1) u).2.1) := by
 rw [rdMany_snoc] at hz ⊢
 rw [hv hz, hq]
 generalize (rdMany r k u).2.1 = b1
 simp only
 generalize (r (rdMany r k u).2.2).2.1 = b2
 cases ok0 <;> cases b1 <;> cases b2 <;> rfl
theorem wrap_dec {m N k : Nat} (h : 0 < m) (hk : k + m = N ∧ N ≤ 65535) : wrap64 ((m : Int) - 1) = ((m - 1 : Nat) : Int) := by
 unfold wrap64
 omega
theorem num_nat {size : Int} (h1 : 1 ≤ size) (h2 : size ≤ 2) (s : St) : ∃ (N : Nat) (u : St), rNum size s = ((N : Int), u) ∧ N ≤ 65535 := by
 have a := rNum_nn (size := size) (by omega) s
 have b := rNum_top (size := size) h2 s
 rcases h : rNum size s with ⟨n, u⟩
 rw [h] at a b
 simp only at a b
 exact ⟨n.toNat, u, by rw [Int.toNat_of_nonneg (by omega)], by omega⟩
theorem rdList_of {α : Type} {size : Int} {r : St → α × Bool × St} {s u : St} {N : Nat} (h : rNum size s = ((N : Int), u)) : rdList size r s = rdMany r N u := by
 unfold rdList
 rw [h]
 rfl
def datSg (X : World) (P : Nat → Prop) (y : Sg) (b : Option Addr × Nat) : Prop := Src X P b.1 y.bs.length b.2 (cells y.bs)
def datNd (X : World) (P : Nat → Prop) (y : Nd) (b : Option Addr × Nat) : Prop := Src X P b.1 y.vers.length b.2 (strs y.vers)
def datRow (X : World) (P : Nat → Prop) (y : List Int) (b : Option Addr × Nat) : Prop := Src X P b.1 y.length b.2 (ints y)
def datNo {α : Type} (_ : World) (_ : Nat → Prop) (_ : α) (_ : Option Addr × Nat) : Prop := True
theorem src_stays {X X' : World} {P P' : Nat → Prop} {A : Option Addr} {n c : Nat} {xs : List Value} (h : Src X P A n c xs) (hk : ∀ q, P q → q < X.heap.size → X'.heap[q]? = X.heap[q]?) (hw : ∀ q, P q → q < X.heap.size → P' q) : Src X' P' A n c xs := by
 have hl : ∀ ad, A = some ad → 0 < n → ad.block < X.heap.size := fun ad hA hn => by
  have hx : 0 < xs.length := by rw [h.len]; exact hn
  have := h.at_ ad hA 0 xs[0] (by simp [hx])
  have := World.block_lt_of_cell? X _ this
  rwa [addBlock] at this
 exact ⟨h.len, h.nil, h.cap, fun ad hA hn => hw _ (h.blk ad hA hn) (hl ad hA hn), (h.keep hk).at_⟩
theorem stays_sg : Stays datSg := fun X X' P P' y b h hk hw => by
 unfold datSg at *
 exact src_stays h hk hw
theorem stays_nd : Stays datNd := fun X X' P P' y b h hk hw => by
 unfold datNd at *
 exact src_stays h hk hw
theorem stays_row : Stays datRow := fun X X' P P' y b h hk hw => by
 unfold datRow at *
 exact src_stays h hk hw
theorem stays_no {α : Type} : Stays (datNo (α := α)) := fun _ _ _ _ _ _ _ _ _ => trivial
theorem own_kr {X X' : World} {g gi base n sz : Nat} {e : TypeId} {v : Value} {xs : List Value} (h : X.ownsRow base e sz v n xs) (hk : Kr gi g X X') (h1 : gi < base) (h2 : g < base) : X'.ownsRow base e sz v n xs :=
 own_keep h fun q hq => hk.block q (h.lt q hq).2 (by have := (h.lt q hq).1; omega) (by have := (h.lt q hq).1; omega)
theorem rBlock_short (s : St) : (rMeas 4 1048576 s).1.length ≤ 1048576 := by
 unfold rMeas
 split
 ·
  split
  ·
   simp
  ·
   split
   ·
    simp
   ·
    split
    ·
     simp
    ·
     simp only [List.length_take]; omega
 ·
  simp
theorem rdSg_at (s : St) : ∃ (a b p : Int) (bs : Str) (s1 s2 s3 : St), rdMany (rdNum 4) 2 s = ([a, b], false, s1) ∧ rNum 1 s1 = (p, s2) ∧ rMeas 4 1048576 s2 = (bs, s3) ∧ rdSg s = (⟨a, b, bs, p⟩, false, s3) := by
 have H : ∀ s, ∃ (a b p : Int) (bs : Str) (s0 s1 s2 s3 : St), rNum 4 s = (a, s0) ∧ rNum 4 s0 = (b, s1) ∧ rNum 1 s1 = (p, s2) ∧ rMeas 4 1048576 s2 = (bs, s3) := fun s => ⟨_, _, _, _, _, _, _, _, rfl, rfl, rfl, rfl⟩
 obtain ⟨a, b, p, bs, s0, s1, s2, s3, h1, h2, h3, h4⟩ := H s
 refine ⟨a, b, p, bs, s1, s2, s3, ?_, h3, h4, ?_⟩
 ·
  simp only [rdMany, rdNum, h1, h2, Bool.false_or]
 ·
  simp only [rdSg, rdPair, rdNum, rdBlock, h1, h2, h3, h4, Bool.false_or, mkSg]
theorem trip {α : Type} (x : α × Bool × St) : ∃ a b c, x = (a, b, c) := ⟨x.1, x.2.1, x.2.2, rfl⟩
theorem duo {α β : Type} (x : α × β) : ∃ a b, x = (a, b) := ⟨x.1, x.2, rfl⟩
theorem rdNd_at (s : St) : ∃ (nm : Str) (vs : List Str) (b : Bool) (s1 s2 : St), rMeas 2 4096 s = (nm, s1) ∧ rdTx s1 = (vs, b, s2) ∧ rdNd s = (⟨nm, vs⟩, b, s2) := by
 obtain ⟨nm, s1, h1⟩ := duo (rMeas 2 4096 s)
 obtain ⟨vs, b, s2, h2⟩ := trip (rdTx s1)
 refine ⟨nm, vs, b, s1, s2, h1, h2, ?_⟩
 simp only [rdNd, rdPair, rdText, h1, h2, Bool.false_or, mkNd]
theorem rdRow_at (s : St) : ∃ (k : Nat) (L : List Int) (b : Bool) (s1 s2 : St), rNum 2 s = ((k : Int), s1) ∧ k ≤ 65535 ∧ rdMany (rdNum 2) k s1 = (L, b, s2) ∧ rdRow s = (L, b, s2) := by
 obtain ⟨k, s1, h1, h2⟩ := num_nat (size := 2) (by decide) (by decide) s
 obtain ⟨L, b, s2, h3⟩ := trip (rdMany (rdNum 2) k s1)
 exact ⟨k, L, b, s1, s2, h1, h2, h3, by unfold rdRow; rw [rdList_of h1, h3]⟩
theorem rdRl_at (s : St) : ∃ (k a b c : Int) (s1 s2 : St), rNum 1 s = (k, s1) ∧ rdMany (rdNum 8) 3 s1 = ([a, b, c], false, s2) ∧ rdRl s = (⟨a, k, b, c⟩, false, s2) := by
 have H : ∀ s, ∃ (k a b c : Int) (s1 t1 t2 s2 : St), rNum 1 s = (k, s1) ∧ rNum 8 s1 = (a, t1) ∧ rNum 8 t1 = (b, t2) ∧ rNum 8 t2 = (c, s2) := fun s => ⟨_, _, _, _, _, _, _, _, rfl, rfl, rfl, rfl⟩
 obtain ⟨k, a, b, c, s1, t1, t2, s2, h1, h2, h3, h4⟩ := H s
 refine ⟨k, a, b, c, s1, s2, h1, ?_, ?_⟩
 ·
  simp only [rdMany, rdNum, h2, h3, h4, Bool.false_or]
 ·
  simp only [rdRl, rdRlP, rdPair, rdNum, h1, h2, h3, h4, Bool.false_or, mkRl]
theorem rdSl_at (s : St) : ∃ (a b c : Int) (s2 : St), rdMany (rdNum 4) 3 s = ([a, b, c], false, s2) ∧ rdSl s = (⟨a, b, c⟩, false, s2) := by
 have H : ∀ s, ∃ (a b c : Int) (t1 t2 s2 : St), rNum 4 s = (a, t1) ∧ rNum 4 t1 = (b, t2) ∧ rNum 4 t2 = (c, s2) := fun s => ⟨_, _, _, _, _, _, rfl, rfl, rfl⟩
 obtain ⟨a, b, c, t1, t2, s2, h2, h3, h4⟩ := H s
 refine ⟨a, b, c, s2, ?_, ?_⟩
 ·
  simp only [rdMany, rdNum, h2, h3, h4, Bool.false_or]
 ·
  simp only [rdSl, rdSlP, rdPair, rdNum, h2, h3, h4, Bool.false_or, mkSl]
theorem rdWd_at (s : St) : ∃ (n : Int) (s1 : St), rNum 8 s = (n, s1) ∧ rdWd s = (toU n, false, s1) := by
 obtain ⟨n, s1, h⟩ := duo (rNum 8 s)
 exact ⟨n, s1, h, by unfold rdWd; rw [h]; rfl⟩
theorem src_fresh {X X' : World} {A : Option Addr} {n c base lo : Nat} {e : TypeId} {xs : List Value} (h : X.ownsRow base e 1 (.slice A n c) n xs) (hb : Below X.heap.size X X') (hl : lo ≤ base) : Src X' (fun q => lo ≤ q ∧ q < X'.heap.size) A n c xs :=
 ((Src.of_own h).keep fun q hq _ => hb.block q hq.2.2).weak fun q hq => ⟨by omega, by have := hb.size; omega⟩
section
variable {α : Type} {r : St → α × Bool × St} {arr : α → Option Addr × Nat → Array Value} {d : α} {dat : World → (Nat → Prop) → α → Option Addr × Nat → Prop} {wl wr X X4 w5 : World} {B g gi k N sz f n c g5 c5 : Nat} {cs : Value → Array Value} {e : TypeId} {u s' : St} {A : Option Addr} {xs news : List Value}
def LpR (r : St → α × Bool × St) (arr : α → Option Addr × Nat → Array Value) (d : α) (dat : World → (Nat → Prop) → α → Option Addr × Nat → Prop) (wl : World) (B g gi : Nat) (cs : Value → Array Value) (e : TypeId) (sz : Nat) (u : St) (k : Nat) (wr : World) : Prop :=
 ∃ (n c : Nat) (A : Option Addr) (xs : List Value), n ≤ k ∧ Rc wl wr B g gi (cs (.slice A n c)) (rdMany r k u).2.2 ∧ wr.ownsRow wl.heap.size e sz (.slice A n c) n xs ∧ ((rdMany r k u).2.2.1 = 0 → Mk arr d dat wl wr A n xs (rdMany r k u).1)
def GL (arr : α → Option Addr × Nat → Array Value) (d : α) (dat : World → (Nat → Prop) → α → Option Addr × Nat → Prop) (wl wr : World) (sz : Nat) (v : Value) (want : List α) : Prop :=
 ∃ (A : Option Addr) (c : Nat) (Bs : Nat → Option Addr × Nat), v = .slice A want.length c ∧ Els wr (fun k => wl.heap.size ≤ k ∧ k < wr.heap.size) A want.length c sz (fun i => arr (want.getD i d) (Bs i)) ∧ ∀ i, i < want.length → dat wr (fun k => wl.heap.size ≤ k ∧ k < wr.heap.size) (want.getD i d) (Bs i)
theorem LpR.start (h : Rc wl X B g gi (cs noS) u) : LpR r arr d dat wl B g gi cs e sz u 0 X :=
 ⟨0, 0, none, [], Nat.le_refl _, h, World.ownsRow_nil _ _ _ _, fun _ => Mk.nil _ _ _⟩
theorem LpR.push (hst : Stays dat) (hcs : ∀ v v', (cs v).setIfInBounds f v' = cs v') (hrc : Rc wl wr B g gi (cs (.slice A n c)) (rdMany r k u).2.2) (hA : wr.ownsRow wl.heap.size e sz (.slice A n c) n xs)
  (hmk : Mk arr d dat wl wr A n xs (rdMany r k u).1) (hn : n ≤ k) (hkr : Kr gi g wr X4) (hr4 : Rc wl X4 B g gi (cs (.slice A n c)) s') (hs' : s' = (r (rdMany r k u).2.2).2.2) (hgr : X4.grownBy w5 (Value.slice A n c).ownBlock)
  (hown : w5.ownsRow wl.heap.size e sz (.slice (some ⟨g5, 0, none⟩) (n + 1) c5) (n + 1) (xs ++ news)) (hat : (Value.slice A n c).ownBlock = some g5 ∨ g5 = X4.heap.size)
  (hgood : s'.1 = 0 → ∃ b, news = (arr (r (rdMany r k u).2.2).1 b).toList ∧ dat X4 (fun q => wr.heap.size ≤ q ∧ q < X4.heap.size) (r (rdMany r k u).2.2).1 b) :
  LpR r arr d dat wl B g gi cs e sz u (k + 1) (w5.setCell ⟨gi, f, none⟩ (.slice (some ⟨g5, 0, none⟩) (n + 1) c5)) := by
 rw [row_own] at hgr hat
 have hgt := hrc.gt
 have hlt := hrc.lt
 have hr : ∀ q, row A = some q → wl.heap.size ≤ q ∧ q < wr.heap.size := fun q hq => hA.lt q (by rw [row_own]; exact hq)
 have hrc5 := (hr4.grown hgr fun q hq => (hr q hq).1).set f (.slice (some ⟨g5, 0, none⟩) (n + 1) c5)
 rw [hcs] at hrc5
 refine ⟨n + 1, c5, some ⟨g5, 0, none⟩, xs ++ news, by omega, ?_, own_set hown hgt, fun hz => ?_⟩
 ·
  rw [rdMany_snoc, ← hs']
  exact hrc5
 ·
  rw [rdMany_snoc] at hz ⊢
  rw [← hs'] at hz
  obtain ⟨b, rfl, hd⟩ := hgood hz
  exact hmk.push hst hkr hgr hgt (by omega) hrc.kr.size (fun q hq => (hr q hq).2) (by rcases hat with e | e; exact .inl e.symm; exact .inr (by rw [e]; rfl)) hd
theorem LpR.skip (hrc : Rc wl X B g gi (cs (.slice A n c)) s') (hs' : s' = (r (rdMany r k u).2.2).2.2) (hA : X.ownsRow wl.heap.size e sz (.slice A n c) n xs) (hn : n ≤ k) (hz : s'.1 ≠ 0) : LpR r arr d dat wl B g gi cs e sz u (k + 1) X := by
 refine ⟨n, c, A, xs, by omega, ?_, hA, fun h => ?_⟩
 ·
  rw [rdMany_snoc, ← hs']
  exact hrc
 ·
  rw [rdMany_snoc] at h
  exact absurd (by rw [hs']; exact h) hz
theorem LpR.exit (h : LpR r arr d dat wl B g gi cs e sz u k wr) (hc : Clean r) (hst : Stays dat) (hz : ∀ y b, (arr y b).size = sz) (hk : k ≤ N) (hx : k = N ∨ (rdMany r k u).2.2.1 ≠ 0) :
  ∃ v : Value, v.oneCell' = true ∧ Rc wl wr B g gi (cs v) (rdMany r N u).2.2 ∧ ((rdMany r N u).2.2.1 = 0 → GL arr d dat wl wr sz v (rdMany r N u).1) := by
 obtain ⟨n, c, A, xs, hn, hrc, hown, hmk⟩ := h
 refine ⟨.slice A n c, rfl, ?_⟩
 rcases hx with rfl | hx
 ·
  refine ⟨hrc, fun h0 => ?_⟩
  obtain ⟨Bs, h1, h2, h3⟩ := (hmk h0).els hst hz hown
  exact ⟨A, c, Bs, by rw [h1], h2, h3⟩
 ·
  have he := many_end hc hk hx
  exact ⟨by rw [he.1]; exact hrc, fun h0 => absurd (by rw [he.1] at h0; exact h0) hx⟩
end
def NoBad {α : Type} (r : St → α × Bool × St) : Prop := ∀ s, (r s).2.1 = false
theorem NoBad.pair {α β : Type} {r1 : St → α × Bool × St} {r2 : St → β × Bool × St} (h1 : NoBad r1) (h2 : NoBad r2) : NoBad (rdPair r1 r2) := fun s => by
 show ((r1 s).2.1 || (r2 (r1 s).2.2).2.1) = false
 rw [h1, h2]
 rfl
theorem NoBad.map {α β : Type} {r : St → α × Bool × St} (h : NoBad r) (f : α → β) : NoBad (fun s => (f (r s).1, (r s).2)) := fun s => h s
theorem NoBad.many {α : Type} {r : St → α × Bool × St} (h : NoBad r) : ∀ n s, (rdMany r n s).2.1 = false
 | 0, _ => rfl
 | n + 1, s => by
  show ((r s).2.1 || (rdMany r n (r s).2.2).2.1) = false
  rw [h, NoBad.many h n]
  rfl
theorem NoBad.list {α : Type} {r : St → α × Bool × St} (h : NoBad r) (size : Int) : NoBad (rdList size r) := fun s => h.many _ _
theorem nb_num (size : Int) : NoBad (rdNum size) := fun _ => rfl
theorem nb_text : NoBad rdText := fun _ => rfl
theorem nb_block : NoBad rdBlock := fun _ => rfl
theorem nb_sg : NoBad rdSg := ((nb_num 4).pair ((nb_num 4).pair ((nb_num 1).pair nb_block))).map mkSg
theorem nb_tx : NoBad rdTx := nb_text.list 1
theorem nb_nd : NoBad rdNd := (nb_text.pair nb_tx).map mkNd
theorem nb_row : NoBad rdRow := (nb_num 2).list 2
theorem nb_rl : NoBad rdRl := ((nb_num 1).pair ((nb_num 8).pair ((nb_num 8).pair (nb_num 8)))).map mkRl
theorem nb_sl : NoBad rdSl := ((nb_num 4).pair ((nb_num 4).pair (nb_num 4))).map mkSl
theorem nb_runs : NoBad rdRuns := (nb_num 4).list 1
theorem nb_wd : NoBad rdWd := fun s => by unfold rdWd mkWd; rfl
theorem nb_of {α : Type} {r : St → α × Bool × St} (h : NoBad r) {s : St} {q : α × Bool × St} (hq : r s = q) : q.2.1 = false := by rw [← hq]; exact h s
theorem Steps.flags {s : St} {q0 : Unit × Bool × St} {q1 : Str × St} {q2 : Int × St} {q3 : List Sg × Bool × St} {q4 : List Nd × Bool × St} {q5 : List Str × Bool × St} {q6 : List Sym × Bool × St} {q7 : List (List Int) × Bool × St} {q8 : Int × St} {q9 : List UInt64 × Bool × St}
  {q10 : List Rl × Bool × St} {q11 : List Sl × Bool × St} {q12 q13 : List Int × Bool × St} {q14 : Int × St} {q15 : Str × St} (h : Steps s q0 q1 q2 q3 q4 q5 q6 q7 q8 q9 q10 q11 q12 q13 q14 q15) :
  (q0.2.1 || (false || (false || (q3.2.1 || (q4.2.1 || (q5.2.1 || (q6.2.1 || (q7.2.1 || (false || (q9.2.1 || (q10.2.1 || (q11.2.1 || (q12.2.1 || (q13.2.1 || (false || false))))))))))))))) = (q0.2.1 || q6.2.1) := by
 rw [nb_of (nb_sg.list 1) h.h3, nb_of (nb_nd.list 1) h.h4, nb_of nb_tx h.h5, nb_of (nb_row.list 2) h.h7, nb_of (nb_wd.list 1) h.h9, nb_of (nb_rl.list 2) h.h10, nb_of (nb_sl.list 2) h.h11, nb_of nb_runs h.h12, nb_of nb_runs h.h13]
 simp
theorem read_ok {ok0 ok1 b0 b6 big : Bool} {t : St} {z6 : Int} (h0 : ok0 = !b0) (h1 : z6 = 0 → ok1 = (ok0 && !b6)) (hf : t.1 = 0 → z6 = 0) (hb : big = (b0 || b6)) : (ok1 && (rEnd t == 0)) = decide (big = false ∧ rEnd t = 0) := by
 by_cases hz : rEnd t = 0
 ·
  rw [h1 (hf (rend_zero hz).1), h0, hb, hz]
  cases b0 <;> cases b6 <;> simp
 ·
  have e : (rEnd t == 0) = false := by simpa using hz
  rw [e, Bool.and_false]
  simp [hz]
theorem all15 {v0 v1 v2 v3 v4 v5 v6 v7 v8 v9 v10 v11 v12 v13 v14 : Value} (h0 : v0.oneCell' = true) (h1 : v1.oneCell' = true) (h2 : v2.oneCell' = true) (h3 : v3.oneCell' = true) (h4 : v4.oneCell' = true) (h5 : v5.oneCell' = true) (h6 : v6.oneCell' = true) (h7 : v7.oneCell' = true) (h8 : v8.oneCell' = true) (h9 : v9.oneCell' = true) (h10 : v10.oneCell' = true) (h11 : v11.oneCell' = true) (h12 : v12.oneCell' = true) (h13 : v13.oneCell' = true) (h14 : v14.oneCell' = true) : (#[v0, v1, v2, v3, v4, v5, v6, v7, v8, v9, v10, v11, v12, v13, v14] : Array Value).all (·.oneCell') = true := by
 simp [*]
end Go.Proofs.YtfljignkjmabpaaGreat
namespace Go.Proofs.YtfljignkjmabpaaGreat
set_option maxRecDepth 100000
open Go.RowKit
def leastI : Im := ⟨[], 0, [⟨0, 1, [], 5⟩], [], [], [], [[]], [0], 6, [], [], [], [], [], 0⟩
def wrongI : Im := ⟨[], 0, [⟨0, 1, [], 5⟩], [], [], [], [[]], [0], 6, [⟨0, 1, -1, 0⟩], [], [], [], [], 0⟩
def zeroI : Im := ⟨[], 0, [], [], [], [], [], [], 0, [], [], [], [], [], 0⟩
theorem cnt_none : cntS [] = 1 := by decide
theorem fil_none : filS [] = [0] := by decide
theorem wl_none : wlS [] = 1 := by decide
theorem fill_none : fillS [] 1 0 = rowF [[]] := by
 funext k
 unfold rowF
 cases k with
 | zero => rfl
 | succ k => rfl
theorem least_may : mayE leastI = 0 := by decide +kernel
theorem wrong_may : mayE wrongI = 94 := by decide +kernel
theorem zero_may : mayE zeroI = 91 := by decide +kernel
theorem least_fit : Fit leastI := by
 refine ⟨?_, ?_, ?_, ?_, ?_, ?_, ?_, ?_, ?_, ?_, ?_, ?_, ?_, ?_, ?_, ?_, ?_, ?_, ?_, ?_, ?_, ?_, ?_, ?_⟩
 all_goals (simp [leastI, Long, I64])
theorem wrong_fit : Fit wrongI := by
 refine ⟨?_, ?_, ?_, ?_, ?_, ?_, ?_, ?_, ?_, ?_, ?_, ?_, ?_, ?_, ?_, ?_, ?_, ?_, ?_, ?_, ?_, ?_, ?_, ?_⟩
 all_goals (simp [wrongI, Long, I64])
theorem zero_fit : Fit zeroI := by
 refine ⟨?_, ?_, ?_, ?_, ?_, ?_, ?_, ?_, ?_, ?_, ?_, ?_, ?_, ?_, ?_, ?_, ?_, ?_, ?_, ?_, ?_, ?_, ?_, ?_⟩
 all_goals (simp [zeroI, Long, I64])
theorem els_none (w : World) (P : Nat → Prop) (sz : Nat) (E : Nat → Array Value) : Els w P none 0 0 sz E := ⟨fun _ => ⟨rfl, rfl⟩, Nat.le_refl _, (by intro ad h; cases h), (by intro ad h; cases h)⟩
theorem src_zero (w : World) (P : Nat → Prop) : Src w P none 0 0 [] := ⟨rfl, fun _ => ⟨rfl, rfl⟩, Nat.le_refl _, (by intro ad h; cases h), (by intro ad h; cases h)⟩
theorem syl_none (w : World) (P : Nat → Prop) : Syl w P none 0 0 [] := ⟨rfl, fun _ => ⟨rfl, rfl⟩, Nat.le_refl _, (by intro ad h; cases h), (by intro ad h; cases h)⟩
abbrev leastP (sb : Nat) (A' Af : Option Addr) (c' cf : Nat) : Pl := ⟨(some ⟨sb, 0, none⟩, 1), (none, 0), (none, 0), (none, 0), (A', c'), (Af, cf), (none, 0), (none, 0), (none, 0), (none, 0), (none, 0)⟩
theorem least_els {w : World} {P : Nat → Prop} {sb : Nat} (h : Bx w sb (sgA ⟨0, 1, [], 5⟩ (none, 0)) 61) (hP : P sb) : Els w P (some ⟨sb, 0, none⟩) 1 1 4 (fun k => sgA (([⟨0, 1, [], 5⟩] : List Sg).getD k noSg) (none, 0)) := by
 refine ⟨(by intro e; cases e), Nat.le_refl _, (by intro ad e _; cases e; exact hP), ?_⟩
 intro ad e k hk j u hu
 cases e
 obtain rfl : k = 0 := by omega
 rw [plainAdd, Nat.zero_mul, Nat.zero_add, Nat.zero_add, h.c j]
 exact hu
theorem least_in {w : World} {P : Nat → Prop} {sb c' cf : Nat} {A' Af : Option Addr} (h : Bx w sb (sgA ⟨0, 1, [], 5⟩ (none, 0)) 61) (hP : P sb) (ht : TabV w P A' 1 c' Af cf (rowF [[]]) [0]) : ImIn w P (leastP sb A' Af c' cf) leastI :=
 im_made (y3 := [⟨0, 1, [], 5⟩]) (y4 := []) (y5 := []) (y6 := []) (y7 := [[]]) (y9 := [0]) (y10 := []) (y11 := []) (y12 := []) (y13 := []) (tl := []) (B3 := fun _ => (none, 0)) (B4 := fun _ => (none, 0)) (B12 := (none, 0)) (B13 := (none, 0))
  (least_els h hP) (fun k hk => by obtain rfl : k = 0 := (by simp at hk; omega); exact src_zero w P) (els_none _ _ _ _) (fun k hk => by cases hk) (src_zero _ _) (syl_none _ _) ht (els_none _ _ _ _) (els_none _ _ _ _) (src_zero _ _) (src_zero _ _) (src_zero _ _)
theorem least_val (sb : Nat) (A' Af : Option Addr) (c' cf : Nat) : Value.agg #[.string ⟨#[]⟩, .int .i64 0, .slice (some ⟨sb, 0, none⟩) 1 1, .slice none 0 0, .slice none 0 0, .slice none 0 0, .slice A' 1 c', .slice Af 1 cf, .int .i64 6, .slice none 0 0, .slice none 0 0, .slice none 0 0, .slice none 0 0, .slice none 0 0, .int .i64 0] = imV (leastP sb A' Af c' cf) leastI := rfl
set_option maxHeartbeats 4000000 in
theorem least_any (w : World) : Calls Tryz.prog 14 #[] w fun e w' => ∃ p, e = .returned (imV p leastI) ∧ ImIn w' (fun k => k < w'.heap.size) p leastI ∧ Below w.heap.size w w' := by
 have hb1 : Below w.heap.size w (w.alloc (.cells zIm 40)) := (Below.refl _ _).alloc (Nat.le_refl _) _
 have HX := hD (Bx.new w zIm 40)
 have HB1 := hD hb1
 have HM := hD (qmake_own none 0 [] (w.alloc (.cells zIm 40)) ⟨rfl, fun _ => ⟨rfl, rfl⟩, Nat.le_refl _, (by intro ad h; cases h), (by intro ad h; cases h)⟩ (by decide) (by intro s hs; cases hs))
 rw [cnt_none, fil_none, wl_none] at HM
 simp only [List.length_nil] at HM
 rw [fill_none] at HM
 clear hb1
 have hz1 : (w.alloc (.cells zIm 40)).heap.size = w.heap.size + 1 := by simp
 go_enter Tryz.func14, Tryz.ntmps14
 go_upto_region 1 with (fail)
 change Code.wp _ _ _ _ (w.alloc (.cells zIm 40))
 generalize w.alloc (.cells zIm 40) = w1 at *
 go_upto_region 2 with (go_at_call 27; (with_reducible refine (HM.out).mono ?_); rintro en w2 ⟨A', c', Af, cf, rfl, h2, hb2⟩; have HT := hD h2; have HB2 := hD hb2; clear h2 hb2)
 have HZ1 := hD hz1
 clear hz1
 have HX2 := hD (HX.out.below HB2.out)
 have hbt : Below w2.heap.size w2 (w2.alloc (.cells (tabA A' 1 c' Af 1 cf 6) 35)) := (Below.refl _ _).alloc (Nat.le_refl _) _
 have HX3 := hD (HX2.out.below hbt)
 have HT3 := hD ((HT.out.keep fun k hk hl => hbt.block k hl).weak fun k hk => ⟨hk.1, Nat.lt_of_lt_of_le hk.2 hbt.size⟩ : TabV (w2.alloc (.cells (tabA A' 1 c' Af 1 cf 6) 35)) (fun k => w1.heap.size ≤ k ∧ k < (w2.alloc (.cells (tabA A' 1 c' Af 1 cf 6) 35)).heap.size) A' 1 c' Af cf (rowF [[]]) [0])
 have HBT := hD (Bx.new w2 (tabA A' 1 c' Af 1 cf 6) 35)
 have HB3 := hD (HB2.out.trans (hbt.mono HB2.out.size))
 clear hbt
 change Code.wp _ _ _ _ (w2.alloc (.cells (tabA A' 1 c' Af 1 cf 6) 35))
 generalize w2.alloc (.cells (tabA A' 1 c' Af 1 cf 6) 35) = w3 at *
 generalize w2.heap.size = tb at *
 have hbs : Below w3.heap.size w3 (w3.alloc (.cells (sgA ⟨0, 1, [], 5⟩ (none, 0)) 61)) := (Below.refl _ _).alloc (Nat.le_refl _) _
 have HX4 := hD (HX3.out.below hbs)
 have HT4 := hD ((HT3.out.keep fun k hk hl => hbs.block k hl).weak fun k hk => ⟨hk.1, Nat.lt_of_lt_of_le hk.2 hbs.size⟩ : TabV (w3.alloc (.cells (sgA ⟨0, 1, [], 5⟩ (none, 0)) 61)) (fun k => w1.heap.size ≤ k ∧ k < (w3.alloc (.cells (sgA ⟨0, 1, [], 5⟩ (none, 0)) 61)).heap.size) A' 1 c' Af cf (rowF [[]]) [0])
 have HB4 := hD (HB3.out.trans (hbs.mono HB3.out.size))
 have HS4 := hD (Bx.new w3 (sgA ⟨0, 1, [], 5⟩ (none, 0)) 61)
 have hb4 := HBT.out.below hbs
 have t0 := hb4.c 0
 have t1 := hb4.c 1
 have t2 := hb4.c 2
 simp only [gA, gB, gC] at t0 t1 t2
 clear hb4 hbs
 refine wp_region_lit ?_
 refine wpList_plain rfl fun K hK => ?_
 go_simp
 refine hK _ _ ?_
 clear hK K
 refine wpList_plain rfl fun K hK => ?_
 go_simp
 refine hK _ _ ?_
 clear hK K
 change wpList _ _ _ _ _ (w3.alloc (.cells (sgA ⟨0, 1, [], 5⟩ (none, 0)) 61))
 have hz4 : (w3.alloc (.cells (sgA ⟨0, 1, [], 5⟩ (none, 0)) 61)).heap.size = w3.heap.size + 1 := by simp
 have HZ4 := hD hz4
 generalize w3.alloc (.cells (sgA ⟨0, 1, [], 5⟩ (none, 0)) 61) = w4 at *
 have HSB := hD (show w1.heap.size ≤ w3.heap.size from HB3.out.size)
 generalize w3.heap.size = sb at *
 clear hz4
 refine wpList_plain rfl fun K hK => ?_
 go_simp
 refine hK _ _ ?_
 clear hK K
 refine wpList_plain rfl fun K hK => ?_
 go_simp
 refine hK _ _ ?_
 clear hK K
 refine wpl_store_im HX4.out rfl (cs := #[.string ⟨#[]⟩, .int .i64 0, .slice (some ⟨sb, 0, none⟩) 1 1, .slice none 0 0, .slice none 0 0, .slice none 0 0, .slice A' 1 c', .slice Af 1 cf, .int .i64 6, .slice none 0 0, .slice none 0 0, .slice none 0 0, .slice none 0 0, .slice none 0 0, .int .i64 0]) rfl (by simp [Value.oneCell']) rfl rfl ?_
 have HZ := hD (setRow_heap w4 w.heap.size zIm #[.string ⟨#[]⟩, .int .i64 0, .slice (some ⟨sb, 0, none⟩) 1 1, .slice none 0 0, .slice none 0 0, .slice none 0 0, .slice A' 1 c', .slice Af 1 cf, .int .i64 6, .slice none 0 0, .slice none 0 0, .slice none 0 0, .slice none 0 0, .slice none 0 0, .int .i64 0] 40 (0, 0) HX4.out)
 generalize hC : (#[.string ⟨#[]⟩, .int .i64 0, .slice (some ⟨sb, 0, none⟩) 1 1, .slice none 0 0, .slice none 0 0, .slice none 0 0, .slice A' 1 c', .slice Af 1 cf, .int .i64 6, .slice none 0 0, .slice none 0 0, .slice none 0 0, .slice none 0 0, .slice none 0 0, .int .i64 0] : Array Value) = C at *
 have hz := HZ1.out
 have hss := HSB.out
 have HBZ := hD (below_row (HB1.out.trans (HB4.out.mono (by omega))) (Nat.le_refl _) C)
 have HSZ := hD (show Bx (w4.setRow w.heap.size C) sb (sgA ⟨0, 1, [], 5⟩ (none, 0)) 61 from (setRow_other w4 w.heap.size sb C (by omega)).trans HS4.out)
 have HIN := hD (least_in (P := fun k => k < (w4.setRow w.heap.size C).heap.size) HSZ.out (by rw [setRow_size]; exact HS4.out.lt) ((HT4.out.keep fun k hk hl => setRow_other w4 w.heap.size k C (by omega)).weak fun k hk => by rw [setRow_size]; exact hk.2))
 generalize w4.setRow w.heap.size C = wz at *
 subst hC
 obtain ⟨k0, k1, k2, k3, k4, k5, k6, k7, k8, k9, k10, k11, k12, k13, k14⟩ := bx_cells HZ.out
 clear hz hss
 go_wp2_with (fail)
 refine bodyPost_ret (v := imV (leastP sb A' Af c' cf) leastI) ?_ rfl ⟨_, rfl, HIN.out, HBZ.out⟩
 rw [← least_val]
 simp [results, Tryz.results14, go_sem, k0, k1, k2, k3, k4, k5, k6, k7, k8, k9, k10, k11, k12, k13, k14]
end Go.Proofs.YtfljignkjmabpaaGreat
