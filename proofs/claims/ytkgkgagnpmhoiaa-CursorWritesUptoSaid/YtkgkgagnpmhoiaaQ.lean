/-
  A piece of a script, as the laws have it, and what putting pieces does.
-/
import Derived.Test.YtkgkgagnpmhoiaaL
import Derived.Test.YtkgkgagnpmhoiaaM
namespace Go.Proofs.Ytkgkgagnpmhoiaa
open Go.RowKit

/-- A piece: its kind, and what it bears. -/
structure Pc where
  kind : Int
  size : Int
  n : Int
  ns : List Int
  ss : List (List UInt8)
  b : List UInt8

/-- The value of a piece: six cells, and what the slices read as. -/
structure PcV (w : World) (P : Nat → Prop) (p : Pc) (An : Option Addr) (cn : Nat) (As : Option Addr) (cs : Nat) (Ab : Option Addr) (cb : Nat) : Prop where
  ns : Src w P An p.ns.length cn (ints p.ns)
  ss : Src w P As p.ss.length cs (strs p.ss)
  b : Src w P Ab p.b.length cb (cells p.b)
  i64 : ∀ x ∈ p.ns, I64 x
def pcells (p : Pc) (An : Option Addr) (cn : Nat) (As : Option Addr) (cs : Nat) (Ab : Option Addr) (cb : Nat) : Array Value :=
  #[.int .i64 p.kind, .int .i64 p.size, .int .i64 p.n, .slice An p.ns.length cn, .slice As p.ss.length cs, .slice Ab p.b.length cb]
theorem PcV.keep {w w' : World} {P : Nat → Prop} {p : Pc} {An As Ab : Option Addr} {cn cs cb : Nat} (h : PcV w P p An cn As cs Ab cb) (hk : ∀ k, P k → k < w.heap.size → w'.heap[k]? = w.heap[k]?) : PcV w' P p An cn As cs Ab cb :=
  ⟨h.ns.keep hk, h.ss.keep hk, h.b.keep hk, h.i64⟩
theorem PcV.weak {w : World} {P Q : Nat → Prop} {p : Pc} {An As Ab : Option Addr} {cn cs cb : Nat} (h : PcV w P p An cn As cs Ab cb) (hk : ∀ k, P k → Q k) : PcV w Q p An cn As cs Ab cb :=
  ⟨h.ns.weak hk, h.ss.weak hk, h.b.weak hk, h.i64⟩

def wPut (p : Pc) (s : St) : St :=
  if p.kind = 0 then wNumsA p.size p.ns s else if p.kind = 1 then wTexts p.ss s else if p.kind = 2 then wMeas 4 1048576 p.b s else if p.kind = 3 then (s.1, putIf s.1 s.2 p.b) else s
/-- So many bytes at the most. -/
def cost (p : Pc) : Nat := 8 * p.ns.length + room p.ss + p.b.length + 8
theorem wPut_len (p : Pc) (s : St) : (wPut p s).2.length ≤ s.2.length + cost p := by
  unfold wPut cost
  split
  · have := wNumsA_len p.size p.ns s; omega
  · split
    · have := wTexts_len p.ss s; omega
    · split
      · have := wMeas_len 4 1048576 p.b s (by omega); omega
      · split
        · simp only [putIf]
          split
          · simp; omega
          · omega
        · omega

set_option maxHeartbeats 1000000 in
theorem put_any (B g : Nat) (s : St) (A : Option Addr) (c : Nat) (p : Pc) (An : Option Addr) (cn : Nat) (As : Option Addr) (cs : Nat) (Ab : Option Addr) (cb : Nat) (w : World) (h : Wr w B g s.1 A c s.2)
    (hp : PcV w (fun k => k ≠ g ∧ row A ≠ some k) p An cn As cs Ab cb) (hn : s.2.length + cost p ≤ 140737488355328) :
    Calls Try.prog 14 #[.pointer (some ⟨g, 0, none⟩), .agg (pcells p An cn As cs Ab cb)] w (Wrote w B g A (wPut p s).1 (wPut p s).2) := by
  obtain ⟨kind, size, n, ns, ss, b⟩ := p
  have hcost : s.2.length + (8 * ns.length + room ss + b.length + 8) ≤ 140737488355328 := hn
  have hp' := hp.keep (w' := w.alloc (.cells (pcells ⟨kind, size, n, ns, ss, b⟩ An cn As cs Ab cb) 34)) fun k _ hk => Below.heap_alloc _ _ _ hk
  have h' := h.alloc (.cells (pcells ⟨kind, size, n, ns, ss, b⟩ An cn As cs Ab cb) 34)
  have hst := Lib.hid (Step.alloc g w (row A) (.cells (pcells ⟨kind, size, n, ns, ss, b⟩ An cn As cs Ab cb) 34))
  unfold pcells at *
  simp only at *
  by_cases h0 : kind = 0
  · subst h0
    have C := wnum_any B g s A c size An ns.length cn ns _ h' hp'.i64 hp'.ns (by omega)
    have e : wPut ⟨0, size, n, ns, ss, b⟩ s = wNumsA size ns s := rfl
    rw [e]
    have HC := Lib.hid C
    clear h hp h' hp' C e hn hcost
    go_enter Try.func14, Try.ntmps14
    go_wp2_with (go_at_call 30; refine HC.out.mono ?_; rintro en w1 ⟨rfl, hat⟩; have HA := Lib.hid hat; clear hat)
    go_end0
    exact ⟨rfl, At.trans hst.out HA.out⟩
  have b0 : (kind == 0) = false := by simpa using h0
  by_cases h1 : kind = 1
  · subst h1
    have C := wtext_any B g s A c As ss.length cs ss _ h' hp'.ss (by omega)
    have e : wPut ⟨1, size, n, ns, ss, b⟩ s = wTexts ss s := rfl
    rw [e]
    have HC := Lib.hid C
    clear h hp h' hp' C e hn hcost
    go_enter Try.func14, Try.ntmps14
    go_wp2_with (go_at_call 31; refine HC.out.mono ?_; rintro en w1 ⟨rfl, hat⟩; have HA := Lib.hid hat; clear hat)
    go_end0
    exact ⟨rfl, At.trans hst.out HA.out⟩
  have b1 : (kind == 1) = false := by simpa using h1
  by_cases h2 : kind = 2
  · subst h2
    have C := wblock_any B g s A c Ab b.length cb b _ h' hp'.b (by omega)
    have e : wPut ⟨2, size, n, ns, ss, b⟩ s = wMeas 4 1048576 b s := rfl
    rw [e]
    have HC := Lib.hid C
    clear h hp h' hp' C e hn hcost
    go_enter Try.func14, Try.ntmps14
    go_wp2_with (go_at_call 33; refine HC.out.mono ?_; rintro en w1 ⟨rfl, hat⟩; have HA := Lib.hid hat; clear hat)
    go_end0
    exact ⟨rfl, At.trans hst.out HA.out⟩
  have b2 : (kind == 2) = false := by simpa using h2
  by_cases h3 : kind = 3
  · subst h3
    have C := raw_any B g s.1 A c s.2 _ Ab b.length cb b _ h' hp'.b (by omega)
    have e : wPut ⟨3, size, n, ns, ss, b⟩ s = (s.1, putIf s.1 s.2 b) := rfl
    rw [e]
    have HC := Lib.hid C
    clear h hp h' hp' C e hn hcost
    go_enter Try.func14, Try.ntmps14
    go_wp2_with (go_at_call 34; refine HC.out.mono ?_; rintro en w1 ⟨rfl, hat⟩; have HA := Lib.hid hat; clear hat)
    go_end0
    exact ⟨rfl, At.trans hst.out HA.out⟩
  have b3 : (kind == 3) = false := by simpa using h3
  have e : wPut ⟨kind, size, n, ns, ss, b⟩ s = s := by unfold wPut; simp [h0, h1, h2, h3]
  rw [e]
  have H := Lib.hid h'
  clear h hp h' hp' e hn hcost h0 h1 h2 h3
  go_enter Try.func14, Try.ntmps14
  go_wp2
  go_end0
  exact ⟨rfl, A, c, H.out, hst.out⟩

/-- A script in memory. -/
structure Pcs (w : World) (P : Nat → Prop) (A : Option Addr) (n c : Nat) (ps : List Pc) : Prop where
  len : ps.length = n
  nil : A = none → n = 0 ∧ c = 0
  cap : n ≤ c
  blk : ∀ ad, A = some ad → 0 < n → P ad.block
  at_ : ∀ ad, A = some ad → ∀ i (hi : i < ps.length), ∃ An cn As cs Ab cb, PcV w P ps[i] An cn As cs Ab cb ∧ ∀ j u, (pcells ps[i] An cn As cs Ab cb)[j]? = some u → w.cell? (ad.add (i * 6 + j)) = some u
theorem Pcs.keep {w w' : World} {P : Nat → Prop} {A : Option Addr} {n c : Nat} {ps : List Pc} (h : Pcs w P A n c ps) (hk : ∀ k, P k → k < w.heap.size → w'.heap[k]? = w.heap[k]?) : Pcs w' P A n c ps :=
  ⟨h.len, h.nil, h.cap, h.blk, fun ad hA i hi => by
    obtain ⟨An, cn, As, cs, Ab, cb, h1, h2⟩ := h.at_ ad hA i hi
    refine ⟨An, cn, As, cs, Ab, cb, h1.keep hk, fun j u hu => ?_⟩
    have h3 := h2 j u hu
    have hb := h.blk ad hA (by rw [← h.len]; omega)
    rw [World.cell?_of_block (hk _ (by rw [addBlock]; exact hb) (World.block_lt_of_cell? w _ h3))]
    exact h3⟩
theorem Pcs.weak {w : World} {P Q : Nat → Prop} {A : Option Addr} {n c : Nat} {ps : List Pc} (h : Pcs w P A n c ps) (hk : ∀ k, P k → Q k) : Pcs w Q A n c ps :=
  ⟨h.len, h.nil, h.cap, fun ad hA hn => hk _ (h.blk ad hA hn), fun ad hA i hi => by
    obtain ⟨An, cn, As, cs, Ab, cb, h1, h2⟩ := h.at_ ad hA i hi
    exact ⟨An, cn, As, cs, Ab, cb, h1.weak hk, h2⟩⟩

def wAll (ps : List Pc) (s : St) : St := ps.foldl (fun s p => wPut p s) s
theorem wAll_snoc (ps : List Pc) (k : Nat) (h : k < ps.length) (s : St) : wAll (ps.take (k + 1)) s = wPut ps[k] (wAll (ps.take k) s) := by
  unfold wAll
  rw [List.take_succ_eq_append_getElem h, List.foldl_append]
  rfl
def costs (ps : List Pc) : Nat := (ps.map cost).sum
theorem wAll_len (ps : List Pc) : ∀ s : St, (wAll ps s).2.length ≤ s.2.length + costs ps := by
  induction ps with
  | nil => intro s; simp [wAll]
  | cons p ps ih =>
    intro s
    have h1 := ih (wPut p s)
    have h2 := wPut_len p s
    have : wAll (p :: ps) s = wAll ps (wPut p s) := rfl
    have hr : costs (p :: ps) = cost p + costs ps := by simp [costs]
    rw [this, hr]
    omega
theorem costs_take (ps : List Pc) (k : Nat) (h : k < ps.length) : costs (ps.take k) + cost ps[k] ≤ costs ps := by
  have e : ps = ps.take k ++ ps[k] :: ps.drop (k + 1) := by simp
  have : costs ps = costs (ps.take k) + (cost ps[k] + costs (ps.drop (k + 1))) := by
    conv => lhs; rw [e]
    simp only [costs, List.map_append, List.map_cons, List.sum_append, List.sum_cons]
  omega
theorem costs_ge (ps : List Pc) : 8 * ps.length ≤ costs ps := by
  induction ps with
  | nil => simp
  | cons p ps ih =>
    have : costs (p :: ps) = cost p + costs ps := by simp [costs]
    have h8 : 8 ≤ cost p := by unfold cost; omega
    rw [this, List.length_cons]
    omega

theorem plainAdd (b o k : Nat) : (⟨b, o, none⟩ : Addr).add k = ⟨b, o + k, none⟩ := by unfold Addr.add; split <;> simp_all
/-- A piece of a script, cell by cell. -/
theorem Pcs.cells {w : World} {P : Nat → Prop} {ad : Addr} {n c : Nat} {ps : List Pc} (h : Pcs w P (some ad) n c ps) (k : Nat) (hk : k < ps.length) :
    ∃ b o An cn As cs Ab cb, ad = ⟨b, o, none⟩ ∧ PcV w P ps[k] An cn As cs Ab cb ∧ w.cell? ⟨b, o + k * 6, none⟩ = some (.int .i64 ps[k].kind) ∧ w.cell? ⟨b, o + k * 6 + 1, none⟩ = some (.int .i64 ps[k].size) ∧
      w.cell? ⟨b, o + k * 6 + 2, none⟩ = some (.int .i64 ps[k].n) ∧ w.cell? ⟨b, o + k * 6 + 3, none⟩ = some (.slice An ps[k].ns.length cn) ∧ w.cell? ⟨b, o + k * 6 + 4, none⟩ = some (.slice As ps[k].ss.length cs) ∧
      w.cell? ⟨b, o + k * 6 + 5, none⟩ = some (.slice Ab ps[k].b.length cb) := by
  obtain ⟨An, cn, As, cs, Ab, cb, hv, hcl⟩ := h.at_ ad rfl k hk
  obtain ⟨b, o, spot⟩ := ad
  have hs : spot = none := by
    obtain ⟨_, _, _, _, _, _, _, hc0⟩ := h.at_ _ rfl 0 (by omega)
    have h0 := World.cell?_spot (hc0 0 _ rfl)
    simpa [Addr.add] using h0
  subst hs
  have f : ∀ j u, (pcells ps[k] An cn As cs Ab cb)[j]? = some u → w.cell? ⟨b, o + (k * 6 + j), none⟩ = some u := fun j u hu => by rw [← plainAdd]; exact hcl j u hu
  exact ⟨b, o, An, cn, As, cs, Ab, cb, rfl, hv, f 0 _ rfl, f 1 _ rfl, f 2 _ rfl, f 3 _ rfl, f 4 _ rfl, f 5 _ rfl⟩

/-- What 'written' hands back: the bytes and true, or nothing and false. -/
def Written (w : World) (s : St) (en : Ending) (w' : World) : Prop :=
  ∃ A c l, en = .returned (.tuple #[.slice A l.length c, .bool (s.1 == 0)]) ∧ (s.1 = 0 → l = s.2) ∧ w'.ownsRow w.heap.size 5 1 (.slice A l.length c) l.length (cells l) ∧ Below w.heap.size w w'

set_option maxHeartbeats 1000000 in
set_option maxRecDepth 100000 in
theorem written_any (Ap : Option Addr) (n cp : Nat) (ps : List Pc) (w : World) (h : Pcs w (fun k => k < w.heap.size) Ap n cp ps) (hc : costs ps ≤ 140737488355328) :
    Calls Try.prog 22 #[.slice Ap n cp] w (Written w (wAll ps (0, []))) := by
  have hl := h.len
  have hge := costs_ge ps
  have hnn : n ≤ 140737488355328 := by omega
  have HL := Lib.hid hl
  have HP := Lib.hid h
  clear h hl hge
  go_enter Try.func22, Try.ntmps22
  go_wp2_with fail
  refine (wnew_any _).mono ?_
  rintro en w1 ⟨rfl, hw1, hb1, hz1⟩
  have hl1 : w.heap.size < w1.heap.size := by omega
  have HW1 := Lib.hid hw1
  have HB1 := Lib.hid hb1
  clear hw1 hb1 hz1
  go_wp2_with fail
  go_loopw [5] (fun i wr => ∃ k : Nat, k ≤ n ∧ i = .int .i64 k ∧ At w1 w1.heap.size w.heap.size none (wAll (ps.take k) (0, [])).1 (wAll (ps.take k) (0, [])).2 wr) (fun i _ => n - (intOf i).toNat)
  case atStart => exact ⟨0, Nat.zero_le _, rfl, none, 0, HW1.out, Step.refl _ _ _⟩
  case round =>
    obtain ⟨k, hk, rfl, A2, c2, hw2, hs2⟩ := hrel
    have hl2 : w1.heap.size ≤ wr.heap.size := hs2.size
    have HB2 := Lib.hid (HB1.out.trans (hs2.to_below (B := w.heap.size) (by omega) (by intro k hk; cases hk) (by omega)))
    have hbl := wAll_len (ps.take k) (0, [])
    by_cases hlt : k < n
    · have hkl : k < ps.length := by rw [HL.out]; exact hlt
      obtain ⟨ad, rfl⟩ : ∃ ad, Ap = some ad := by
        cases Ap with
        | none => have := (HP.out.nil rfl).1; omega
        | some ad => exact ⟨ad, rfl⟩
      have hbt := costs_take ps k hkl
      obtain ⟨b, o, An, cn, As, cs, Ab, cb, rfl, hv, k0, k1, k2, k3, k4, k5⟩ := (HP.out.keep fun k hk _ => HB2.out.block k hk).cells k hkl
      have C := put_any w1.heap.size w.heap.size (wAll (ps.take k) (0, [])) A2 c2 ps[k] An cn As cs Ab cb wr hw2 (hv.weak fun j hj => ⟨by omega, fun e => by have := (hw2.rowLt _ e).1; omega⟩) (by simp at hbl; omega)
      rw [← wAll_snoc ps k hkl] at C
      unfold pcells at C
      have HC := Lib.hid C
      have HS2 := Lib.hid hs2
      have hcp := HP.out.cap
      clear hw2 hs2 hbl hbt hv C
      go_wp2_with (go_at_call 14; refine HC.out.mono ?_; rintro en w7 ⟨rfl, hat⟩; have HA := Lib.hid hat; clear hat)
      go_roundw
      case rel => exact ⟨k + 1, by omega, by go_num, At.trans HS2.out HA.out⟩
      case measure => simp [intOf]; omega
    · obtain rfl : k = n := by omega
      have htk : ps.take k = ps := List.take_of_length_le (by rw [HL.out]; exact Nat.le_refl _)
      rw [htk] at hw2 hbl
      have hlim : (wAll ps (0, [])).2.length ≤ 140737488355328 := by simp at hbl; omega
      have HW2 := Lib.hid hw2
      clear hw2 hs2 hbl htk
      obtain ⟨wq, rfl⟩ : ∃ wq : World, wq = wr := ⟨_, rfl⟩
      generalize wAll ps (0, []) = s at *
      obtain ⟨e, bs⟩ := s
      by_cases he : e = 0
      · subst he
        have HC := Lib.hid (bytes_ok _ _ _ _ _ wq HW2.out hlim)
        go_wp2_with fail
        refine HC.out.mono ?_
        rintro en w3 ⟨A3, c3, rfl, hown, hb3⟩
        have HO := Lib.hid hown
        have HB3 := Lib.hid hb3
        clear hown hb3
        go_wp2_with fail
        go_ret2
        exact ⟨A3, c3, bs, rfl, fun _ => rfl, own_more HO.out (by have := HB2.out.size; omega), HB2.out.trans (HB3.out.mono (by omega))⟩
      · have he' : (e != 0) = true := by simpa using he
        have he2 : (e == 0) = false := by simpa using he
        have HC := Lib.hid (bytes_err _ _ _ _ _ _ wq HW2.out he')
        have HE := Lib.hid he
        clear he
        go_wp2_with fail
        refine HC.out.mono ?_
        rintro en w3 ⟨rfl, hb3⟩
        have HB3 := Lib.hid hb3
        clear hb3
        go_wp2_with fail
        go_ret2
        exact ⟨none, 0, [], by simp [he2], fun h => absurd h HE.out, World.ownsRow_nil _ _ _ _, HB2.out.trans (HB3.out.mono (by omega))⟩
end Go.Proofs.Ytkgkgagnpmhoiaa
