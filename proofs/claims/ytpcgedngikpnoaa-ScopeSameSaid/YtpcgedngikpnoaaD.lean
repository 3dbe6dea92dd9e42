/-
  The program's Look and Linear.
-/
import Derived.Test.YtpcgedngikpnoaaC
import Derived.Deep.RegionHeld
namespace Go.Proofs.Ytpcgedngikpnoaa
set_option maxRecDepth 100000
set_option linter.unusedSimpArgs false
set_option linter.unusedVariables false
open Go.RowKit

theorem take_at {P : Program} {md : Region.Mode} {ops : Array Oper} {Q : Exit → Act → World → Prop} {S : World → Prop} {i : Nat} {oi : Oper} {d : Tmp} {v : Value} {fuel : Nat} {listed : Array Bool} {a : Act} {w : World} (hi : ops[i]? = some oi) (hd : oi.dst = some d)
    (hs : Region.noSelect ops = true) (hf : Region.free md ops listed i = true) (hr : (Region.ready md ops listed).contains i = true)
    (hQ : ∀ c a w, Q (.panic c) (a.put (some d) v) w → Q (.panic c) a w) (hy : YieldsIf P ops S oi v a) (hS : S w)
    (h : wpAnyH P md ops Q S fuel (listed.setIfInBounds i true) (a.put (some d) v) w) : wpAnyH P md ops Q S (fuel + 1) listed a w :=
  wpAnyH_take hi hs hf hr (by rw [hd]; exact hQ) hy hS (by rw [hd]; exact h)
/-- How many symbols of an image are looked at. -/
abbrev tabN (r : Sym) (x : Im) : Nat := (tabI r x).2
set_option maxRecDepth 100000 in
set_option maxHeartbeats 4000000 in
/-- What Look hands to first. -/
theorem look1_any (r : Sym) (p : Pl) (x : Im) (k rb nx nb n B : Nat) (L : List Int) (w : World) (hr : Sx w rb r) (hnx : Bx w nx #[.slice (some ⟨nb, 0, none⟩) n n] 31) (ho : w.ownsRow B 3 1 (.slice (some ⟨nb, 0, none⟩) n n) n (ints L))
    (h : SyIn w (fun k => k < w.heap.size) p x) (hf : FitS x) (hk : k < n) (hn : n ≤ 4611686018427387904) (hrn : r.name.length ≤ 140737488355328) :
    Calls Try.prog 29 #[.int .i64 (k : Int), imV p x, .pointer (some ⟨rb, 0, none⟩), .pointer (some ⟨nx, 0, none⟩)] w fun e w' => e = .returned (.int .i64 (tabI r x).1) ∧ w'.ownsRow B 3 1 (.slice (some ⟨nb, 0, none⟩) n n) n (ints (L.set k (tabN r x : Int))) ∧ But nb w w' := by
  have hbx := ibox_below w p x
  have HB1 := Lib.hid hbx
  have HI1 := Lib.hid (Ix.new w p x)
  have HR1 := Lib.hid (hr.below hbx)
  have HN1 := Lib.hid (hnx.below hbx)
  have HO1 := Lib.hid (own_kept ho fun k hk => hbx.block k (ho.lt k hk).2)
  have HS1 := Lib.hid (h.lt hbx)
  have HF := Lib.hid hf
  have hlen : (ints L).length = n := by simpa using ho.1
  have HL := Lib.hid (show L.length = n by rw [← hlen, ints_len])
  have HNB := Lib.hid (ho.lt nb rfl).2
  have HW := Lib.hid (show w.heap.size ≤ (w.alloc (.cells (imA p x) 62)).heap.size from hbx.size)
  clear hbx hr hnx ho h hf hlen
  go_enter Try.func29, Try.ntmps29
  go_upto_region 1 with (fail)
  change Code.wp _ _ _ _ (w.alloc (.cells (imA p x) 62))
  generalize w.alloc (.cells (imA p x) 62) = w1 at *
  generalize hg : w.heap.size = g at *
  have HG := Lib.hid hg
  clear hg
  obtain ⟨c0, c1, c2, c3, c4, c5, c6, c7, c8, c9, c10, c11, c12, c13, c14⟩ := HI1.out.cells
  obtain ⟨y0, y1, y2, y3, y4, y5, y6, y7, y8⟩ := HR1.out.cells
  have n0 := HN1.out.c 0
  simp only [List.getElem?_toArray, List.getElem?_cons_zero] at n0
  have HFI := Lib.hid (tfind_any p.bk.1 x.rows.length p.bk.2 p.fw.1 p.fw.2 (rowF x.rows) x.words x.shift r p.sy.1 p.sy.2 x.syms w1 HS1.out.tab HS1.out.syms HF.out.rows HF.out.words HF.out.syms hrn (fun k _ => HF.out.row k))
  have HT := Lib.hid (show findT x.rows.length (rowF x.rows) x.words x.shift r x.syms = tabI r x from rfl)
  rw [HT.out] at HFI
  clear HT
  generalize htb : tabI r x = t at *
  have HTB := Lib.hid htb
  clear htb
  go_upto_region 2 with (go_at_call 30; (with_reducible refine (HFI.out).mono ?_); rintro e w2 ⟨rfl, hb2⟩; have HB2 := Lib.hid hb2; clear hb2)
  clear c0 c1 c2 c3 c4 c5 c6 c7 c8 c9 c10 c11 c12 c13 c14 y0 y1 y2 y3 y4 y5 y6 y7 y8 n0 HFI
  have n0 := (HN1.out.below HB2.out).c 0
  simp only [List.getElem?_toArray, List.getElem?_cons_zero] at n0
  have HO2 := Lib.hid (own_kept HO1.out fun k hk => HB2.out.block k (HO1.out.lt k hk).2)
  have hc := own_at HO2.out (ints_get L k (by rw [HL.out]; exact hk))
  have hfz : w2.frozen? ⟨nb, k, none⟩ = false := by
    obtain ⟨h1, h2⟩ := HO2.out
    rcases h2 with h1 | ⟨g2, cap, cur, hv, hb, hh, h4, h5, h6, hx⟩
    · cases h1.1
    · injection hv with h1 _ h3
      injection h1 with h1
      injection h1 with h1
      subst h1
      exact frozen_of_row w2 nb k _ _ hh
  have HP := Lib.hid (own_put HO2.out k (.int .i64 (t.2 : Int)))
  have hk0 : (0 : Int) ≤ (k : Int) := by omega
  have hk1 : (k : Int) < (n : Int) := by omega
  go_wp2
  first | go_ret2 | go_ret | skip
  rw [ints_set] at HP
  obtain rfl := HTB.out
  have hs := HB1.out.size
  have hs2 := HB2.out.size
  refine ⟨rfl, HP.out, ?_⟩
  have hw := HW.out
  have hg := HG.out
  refine ⟨HB2.out.os.trans HB1.out.os, HB2.out.tape.trans HB1.out.tape, HB2.out.output.trans HB1.out.output, ?_, fun b hb hl => ?_⟩
  · simp [World.setCell]; omega
  · exact (heap_setCell_other w2 ⟨nb, k, none⟩ b _ hb).trans ((HB2.out.block b (by omega)).trans (HB1.out.block b (by omega)))
/-- The state of Look, when k images are gone through. -/
structure Lk (r : Sym) (skip : Int) (xs : List Im) (w0 : World) (rb rx nx nb : Nat) (k : Nat) (X : World) : Prop where
  base : Below w0.heap.size w0 X
  ref : Sx X rb r
  out : Bx X rx (fdA (0, 0, false)) 29
  box : Bx X nx #[.slice (some ⟨nb, 0, none⟩) xs.length xs.length] 31
  own : X.ownsRow w0.heap.size 3 1 (.slice (some ⟨nb, 0, none⟩) xs.length xs.length) xs.length (ints (numL (tabN r) skip xs k))
  ne : nb ≠ rb ∧ nb ≠ rx ∧ nb ≠ nx
theorem Lk.below {r : Sym} {skip : Int} {xs : List Im} {w0 : World} {rb rx nx nb k B : Nat} {X X' : World} (h : Lk r skip xs w0 rb rx nx nb k X) (hb : Below B X X') (h1 : rb < B) (h2 : rx < B) (h3 : nx < B) (h4 : nb < B) (h0 : w0.heap.size ≤ B) : Lk r skip xs w0 rb rx nx nb k X' :=
  ⟨h.base.trans (hb.mono h0), ⟨h.ref.bx.below' hb h1⟩, h.out.below' hb h2, h.box.below' hb h3, own_kept h.own fun k hk => hb.block k (by simp [Value.ownBlock] at hk; omega), h.ne⟩
theorem Lk.but {r : Sym} {skip : Int} {xs : List Im} {w0 : World} {rb rx nx nb k : Nat} {X X' : World} (h : Lk r skip xs w0 rb rx nx nb k X) (hb : But nb X X') (ho : X'.ownsRow w0.heap.size 3 1 (.slice (some ⟨nb, 0, none⟩) xs.length xs.length) xs.length (ints (numL (tabN r) skip xs (k + 1)))) : Lk r skip xs w0 rb rx nx nb (k + 1) X' := by
  have hl := h.own.lt nb rfl
  exact ⟨h.base.trans (hb.below hl.1 h.base.size), ⟨(hb.block rb (Ne.symm h.ne.1) h.ref.bx.lt).trans h.ref.bx⟩, (hb.block rx (Ne.symm h.ne.2.1) h.out.lt).trans h.out, (hb.block nx (Ne.symm h.ne.2.2) h.box.lt).trans h.box, ho, h.ne⟩
set_option maxRecDepth 100000 in
set_option maxHeartbeats 4000000 in
theorem look_any (r : Sym) (skip : Int) (A : Option Addr) (n c : Nat) (xs : List Im) (w : World) (h : Ims w (fun k => k < w.heap.size) A n c xs) (hf : FitsS xs) (hn : n ≤ 17592186044416) (hrn : r.name.length ≤ 140737488355328) :
    Calls Try.prog 13 #[symV r, .int .i64 skip, .slice A n c] w fun e w' => ∃ nb, e = .returned (.tuple #[fdV (lookP (fun x => (tabI r x).1) skip 0 xs), .slice (some ⟨nb, 0, none⟩) n n]) ∧
      w'.ownsRow w.heap.size 3 1 (.slice (some ⟨nb, 0, none⟩) n n) n (ints (numL (tabN r) skip xs (goneP (fun x => (tabI r x).1) skip 0 xs))) ∧ Below w.heap.size w w' := by
  obtain ⟨i0, hi, hz0, hz1, hz2⟩ := info3 (show (Try.prog.info? 3).map (fun i => (i.zero, i.size, i.bytes)) = some (some (.int .i64 0), 1, 8) by kernel_rfl)
  obtain ⟨hl, q, h1, h2⟩ := h
  obtain rfl := hl
  have hb1 : Below w.heap.size w ((w.alloc (.cells (symA r) 25)).alloc (.cells (fdA (0, 0, false)) 29)) := ((Below.refl _ _).alloc (Nat.le_refl _) _).alloc (by simp) _
  have HB1 := Lib.hid hb1
  have HR1 := Lib.hid (show Sx ((w.alloc (.cells (symA r) 25)).alloc (.cells (fdA (0, 0, false)) 29)) w.heap.size r from ⟨(Bx.new w (symA r) 25).alloc _⟩)
  have HX1 := Lib.hid (show Bx ((w.alloc (.cells (symA r) 25)).alloc (.cells (fdA (0, 0, false)) 29)) (w.heap.size + 1) (fdA (0, 0, false)) 29 from by
    have := Bx.new (w.alloc (.cells (symA r) 25)) (fdA (0, 0, false)) 29
    simpa using this)
  have hs1 : ((w.alloc (.cells (symA r) 25)).alloc (.cells (fdA (0, 0, false)) 29)).heap.size = w.heap.size + 2 := by simp
  have HZ1 := Lib.hid hs1
  have HE1 := Lib.hid h1
  have HY := Lib.hid h2
  have HF := Lib.hid hf
  clear hb1 hs1 h1 h2 hf
  go_enter Try.func13, Try.ntmps13
  go_upto_region 1 with (fail)
  change Code.wp _ _ _ _ ((w.alloc (.cells (symA r) 25)).alloc (.cells (fdA (0, 0, false)) 29))
  generalize (w.alloc (.cells (symA r) 25)).alloc (.cells (fdA (0, 0, false)) 29) = w1 at *
  go_upto_region 2 with (at_make; refine wpList_make_full _ rfl _ _ 31 rfl w1.heap.size 3 i0 _ 1 (by kernel_rfl) hi hz0 hz1 .i64 .i64 _ _ xs.length rfl rfl rfl rfl (by rw [hz2]; omega) (by simp only [maxLen]; omega) (Nat.le_refl _) ?_; intro w2 hown hg2; rw [noughts] at hown; have HO2 := Lib.hid hown; have HB2 := Lib.hid ((Below.refl w1.heap.size w1).grown hg2 (Nat.le_refl _) (fun k hk => by cases hk)); clear hown hg2)
  have hbx : Below w2.heap.size w2 (w2.alloc (.cells #[.slice (some ⟨w1.heap.size, 0, none⟩) xs.length xs.length] 31)) := (Below.refl _ _).alloc (Nat.le_refl _) _
  have hz1 := HZ1.out
  have hz2 : w1.heap.size < w2.heap.size := (HO2.out.lt w1.heap.size rfl).2
  have HI0 := Lib.hid (show Lk r skip xs w w.heap.size (w.heap.size + 1) w2.heap.size w1.heap.size 0 (w2.alloc (.cells #[.slice (some ⟨w1.heap.size, 0, none⟩) xs.length xs.length] 31)) from
    ⟨HB1.out.trans ((HB2.out.mono (by omega)).trans (hbx.mono (by omega))), (HR1.out.below HB2.out).below hbx, (HX1.out.below HB2.out).below hbx, Bx.new _ _ _,
      by rw [numL_zero]; exact own_more (own_kept HO2.out fun k hk => hbx.block k (HO2.out.lt k hk).2) (by omega), by omega, by omega, by omega⟩)
  have HZ3 := Lib.hid (show (w2.alloc (.cells #[.slice (some ⟨w1.heap.size, 0, none⟩) xs.length xs.length] 31)).heap.size = w2.heap.size + 1 by simp)
  have HBW := Lib.hid (show w.heap.size + 2 ≤ w1.heap.size ∧ w1.heap.size < w2.heap.size by omega)
  clear hbx hz1 hz2 HO2 HB2 HR1 HX1 HB1 HZ1
  change Code.wp _ _ _ _ (w2.alloc (.cells #[.slice (some ⟨w1.heap.size, 0, none⟩) xs.length xs.length] 31))
  generalize w2.alloc (.cells #[.slice (some ⟨w1.heap.size, 0, none⟩) xs.length xs.length] 31) = w3 at *
  generalize w2.heap.size = nx at *
  generalize w1.heap.size = nb at *
  have HC := Lib.hid (first_any (Lk r skip xs w w.heap.size (w.heap.size + 1) nx nb) (fun x => (tabI r x).1) skip A xs.length c xs q 29 #[.pointer (some ⟨w.heap.size, 0, none⟩), .pointer (some ⟨nx, 0, none⟩)] w w3.drew HE1.out rfl (by omega) (fun _ _ => by go_simp)
    (HI0.out.below (drew_below w3) HI0.out.ref.bx.lt HI0.out.out.lt HI0.out.box.lt (HI0.out.own.lt nb rfl).2 HI0.out.base.size)
    (fun k X X' hI hb => by
      have hz3 : w3.drew.heap.size = nx + 1 := HZ3.out
      have hbw := HBW.out
      rw [hz3] at hb
      exact hI.below hb (by omega) (by omega) (by omega) (by omega) (by omega))
    (fun k X hI => hI.base)
    (fun k X _ hs hI => ⟨hI.base, hI.ref, hI.out, hI.box, by rw [numL_skip hs]; exact hI.own, hI.ne⟩)
    (fun k X hk hs hI hz => by
      have hx : xs.getD k noIm ∈ xs := by rw [List.getD_eq_getElem?_getD, List.getElem?_eq_getElem hk, Option.getD_some]; exact List.getElem_mem hk
      have hsy : SyIn X (fun k => k < X.heap.size) (q k) (xs.getD k noIm) := (HY.out k hk).lt hI.base
      refine (look1_any r (q k) (xs.getD k noIm) k w.heap.size nx nb xs.length w.heap.size (numL (tabN r) skip xs k) X hI.ref hI.box hI.own hsy (HF.out.2 _ hx) hk (by omega) hrn).mono ?_
      rintro e w' ⟨rfl, ho, hb⟩
      have hbw := HBW.out
      have hz3 : w3.drew.heap.size = nx + 1 := HZ3.out
      refine ⟨rfl, hI.but hb (by rw [numL_set hk hs]; exact ho), hb.size, fun b h1 h2 => hb.block b (by omega) h2⟩))
  have n0 : w3.drew.cell? ⟨nx, 0, none⟩ = some (.slice (some ⟨nb, 0, none⟩) xs.length xs.length) := HI0.out.box.c 0
  have HNN := Lib.hid (show (∀ k X, Lk r skip xs w w.heap.size (w.heap.size + 1) nx nb k X → X.cell? ⟨nx, 0, none⟩ = some (.slice (some ⟨nb, 0, none⟩) xs.length xs.length)) from fun k X hI => hI.box.c 0)
  generalize hLL : lookP (fun x => (tabI r x).1) skip 0 xs = L at *
  generalize hGG : goneP (fun x => (tabI r x).1) skip 0 xs = G at *
  have HLL := Lib.hid hLL
  have HGG := Lib.hid hGG
  clear hLL hGG
  go_upto_region 3 with (fail)
  refine wp_region_held_drew (S := fun X => X.cell? ⟨nx, 0, none⟩ = some (.slice (some ⟨nb, 0, none⟩) xs.length xs.length)) (by kernel_rfl) n0 (fun hHeld0 => ?_)
  refine take_at (i := 0) (d := 14) (v := (.int .i64 skip)) rfl rfl (by kernel_rfl) (by kernel_rfl) (by kernel_rfl) (fun _ _ _ h => h) (Or.inl ⟨by rfl, ?_⟩) (by assumption) ?_
  · intro X hX; go_simp
  (try simp only [Act.put, List.setIfInBounds_toArray, List.set_cons_zero, List.set_cons_succ])
  refine take_at (i := 1) (d := 15) (v := (.func (.func 29) #[] #[.pointer (some ⟨w.heap.size, 0, none⟩), .pointer (some ⟨nx, 0, none⟩)])) rfl rfl (by kernel_rfl) (by kernel_rfl) (by kernel_rfl) (fun _ _ _ h => h) (Or.inl ⟨by rfl, ?_⟩) (by assumption) ?_
  · intro X hX; go_simp
  (try simp only [Act.put, List.setIfInBounds_toArray, List.set_cons_zero, List.set_cons_succ])
  refine take_at (i := 2) (d := 16) (v := (.slice A xs.length c)) rfl rfl (by kernel_rfl) (by kernel_rfl) (by kernel_rfl) (fun _ _ _ h => h) (Or.inl ⟨by rfl, ?_⟩) (by assumption) ?_
  · intro X hX; go_simp
  (try simp only [Act.put, List.setIfInBounds_toArray, List.set_cons_zero, List.set_cons_succ])
  refine take_at (i := 4) (d := 18) (v := (.slice (some ⟨nb, 0, none⟩) xs.length xs.length)) rfl rfl (by kernel_rfl) (by kernel_rfl) (by kernel_rfl) (fun _ _ _ h => h) (Or.inl ⟨by rfl, ?_⟩) (by assumption) ?_
  · intro X hX; go_simp
  (try simp only [Act.put, List.setIfInBounds_toArray, List.set_cons_zero, List.set_cons_succ])
  refine wpAnyH_ready (rs := [3]) (by kernel_rfl) (by simp) ?_
  refine AllReadyH.cons rfl (fun K hK => ?_) AllReadyH.nil
  go_simp
  (with_reducible refine (HC.out).mono ?_)
  rintro e w4 ⟨rfl, hi4, hz4⟩
  have HI4 := Lib.hid hi4; have HZ4 := Lib.hid hz4; clear hi4 hz4
  go_simp
  refine hK.out _ _ (HNN.out _ _ HI4.out) (fun hHeld1 => ?_)
  clear hK K
  (try simp only [Act.put, List.setIfInBounds_toArray, List.set_cons_zero, List.set_cons_succ])
  have x0 := HI4.out.out.c 0
  have x1 := HI4.out.out.c 1
  have x2 := HI4.out.out.c 2
  have f0 := HI4.out.out.f 0
  have f1 := HI4.out.out.f 1
  have f2 := HI4.out.out.f 2
  have hq := fd_set HI4.out.out L
  have hqr := fd_rest w4 (w.heap.size + 1) L
  have HNX := Lib.hid (show w.heap.size + 1 ≠ nx by have := HBW.out; omega)
  have HQ := Lib.hid hq
  have HQR := Lib.hid hqr
  have HBX := Lib.hid (show Bx (fd3 w4 (w.heap.size + 1) L) nx #[.slice (some ⟨nb, 0, none⟩) xs.length xs.length] 31 from (hqr.1.block nx (Ne.symm HNX.out) HI4.out.box.lt).trans HI4.out.box)
  clear hq hqr
  refine wpAnyH_ready (rs := [5]) (by kernel_rfl) (by simp) ?_
  refine AllReadyH.cons rfl (fun K hK => ?_) AllReadyH.nil
  go_simp
  refine hK.out _ _ (HBX.out.c 0) (fun hHeld2 => ?_)
  clear hK K
  (try simp only [Act.put, List.setIfInBounds_toArray, List.set_cons_zero, List.set_cons_succ])
  refine take_at (i := 6) (d := 7) (v := (.slice (some ⟨nb, 0, none⟩) xs.length xs.length)) rfl rfl (by kernel_rfl) (by kernel_rfl) (by kernel_rfl) (fun _ _ _ h => h) (Or.inl ⟨by rfl, ?_⟩) (by assumption) ?_
  · intro X hX; go_simp
  (try simp only [Act.put, List.setIfInBounds_toArray, List.set_cons_zero, List.set_cons_succ])
  refine wpAnyH_done (by kernel_rfl) ?_ _
  change Exit.then _ _ _ _ (fd3 w4 (w.heap.size + 1) L)
  have HO5 := Lib.hid (own_kept HI4.out.own fun k hk => HQR.out.1.block k (by have := HBW.out; have := HI4.out.ne; simp [Value.ownBlock] at hk; omega) (HI4.out.own.lt k hk).2)
  have HB5 := Lib.hid (HI4.out.base.trans (HQ.out.2.mono (by omega)))
  have HX5 := Lib.hid HQ.out.1
  clear x0 x1 x2 f0 f1 f2 HQ HQR HBX HNX n0
  generalize fd3 w4 (w.heap.size + 1) L = w5 at *
  have x0 := HX5.out.c 0
  have x1 := HX5.out.c 1
  have x2 := HX5.out.c 2
  go_upto_region 99 with (fail)
  refine bodyPost_ret (v := .tuple #[fdV L, .slice (some ⟨nb, 0, none⟩) xs.length xs.length]) (by simp [results, Try.results13, go_sem, x0, x1, x2]) rfl ⟨nb, by rw [HLL.out], by rw [HGG.out]; exact HO5.out, HB5.out⟩
/-- The state of Linear. -/
structure Ln (r : Sym) (w0 : World) (rb rx : Nat) (X : World) : Prop where
  base : Below w0.heap.size w0 X
  ref : Sx X rb r
  out : Bx X rx (fdA (0, 0, false)) 29
set_option maxRecDepth 100000 in
set_option maxHeartbeats 4000000 in
theorem linear1_any (r : Sym) (p : Pl) (x : Im) (k rb : Nat) (w : World) (hr : Sx w rb r) (h : SyIn w (fun k => k < w.heap.size) p x) (hf : FitS x) :
    Calls Try.prog 33 #[.int .i64 (k : Int), imV p x, .pointer (some ⟨rb, 0, none⟩)] w fun e w' => e = .returned (.int .i64 (linI r x)) ∧ Below w.heap.size w w' := by
  have hbx := ibox_below w p x
  have HB1 := Lib.hid hbx
  have HI1 := Lib.hid (Ix.new w p x)
  have HR1 := Lib.hid (hr.below hbx)
  have HS1 := Lib.hid (h.lt hbx)
  have hsy := hf.syms
  have HC := Lib.hid (scan_any r p.sy.1 x.syms.length p.sy.2 x.syms _ HS1.out.syms (by omega))
  have HT := Lib.hid (show firstS r x.syms = linI r x from rfl)
  rw [HT.out] at HC
  clear hbx hr h hf HT
  go_enter Try.func33, Try.ntmps33
  go_upto_region 1 with (fail)
  change Code.wp _ _ _ _ (w.alloc (.cells (imA p x) 62))
  generalize w.alloc (.cells (imA p x) 62) = w1 at *
  obtain ⟨c0, c1, c2, c3, c4, c5, c6, c7, c8, c9, c10, c11, c12, c13, c14⟩ := HI1.out.cells
  obtain ⟨y0, y1, y2, y3, y4, y5, y6, y7, y8⟩ := HR1.out.cells
  go_upto_region 99 with (go_at_call 34; (with_reducible refine (HC.out).mono ?_); rintro e w2 ⟨rfl, hb2⟩; have HB2 := Lib.hid (HB1.out.trans (hb2.mono HB1.out.size)); clear hb2)
  first | go_ret2 | go_ret | skip
  exact ⟨rfl, HB2.out⟩
set_option maxRecDepth 100000 in
set_option maxHeartbeats 4000000 in
theorem linear_any (r : Sym) (skip : Int) (A : Option Addr) (n c : Nat) (xs : List Im) (w : World) (h : Ims w (fun k => k < w.heap.size) A n c xs) (hf : FitsS xs) (hn : n ≤ 4611686018427387904) :
    Calls Try.prog 17 #[symV r, .int .i64 skip, .slice A n c] w fun e w' => e = .returned (fdV (lookP (linI r) skip 0 xs)) ∧ Below w.heap.size w w' := by
  obtain ⟨hl, q, h1, h2⟩ := h
  obtain rfl := hl
  have hb1 : Below w.heap.size w ((w.alloc (.cells (symA r) 25)).alloc (.cells (fdA (0, 0, false)) 29)) := ((Below.refl _ _).alloc (Nat.le_refl _) _).alloc (by simp) _
  have HX1 := Lib.hid (show Bx ((w.alloc (.cells (symA r) 25)).alloc (.cells (fdA (0, 0, false)) 29)) (w.heap.size + 1) (fdA (0, 0, false)) 29 from by
    have := Bx.new (w.alloc (.cells (symA r) 25)) (fdA (0, 0, false)) 29
    simpa using this)
  have HI0 := Lib.hid (show Ln r w w.heap.size (w.heap.size + 1) _ from ⟨hb1, ⟨(Bx.new w (symA r) 25).alloc (.cells (fdA (0, 0, false)) 29)⟩, HX1.out⟩)
  have hs1 : ((w.alloc (.cells (symA r) 25)).alloc (.cells (fdA (0, 0, false)) 29)).heap.size = w.heap.size + 2 := by simp
  have HZ1 := Lib.hid hs1
  have HE1 := Lib.hid h1
  have HY := Lib.hid h2
  have HF := Lib.hid hf
  clear hb1 hs1 h1 h2 hf
  go_enter Try.func17, Try.ntmps17
  go_upto_region 1 with (fail)
  change Code.wp _ _ _ _ ((w.alloc (.cells (symA r) 25)).alloc (.cells (fdA (0, 0, false)) 29))
  generalize (w.alloc (.cells (symA r) 25)).alloc (.cells (fdA (0, 0, false)) 29) = w1 at *
  have HC := Lib.hid (first_any (fun _ => Ln r w w.heap.size (w.heap.size + 1)) (linI r) skip A xs.length c xs q 33 #[.pointer (some ⟨w.heap.size, 0, none⟩)] w w1 HE1.out rfl (by omega) (fun _ _ => by go_simp)
    HI0.out
    (fun k X X' hI hb => ⟨hI.base.trans (hb.mono (by have := HZ1.out; omega)), ⟨hI.ref.bx.below' hb (by have := HZ1.out; omega)⟩, hI.out.below' hb (by have := HZ1.out; omega)⟩)
    (fun k X hI => hI.base)
    (fun k X _ _ hI => hI)
    (fun k X hk hs hI hz => by
      have hx : xs.getD k noIm ∈ xs := by rw [List.getD_eq_getElem?_getD, List.getElem?_eq_getElem hk, Option.getD_some]; exact List.getElem_mem hk
      have hsy : SyIn X (fun k => k < X.heap.size) (q k) (xs.getD k noIm) := (HY.out k hk).lt hI.base
      refine (linear1_any r (q k) (xs.getD k noIm) k w.heap.size X hI.ref hsy (HF.out.2 _ hx)).mono ?_
      rintro e w' ⟨rfl, hb⟩
      exact ⟨rfl, ⟨hI.base.trans (hb.mono hI.base.size), hI.ref.below hb, hI.out.below hb⟩, hb.size, fun b h1 h2 => hb.block b h2⟩))
  generalize hLL : lookP (linI r) skip 0 xs = L at *
  have HLL := Lib.hid hLL
  clear hLL
  go_upto_region 2 with (fail)
  refine wp_region_lit ?_
  go_wp2_with (go_at_call 31; (with_reducible refine (HC.out).mono ?_); rintro e w4 ⟨rfl, hi4, hz4⟩; have HI4 := Lib.hid hi4; clear hi4 hz4; have x0 := HI4.out.out.c 0; have x1 := HI4.out.out.c 1; have x2 := HI4.out.out.c 2; have f0 := HI4.out.out.f 0; have f1 := HI4.out.out.f 1; have f2 := HI4.out.out.f 2)
  have hq := fd_set HI4.out.out L
  have HB5 := Lib.hid (HI4.out.base.trans (hq.2.mono (by omega)))
  have HX5 := Lib.hid hq.1
  clear hq x0 x1 x2 f0 f1 f2
  change bodyPost _ _ _ _ _ (fd3 w4 (w.heap.size + 1) L)
  generalize fd3 w4 (w.heap.size + 1) L = w5 at *
  have x0 := HX5.out.c 0
  have x1 := HX5.out.c 1
  have x2 := HX5.out.c 2
  exact bodyPost_ret (v := fdV L) (by simp [results, Try.results17, go_sem, x0, x1, x2]) rfl ⟨by rw [HLL.out], HB5.out⟩
end Go.Proofs.Ytpcgedngikpnoaa
