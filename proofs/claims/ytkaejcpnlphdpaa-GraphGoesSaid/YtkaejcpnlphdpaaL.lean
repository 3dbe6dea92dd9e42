/-
  The document's Post.
-/
import Derived.Test.YtkaejcpnlphdpaaK
import Derived.StillTailTactics
import Derived.Deep.Cut
namespace Go.Proofs.Ytkaejcpnlphdpaa
open Go.RowKit

abbrev nodesT (ts : List (Int × Nat)) : List Int := ts.reverse.map (·.1)
abbrev goneT (ts : List (Int × Nat)) : List Int := ts.reverse.map fun p => (p.2 : Int)
theorem nodesT_cons (x : Int) (k : Nat) (ts : List (Int × Nat)) : nodesT ((x, k) :: ts) = nodesT ts ++ [x] := by simp
theorem goneT_cons (x : Int) (k : Nat) (ts : List (Int × Nat)) : goneT ((x, k) :: ts) = goneT ts ++ [(k : Int)] := by simp
theorem nodesT_len (ts : List (Int × Nat)) : (nodesT ts).length = ts.length := by simp
theorem goneT_len (ts : List (Int × Nat)) : (goneT ts).length = ts.length := by simp
theorem first_rows {w : World} {B : Nat} (O : Option Addr) (co : Nat) (p : List Int) (root : Int) (h : w.ownsRow B 3 1 (.slice O p.length co) p.length (ints p)) (hB : B ≤ w.heap.size) :
    Rw ((w.alloc (.cells #[.int .i64 root] 3)).alloc (.cells #[.int .i64 0] 3)) B ([(none, 0, [])] ++ (O, co, p) :: [(some ⟨w.heap.size, 0, none⟩, 1, [root]), (some ⟨w.heap.size + 1, 0, none⟩, 1, [0])]) := by
  have hb : Below w.heap.size w ((w.alloc (.cells #[.int .i64 root] 3)).alloc (.cells #[.int .i64 0] 3)) := ((Below.refl _ w).alloc (Nat.le_refl _) _).alloc (by rw [alloc_size]; omega) _
  have hlt : ∀ k, row O = some k → k < w.heap.size := fun k hk => (h.lt k (by rw [row_own]; exact hk)).2
  refine ⟨fun x hx => ?_, ?_⟩
  · simp only [List.cons_append, List.nil_append, List.mem_cons, List.not_mem_nil, or_false] at hx
    rcases hx with rfl | rfl | rfl | rfl
    · exact World.ownsRow_nil _ _ _ _
    · exact own_kept h fun k hk => hb.block k (h.lt k hk).2
    · exact own_one ((Bx.new w #[.int .i64 root] 3).keep (Below.heap_alloc _ _ _ (by rw [alloc_size]; omega))) hB
    · have := Bx.new (w.alloc (.cells #[.int .i64 root] 3)) #[.int .i64 0] 3
      rw [alloc_size] at this
      exact own_one this (by omega)
  · refine List.Pairwise.cons (fun y _ k hk => by cases hk) (.cons (fun y hy k hk e => ?_) (.cons (fun y hy k hk e => ?_) (.cons (by simp) .nil)))
    · have := hlt k hk
      simp only [List.mem_cons, List.not_mem_nil, or_false] at hy
      rcases hy with rfl | rfl
      · injection e with e; simp only at e; omega
      · injection e with e; simp only at e; omega
    · simp only [List.mem_cons, List.not_mem_nil, or_false] at hy
      subst hy
      injection hk with hk
      injection e with e
      simp only at hk e
      omega
theorem nodesT_take (x : Int) (k : Nat) (ts : List (Int × Nat)) : (nodesT ((x, k) :: ts)).take ts.length = nodesT ts := by
  rw [nodesT_cons, List.take_append_of_le_length (by simp), List.take_of_length_le (by simp)]
theorem goneT_take (x : Int) (k : Nat) (ts : List (Int × Nat)) : (goneT ((x, k) :: ts)).take ts.length = goneT ts := by
  rw [goneT_cons, List.take_append_of_le_length (by simp), List.take_of_length_le (by simp)]
theorem Rw.popped {w : World} {B : Nat} {x y : Rr} {Aa Ag : Option Addr} {ca cg : Nat} {m : Int} {k : Nat} {ts : List (Int × Nat)} (h : Rw w B [x, y, (Aa, ca, nodesT ((m, k) :: ts)), (Ag, cg, goneT ((m, k) :: ts))]) : Rw w B [x, y, (Aa, ca, nodesT ts), (Ag, cg, goneT ts)] := by
  have h1 := Rw.take (l1 := [x, y]) h ts.length (by simp)
  rw [nodesT_take] at h1
  have h2 := Rw.take (l1 := [x, y, (Aa, ca, nodesT ts)]) h1 ts.length (by simp)
  rw [goneT_take] at h2
  exact h2
theorem goneT_set (x : Int) (k : Nat) (ts : List (Int × Nat)) : (goneT ((x, k) :: ts)).set ts.length ((k : Int) + 1) = goneT ((x, k + 1) :: ts) := by
  rw [goneT_cons, goneT_cons, List.set_append_right _ _ (by simp)]
  simp
theorem Rw.bumped {w : World} {B : Nat} {x y : Rr} {Aa : Option Addr} {ca cg rg : Nat} {m : Int} {k : Nat} {ts : List (Int × Nat)} (h : Rw w B [x, y, (Aa, ca, nodesT ((m, k) :: ts)), (some ⟨rg, 0, none⟩, cg, goneT ((m, k) :: ts))]) :
    Rw (w.setCell ⟨rg, ts.length, none⟩ (.int .i64 ((k : Int) + 1))) B [x, y, (Aa, ca, nodesT ((m, k + 1) :: ts)), (some ⟨rg, 0, none⟩, cg, goneT ((m, k + 1) :: ts))] ∧ Below B w (w.setCell ⟨rg, ts.length, none⟩ (.int .i64 ((k : Int) + 1))) := by
  have h1 := Rw.store (l1 := [x, y, (Aa, ca, nodesT ((m, k) :: ts))]) (l2 := []) (j := ts.length) (v := (k : Int) + 1) h (by simp)
  rw [goneT_set] at h1
  have h2 : nodesT ((m, k + 1) :: ts) = nodesT ((m, k) :: ts) := by rw [nodesT_cons, nodesT_cons]
  rw [h2]
  exact h1
theorem Fin.next' {g : Gr} {c k : Nat} {x : Int} {ts : List (Int × Nat)} {C o C' o' q : List Int} (h : Fin g c ((x, k) :: ts) C o C' o') (hq : adj g x = q) (hk : k < q.length) : ((q[k] ∈ C ∧ ∃ c2, c2 < c ∧ Fin g c2 ((x, k + 1) :: ts) C o C' o') ∨ (q[k] ∉ C ∧ ∃ c2, c2 < c ∧ Fin g c2 ((q[k], 0) :: (x, k + 1) :: ts) (C ++ [q[k]]) o C' o')) := by
  subst hq
  exact h.next hk
theorem own_plain {w : World} {B n c : Nat} {e : TypeId} {A : Option Addr} {xs : List Value} (h : w.ownsRow B e 1 (.slice A n c) n xs) (h0 : 0 < n) : ∃ r, A = some ⟨r, 0, none⟩ := by
  rcases h.2 with ⟨_, h1⟩ | ⟨g2, cap, cur, hv, _⟩
  · omega
  · injection hv with a _ _
    exact ⟨g2, a⟩
theorem own_cell {w : World} {B n c r j : Nat} {e : TypeId} {xs : List Value} {v : Value} (h : w.ownsRow B e 1 (.slice (some ⟨r, 0, none⟩) n c) n xs) (hv : xs[j]? = some v) : w.cell? ⟨r, j, none⟩ = some v := by
  obtain ⟨cur, hb, hs, ht⟩ := own_bx h
  rw [hb.c j, ← hv, ← ht]
  have hj := (List.getElem?_eq_some_iff.1 hv).1
  rw [← ht, List.length_take] at hj
  rw [List.getElem?_take_of_lt (by omega), Array.getElem?_toList]
set_option maxRecDepth 100000 in
set_option maxHeartbeats 8000000 in
theorem rPost_any (Q Q2 : Nat → Prop) (E A : Option Addr) (ce c : Nat) (ws : Nat → Option Addr × Nat) (g : Gr) (root : Int) (done : List Int) (C' o' : List Int) (w : World) (h : Ed w Q E ce ws g) (h2 : Src w Q2 A done.length c (ints done)) (hn2 : done.length ≤ 4611686018427387904)
    (hok : okP g root done = true) (hd : D g (once [] done) [] [root] C' o') :
    Calls Try.prog 20 #[.slice E g.length ce, .int .i64 root, .slice A done.length c] w fun e w' => ∃ O co, e = .returned (.slice O o'.length co) ∧ w'.ownsRow w.heap.size 3 1 (.slice O o'.length co) o'.length (ints o') ∧ Below w.heap.size w w' := by
  obtain ⟨hg, hdn, hr⟩ := okP_parts hok
  have HE := Lib.hid h.lt
  have hn := right_len hg
  have HG := Lib.hid hg
  have HR := Lib.hid hr
  have HON := Lib.hid (once_any w.heap.size g.length [] none 0 _ A c done w (World.ownsRow_nil _ _ _ _) (Nat.le_refl _) h2.lt (fun _ h => h) hdn (Full.nil _) hn hn2)
  have HFU := Lib.hid ((Full.nil g.length).once hdn)
  have HDD := Lib.hid hd
  obtain ⟨i0, hi0, hz0, hz1, hz2⟩ := info3 (show (Try.prog.info? 3).map (fun i => (i.zero, i.size, i.bytes)) = some (some (.int .i64 0), 1, 8) by kernel_rfl)
  clear h h2 hg hdn hr hok hd
  generalize once [] done = p0 at *
  have hp0 := HFU.out.le
  go_enter Try.func20, Try.ntmps20
  go_wp2_with fail
  refine HON.out.mono ?_
  rintro e w2 ⟨O2, co2, rfl, hw2, hb2⟩
  have HB2 := Lib.hid hb2
  have HW2 := Lib.hid hw2
  have HH := Lib.hid (has_any _ O2 co2 p0 root w2 (Src.of_own hw2) (by omega))
  clear hw2 hb2 HON
  by_cases hroot : root ∈ p0
  · rw [decide_eq_true hroot] at HH
    have ho : o' = [] := by
      rcases HDD.out.last with ⟨_, _, h3⟩ | ⟨h3, _⟩
      · exact h3
      · exact absurd hroot h3
    subst ho
    clear hroot HDD
    go_wp2_with fail
    refine HH.out.mono ?_
    rintro e w3 ⟨rfl, hb3⟩
    have HB3 := Lib.hid (HB2.out.trans (hb3.mono HB2.out.size))
    clear hb3 HH
    go_wp2_with fail
    go_ret
    exact ⟨none, 0, rfl, World.ownsRow_nil _ _ _ _, HB3.out⟩
  · rw [decide_eq_false hroot] at HH
    obtain ⟨cd, hcd⟩ := HDD.out.cnt
    obtain ⟨cf, hcf⟩ := Fin.first hcd hroot
    have HCF := Lib.hid hcf
    have HFU2 := Lib.hid (HFU.out.snoc hroot HR.out)
    have hp1 := HFU2.out.le
    rw [List.length_append] at hp1
    simp only [List.length_cons, List.length_nil] at hp1
    clear hroot HDD hcd hcf
    go_wp2_with fail
    refine HH.out.mono ?_
    rintro e w3 ⟨rfl, hb3⟩
    have HB3 := Lib.hid (HB2.out.trans (hb3.mono HB2.out.size))
    have HW3 := Lib.hid (own_kept HW2.out fun j hj => hb3.block j (HW2.out.lt j hj).2)
    clear hb3 HH HW2
    have hwl : w.heap.size ≤ w3.heap.size := HB3.out.size
    have HRW := Lib.hid (first_rows (w := w3) (B := w.heap.size) O2 co2 p0 root HW3.out hwl)
    have HB5 := Lib.hid (((HB3.out.alloc hwl (.cells #[.int .i64 root] 3))).alloc (by rw [alloc_size]; omega) (.cells #[.int .i64 0] 3))
    clear HW3
    have HSL := Lib.hid (src_lit ((w3.alloc (.cells #[.int .i64 root] 3)).alloc (.cells #[.int .i64 0] 3)) [.int .i64 root] 3 (fun _ => True) trivial)
    have hsz5 : w.heap.size ≤ ((w3.alloc (.cells #[.int .i64 root] 3)).alloc (.cells #[.int .i64 0] 3)).heap.size := HB5.out.size
    go_upto_region 6 with (fail)
    change Code.wp _ _ _ _ ((w3.alloc (.cells #[.int .i64 root] 3)).alloc (.cells #[.int .i64 0] 3))
    generalize (w3.alloc (.cells #[.int .i64 root] 3)).alloc (.cells #[.int .i64 0] 3) = w5 at *
    generalize w3.heap.size = s3 at *
    have HOA := Lib.hid (HRW.out.at_.alloc (.cells #[.int .i64 root] 3))
    go_upto_region 7 with (at_builtin; refine wpList_append_src rfl (.tmp 22) (.tmp 24) 23 rfl w.heap.size 3 i0 (.int .i64 0) 8 Try.underlying23 hi0 hz0 hz1 hz2 rfl (.slice O2 p0.length co2) p0.length (ints p0) rfl HOA.out (fun _ => True) _ 1 1 [.int .i64 root] rfl HSL.out (by intro u hu; simp at hu; subst hu; rfl) (by simp only [maxLen]; omega) (by omega) (by rw [alloc_size]; omega) ?_; intro v' w6 hown hg hat; obtain ⟨A6, c6, rfl⟩ := own_slice hown; rw [row_own] at hg hat; rw [row_own] at hat; have HFIN := Lib.hid (HRW.out.push hsz5 hg hown hat); clear hown hg hat)
    have HR6 := Lib.hid HFIN.out.1
    have HB6 := Lib.hid (HB5.out.trans HFIN.out.2)
    clear HFIN HRW HOA HSL HB5 hsz5 HFU
    go_upto_region 99 with (fail)
    go_loopg [7, 8, 9, 10] cf (fun cnt vo ve va vg wr => ∃ (ts : List (Int × Nat)) (C o : List Int) (Ao Ae Aa Ag : Option Addr) (co ce ca cg : Nat), vo = .slice Ao o.length co ∧ ve = .slice Ae C.length ce ∧ va = .slice Aa ts.length ca ∧ vg = .slice Ag ts.length cg ∧ Fin g cnt ts C o C' o' ∧
      Rw wr w.heap.size [(Ao, co, o), (Ae, ce, C), (Aa, ca, nodesT ts), (Ag, cg, goneT ts)] ∧ Full g.length C ∧ ts.length + o.length + p0.length = C.length ∧ (∀ p ∈ ts, isNode g.length p.1 = true) ∧ Below w.heap.size w wr)
    case atStart =>
      exact ⟨[(root, 0)], p0 ++ [root], [], none, A6, some ⟨s3, 0, none⟩, some ⟨s3 + 1, 0, none⟩, 0, c6, 1, 1, rfl, by simp, rfl, rfl, HCF.out, HR6.out, HFU2.out, by simp; omega, by simp; exact HR.out, HB6.out⟩
    case round =>
      obtain ⟨ts, C, o, Ao, Ae, Aa, Ag, co1, ce1, ca1, cg1, rfl, rfl, rfl, rfl, hfin, hrw, hfu, hsum, hts, hB⟩ := hrel
      have HFN := Lib.hid hfin
      have HRW := Lib.hid hrw
      have HFU := Lib.hid hfu
      have HTS := Lib.hid hts
      have HB := Lib.hid hB
      have hle := hfu.le
      have hwr : w.heap.size ≤ wr.heap.size := hB.size
      clear hfin hrw hfu hts hB HR6 HCF HB6 HFU2
      cases ts with
      | nil =>
        obtain ⟨-, rfl, rfl⟩ := HFN.out
        go_upto_region 99 with (fail)
        first | go_ret | skip
        exact ⟨Ao, co1, rfl, HRW.out.at_ (l1 := []), HB.out⟩
      | cons p t2 =>
        obtain ⟨x, k⟩ := p
        obtain ⟨m, hm, hmn⟩ := node_nat (HTS.out (x, k) (by simp))
        simp only at hm
        subst hm
        obtain ⟨ra, rfl⟩ := own_plain (HRW.out.at_ (l1 := [(Ao, co1, o), (Ae, ce1, C)]) (l2 := [(Ag, cg1, goneT (((m : Int), k) :: t2))])) (by simp)
        obtain ⟨rg, rfl⟩ := own_plain (HRW.out.at_ (l1 := [(Ao, co1, o), (Ae, ce1, C), (some ⟨ra, 0, none⟩, ca1, nodesT (((m : Int), k) :: t2))]) (l2 := [])) (by simp)
        have a1 : wr.cell? ⟨ra, t2.length, none⟩ = some (.int .i64 (m : Int)) := own_cell (HRW.out.at_ (l1 := [(Ao, co1, o), (Ae, ce1, C)])) (by simp)
        have a2 : wr.cell? ⟨rg, t2.length, none⟩ = some (.int .i64 (k : Int)) := own_cell (HRW.out.at_ (l1 := [(Ao, co1, o), (Ae, ce1, C), (some ⟨ra, 0, none⟩, ca1, nodesT (((m : Int), k) :: t2))])) (by simp)
        cases E with
        | none => have := (HE.out.out.nil rfl).1; omega
        | some ed =>
          have a3 := (HE.out.out.below HB.out (fun j hj => hj)).at_ ed rfl m _ (lists_get ws g m hmn)
          have HQ := Lib.hid (adj_nat g m hmn)
          have HIN := Lib.hid ((HE.out.inn m hmn).below HB.out (fun j hj => hj))
          have HBG := Lib.hid (HE.out.bigs m hmn)
          generalize g[m] = q at *
          have b1 : wr.drew.cell? ⟨ra, t2.length, none⟩ = some (.int .i64 (m : Int)) := a1
          have b2 : wr.drew.cell? ⟨rg, t2.length, none⟩ = some (.int .i64 (k : Int)) := a2
          have b3 : wr.drew.cell? (ed.add m) = some (.slice (ws m).1 q.length (ws m).2) := a3
          have hlen : ((((m : Int), k) :: t2).length : Int) = (t2.length : Int) + 1 := by simp
          simp only [List.length_cons] at hsum hlen
          have HRD := Lib.hid (HRW.out.below (drew_below wr))
          have HBD := Lib.hid (HB.out.trans ((drew_below wr).mono hwr))
          have pa : t2.length ≤ ca1 := by have := (Src.of_own (HRW.out.at_ (l1 := [(Ao, co1, o), (Ae, ce1, C)]))).cap; simp at this; omega
          have pg : t2.length ≤ cg1 := by have := (Src.of_own (HRW.out.at_ (l1 := [(Ao, co1, o), (Ae, ce1, C), (some ⟨ra, 0, none⟩, ca1, nodesT (((m : Int), k) :: t2))]))).cap; simp at this; omega
          have hwd : w.heap.size ≤ wr.drew.heap.size := hwr
          have HSL := Lib.hid (src_lit wr.drew [.int .i64 (m : Int)] 3 (fun _ => True) trivial)
          by_cases hk : k = q.length
          · obtain ⟨c2, hc2, hf2⟩ := HFN.out.pop (by rw [HQ.out]; exact hk)
            have HF2 := Lib.hid hf2
            subst hk
            have HOA := Lib.hid ((HRD.out.at_ (l1 := [])).alloc (.cells #[.int .i64 (m : Int)] 3))
            clear hf2 HFN
            go_upto_region 10 with (fail)
            go_region
            all_goals
              generalize wr.drew = wd at *
              go_upto_region 12 with (at_builtin; refine wpList_append_src rfl (.tmp 46) (.tmp 48) 23 rfl w.heap.size 3 i0 (.int .i64 0) 8 Try.underlying23 hi0 hz0 hz1 hz2 rfl (.slice Ao o.length co1) o.length (ints o) rfl HOA.out (fun _ => True) _ 1 1 [.int .i64 (m : Int)] rfl HSL.out (by intro u hu; simp at hu; subst hu; rfl) (by simp only [maxLen]; omega) (by omega) (by rw [alloc_size]; omega) ?_; intro v' w6 hown hg hat; obtain ⟨A6, c6, rfl⟩ := own_slice hown; rw [row_own] at hg hat; rw [row_own] at hat; have HFIN := Lib.hid (HRD.out.push (l1 := []) hwd hg hown hat); clear hown hg hat)
              go_region
              all_goals
                go_upto_region 99 with (fail)
                go_roundg c2
                case measure => exact hc2
                case rel => exact ⟨t2, C, o ++ [(m : Int)], A6, Ae, some ⟨ra, 0, none⟩, some ⟨rg, 0, none⟩, c6, ce1, ca1, cg1, by simp, rfl, rfl, rfl, HF2.out, (Rw.popped HFIN.out.1).below (drew_below w6), HFU.out, by simp; omega, fun p hp => HTS.out p (List.mem_cons_of_mem _ hp), (HBD.out.trans HFIN.out.2).trans ((drew_below w6).mono (Nat.le_trans hwd HFIN.out.2.size))⟩
          · have hkq : ((k : Int) == (q.length : Int)) = false := beq_eq_false_iff_ne.2 (by omega)
            have hkl : k < q.length := by have := HFN.out.le; rw [HQ.out] at this; omega
            have hnx := HFN.out.next' HQ.out hkl
            have hra := right_adj HG.out (m : Int)
            rw [HQ.out] at hra
            obtain ⟨t, ht, htn⟩ := node_nat (nodes_mem hra (List.getElem_mem hkl))
            have hsq := HIN.out
            generalize (ws m).1 = A2 at *
            generalize (ws m).2 = cq at *
            cases A2 with
            | none => have := (hsq.nil rfl).1; omega
            | some aq =>
              have a4 : wr.cell? (aq.add k) = some (.int .i64 q[k]) := hsq.at_ aq rfl k _ (ints_get q k hkl)
              rw [ht] at a4 hnx
              have b4 : wr.drew.cell? (aq.add k) = some (.int .i64 (t : Int)) := a4
              have hbg := HBG.out
              clear hsq hra ht HFN a2 a3 a4 HRW
              have HNX := Lib.hid hnx
              clear hnx
              go_upto_region 10 with (fail)
              go_region
              all_goals
                generalize wr.drew = wd at *
                have e1 : wd.drew.cell? ⟨ra, t2.length, none⟩ = some (.int .i64 (m : Int)) := b1
                have e2 : wd.drew.cell? ⟨rg, t2.length, none⟩ = some (.int .i64 (k : Int)) := b2
                have e3 : wd.drew.cell? (ed.add m) = some (.slice (some aq) q.length cq) := b3
                have e4 : wd.drew.cell? (aq.add k) = some (.int .i64 (t : Int)) := b4
                have HRE := Lib.hid (HRD.out.below (drew_below wd))
                have HBE := Lib.hid (HBD.out.trans ((drew_below wd).mono hwd))
                have hwe : w.heap.size ≤ wd.drew.heap.size := hwd
                obtain ⟨cur, hbc, -, -⟩ := own_bx (HRE.out.at_ (l1 := [(Ao, co1, o), (Ae, ce1, C), (some ⟨ra, 0, none⟩, ca1, nodesT (((m : Int), k) :: t2))]))
                have e5 : wd.drew.frozen? ⟨rg, t2.length, none⟩ = false := hbc.f _
                have HBU := Lib.hid HRE.out.bumped
                clear hbc a1 b1 b2 b3 b4 HRD HBD HSL
                go_upto_region 13 with (fail)
                go_region
                all_goals
                  generalize wd.drew = we at *
                  go_upto_region 15 with (fail)
                  change Code.wp _ _ _ _ (we.setCell ⟨rg, t2.length, none⟩ (.int .i64 ((k : Int) + 1)))
                  generalize we.setCell ⟨rg, t2.length, none⟩ (.int .i64 ((k : Int) + 1)) = wf at *
                  have HRF := Lib.hid HBU.out.1
                  have HBF := Lib.hid (HBE.out.trans HBU.out.2)
                  have hwf : w.heap.size ≤ wf.heap.size := HBF.out.size
                  have HH := Lib.hid (has_any _ Ae ce1 C (t : Int) wf (Src.of_own (HRF.out.at_ (l1 := [(Ao, co1, o)]))) (by omega))
                  clear e1 e2 e3 e4 e5 HBU HBE HRE
                  rcases HNX.out with ⟨hin, c2, hc2, hf2⟩ | ⟨hout, c2, hc2, hf2⟩
                  · rw [decide_eq_true hin] at HH
                    have HF2 := Lib.hid hf2
                    clear hin hf2 HNX
                    go_upto_region 99 with (go_at_call 18; refine HH.out.mono ?_; rintro e w6 ⟨rfl, hb6⟩; have HR6 := Lib.hid (HRF.out.below hb6); have HB6 := Lib.hid (HBF.out.trans (hb6.mono hwf)); clear hb6)
                    go_roundg c2
                    case measure => exact hc2
                    case rel => exact ⟨((m : Int), k + 1) :: t2, C, o, Ao, Ae, some ⟨ra, 0, none⟩, some ⟨rg, 0, none⟩, co1, ce1, ca1, cg1, rfl, rfl, rfl, rfl, HF2.out, HR6.out, HFU.out, by simp only [List.length_cons]; omega, fun p hp => (List.mem_cons.1 hp).elim (fun e => by rw [e]; exact HTS.out ((m : Int), k) (by simp)) fun hp => HTS.out p (List.mem_cons_of_mem _ hp), HB6.out⟩
                  · rw [decide_eq_false hout] at HH
                    have HF2 := Lib.hid hf2
                    have HFU2 := Lib.hid (HFU.out.snoc hout (decide_eq_true (by omega)))
                    have hle2 := HFU2.out.le
                    rw [List.length_append] at hle2
                    simp only [List.length_cons, List.length_nil] at hle2
                    clear hout hf2 HNX
                    go_upto_region 16 with (go_at_call 18; refine HH.out.mono ?_; rintro e w6 ⟨rfl, hb6⟩; have HRw6 := Lib.hid (HRF.out.below hb6); have HBw6 := Lib.hid (HBF.out.trans (hb6.mono hwf)); clear hb6)
                    have hzw6 : w.heap.size ≤ w6.heap.size := HBw6.out.size
                    have HSw6 := Lib.hid (src_lit w6 [.int .i64 (t : Int)] 3 (fun _ => True) trivial)
                    have HOw6 := Lib.hid ((HRw6.out.at_ (l1 := [(Ao, co1, o)])).alloc (.cells #[.int .i64 (t : Int)] 3))
                    go_upto_region 17 with (at_builtin; refine wpList_append_src rfl (.tmp 76) (.tmp 78) 23 rfl w.heap.size 3 i0 (.int .i64 0) 8 Try.underlying23 hi0 hz0 hz1 hz2 rfl (.slice Ae C.length ce1) C.length (ints C) rfl HOw6.out (fun _ => True) _ 1 1 [.int .i64 (t : Int)] rfl HSw6.out (by intro u hu; simp at hu; subst hu; rfl) (by simp only [maxLen]; omega) (by omega) (by rw [alloc_size]; omega) ?_; intro v' w7 hown hg hat; obtain ⟨Aw7, cw7, rfl⟩ := own_slice hown; rw [row_own] at hg hat; rw [row_own] at hat; have HFw7 := Lib.hid (HRw6.out.push (l1 := [(Ao, co1, o)]) hzw6 hg hown hat); clear hown hg hat)
                    have HRw7 := Lib.hid (HFw7.out.1)
                    have HBw7 := Lib.hid (HBw6.out.trans HFw7.out.2)
                    clear HFw7 HSw6 HOw6 HRw6
                    have hzw7 : w.heap.size ≤ w7.heap.size := HBw7.out.size
                    have HSw7 := Lib.hid (src_lit w7 [.int .i64 (t : Int)] 3 (fun _ => True) trivial)
                    have HOw7 := Lib.hid ((show w7.ownsRow w.heap.size 3 1 (.slice (some ⟨ra, 0, none⟩) (t2.length + 1) ca1) (t2.length + 1) (ints (nodesT (((m : Int), k + 1) :: t2))) from by have h := HRw7.out.at_ (l1 := [(Ao, co1, o), (Aw7, cw7, C ++ [(t : Int)])]); rw [nodesT_len] at h; exact h).alloc (.cells #[.int .i64 (t : Int)] 3))
                    go_upto_region 18 with (at_builtin; refine wpList_append_src rfl (.tmp 80) (.tmp 82) 23 rfl w.heap.size 3 i0 (.int .i64 0) 8 Try.underlying23 hi0 hz0 hz1 hz2 rfl (.slice (some ⟨ra, 0, none⟩) (t2.length + 1) ca1) (t2.length + 1) (ints (nodesT (((m : Int), k + 1) :: t2))) rfl HOw7.out (fun _ => True) _ 1 1 [.int .i64 (t : Int)] rfl HSw7.out (by intro u hu; simp at hu; subst hu; rfl) (by simp only [maxLen]; omega) (by omega) (by rw [alloc_size]; omega) ?_; intro v' w8 hown hg hat; obtain ⟨Aw8, cw8, rfl⟩ := own_slice hown; rw [row_own] at hg hat; rw [row_own] at hat; have HFw8 := Lib.hid (HRw7.out.push (l1 := [(Ao, co1, o), (Aw7, cw7, C ++ [(t : Int)])]) hzw7 hg (by rw [nodesT_len]; exact hown) hat); clear hown hg hat)
                    have HRw8 := Lib.hid (HFw8.out.1)
                    have HBw8 := Lib.hid (HBw7.out.trans HFw8.out.2)
                    clear HFw8 HSw7 HOw7 HRw7
                    have hzw8 : w.heap.size ≤ w8.heap.size := HBw8.out.size
                    have HSw8 := Lib.hid (src_lit w8 [.int .i64 0] 3 (fun _ => True) trivial)
                    have HOw8 := Lib.hid ((show w8.ownsRow w.heap.size 3 1 (.slice (some ⟨rg, 0, none⟩) (t2.length + 1) cg1) (t2.length + 1) (ints (goneT (((m : Int), k + 1) :: t2))) from by have h := HRw8.out.at_ (l1 := [(Ao, co1, o), (Aw7, cw7, C ++ [(t : Int)]), (Aw8, cw8, nodesT (((m : Int), k + 1) :: t2) ++ [(t : Int)])]); rw [goneT_len] at h; exact h).alloc (.cells #[.int .i64 0] 3))
                    go_upto_region 99 with (at_builtin; refine wpList_append_src rfl (.tmp 84) (.tmp 85) 23 rfl w.heap.size 3 i0 (.int .i64 0) 8 Try.underlying23 hi0 hz0 hz1 hz2 rfl (.slice (some ⟨rg, 0, none⟩) (t2.length + 1) cg1) (t2.length + 1) (ints (goneT (((m : Int), k + 1) :: t2))) rfl HOw8.out (fun _ => True) _ 1 1 [.int .i64 0] rfl HSw8.out (by intro u hu; simp at hu; subst hu; rfl) (by simp only [maxLen]; omega) (by omega) (by rw [alloc_size]; omega) ?_; intro v' w9 hown hg hat; obtain ⟨Aw9, cw9, rfl⟩ := own_slice hown; rw [row_own] at hg hat; rw [row_own] at hat; have HFw9 := Lib.hid (HRw8.out.push (l1 := [(Ao, co1, o), (Aw7, cw7, C ++ [(t : Int)]), (Aw8, cw8, nodesT (((m : Int), k + 1) :: t2) ++ [(t : Int)])]) hzw8 hg (by rw [goneT_len]; exact hown) hat); clear hown hg hat)
                    have HRw9 := Lib.hid (HFw9.out.1)
                    have HBw9 := Lib.hid (HBw8.out.trans HFw9.out.2)
                    clear HFw9 HSw8 HOw8 HRw8
                    go_roundg c2
                    case measure => exact hc2
                    case rel => exact ⟨((t : Int), 0) :: ((m : Int), k + 1) :: t2, C ++ [(t : Int)], o, Ao, Aw7, Aw8, Aw9, co1, cw7, cw8, cw9, rfl, by simp, by simp, by simp, HF2.out, by rw [nodesT_cons (t : Int), goneT_cons (t : Int)]; exact HRw9.out, HFU2.out, by simp only [List.length_cons, List.length_append, List.length_nil]; omega, fun p hp => (List.mem_cons.1 hp).elim (fun e => by rw [e]; exact decide_eq_true (by simp only; omega)) fun hp => (List.mem_cons.1 hp).elim (fun e => by rw [e]; exact HTS.out ((m : Int), k) (by simp)) fun hp => HTS.out p (List.mem_cons_of_mem _ hp), HBw9.out⟩
end Go.Proofs.Ytkaejcpnlphdpaa
