/-
  Find: what is found by a table.
-/
import Derived.Test.YtpcgedngikpnoaaTE
namespace Go.Proofs.Ytpcgedngikpnoaa
set_option maxRecDepth 100000
set_option linter.unusedSimpArgs false
set_option linter.unusedVariables false
open Go.RowKit

/-- Rows of places that can be read. -/
structure Rws (w : World) (P : Nat → Prop) (A : Option Addr) (n c : Nat) (f : Nat → List Int) : Prop where
  nil : A = none → n = 0 ∧ c = 0
  cap : n ≤ c
  blk : ∀ ad, A = some ad → 0 < n → P ad.block
  at_ : ∀ ad, A = some ad → ∀ k, k < n → ∃ Ai ci, w.cell? (ad.add k) = some (.slice Ai (f k).length ci) ∧ Src w P Ai (f k).length ci (il (f k))
section
variable {w w' : World} {P Q : Nat → Prop} {A : Option Addr} {n c : Nat} {f : Nat → List Int}
theorem Rws.keep (h : Rws w P A n c f) (hk : ∀ k, P k → k < w.heap.size → w'.heap[k]? = w.heap[k]?) : Rws w' P A n c f :=
  ⟨h.nil, h.cap, h.blk, fun ad hA k hkn => by
    obtain ⟨Ai, ci, h1, h2⟩ := h.at_ ad hA k hkn
    refine ⟨Ai, ci, ?_, h2.keep hk⟩
    have hb := h.blk ad hA (by omega)
    rw [World.cell?_of_block (hk _ (by rw [addBlock]; exact hb) (World.block_lt_of_cell? w _ h1))]
    exact h1⟩
theorem Rws.weak (h : Rws w P A n c f) (hk : ∀ k, P k → Q k) : Rws w Q A n c f := ⟨h.nil, h.cap, fun ad hA hn => hk _ (h.blk ad hA hn), fun ad hA k hkn => by
  obtain ⟨Ai, ci, h1, h2⟩ := h.at_ ad hA k hkn
  exact ⟨Ai, ci, h1, h2.weak hk⟩⟩
theorem Rws.lt (h : Rws w (fun k => k < w.heap.size) A n c f) (hb : Below w.heap.size w w') : Rws w' (fun k => k < w'.heap.size) A n c f :=
  (h.keep fun k hk _ => hb.block k hk).weak fun _ hk => Nat.lt_of_lt_of_le hk hb.size
end
theorem Bks.rws {w : World} {B g n : Nat} {f : Nat → List Int} {s : Nat → Option Addr × Nat} (h : Bks w B g n f s) : Rws w (fun k => B ≤ k ∧ k < w.heap.size) (some ⟨g, 0, none⟩) n n f :=
  ⟨(by intro h; cases h), Nat.le_refl _, fun ad hA _ => by cases hA; exact h.out.lt g rfl, fun ad hA k hk => by
    cases hA
    refine ⟨(s k).1, (s k).2, ?_, (Src.of_own (h.own k hk)).weak fun q hq => hq.2⟩
    rw [plainAdd, Nat.zero_add, h.out.cellAt k (by omega), slvs_get hk]⟩
/-- A table as a value. -/
structure TabV (w : World) (P : Nat → Prop) (A : Option Addr) (n c : Nat) (Af : Option Addr) (cf : Nat) (f : Nat → List Int) (L : List UInt64) : Prop where
  rows : Rws w P A n c f
  words : Src w P Af L.length cf (Siv.wds L)
theorem TabV.keep {w w' : World} {P : Nat → Prop} {A Af : Option Addr} {n c cf : Nat} {f : Nat → List Int} {L : List UInt64} (h : TabV w P A n c Af cf f L) (hk : ∀ k, P k → k < w.heap.size → w'.heap[k]? = w.heap[k]?) : TabV w' P A n c Af cf f L := ⟨h.rows.keep hk, h.words.keep hk⟩
theorem TabV.weak {w : World} {P Q : Nat → Prop} {A Af : Option Addr} {n c cf : Nat} {f : Nat → List Int} {L : List UInt64} (h : TabV w P A n c Af cf f L) (hk : ∀ k, P k → Q k) : TabV w Q A n c Af cf f L := ⟨h.rows.weak hk, h.words.weak hk⟩
theorem TabV.lt {w w' : World} {A Af : Option Addr} {n c cf : Nat} {f : Nat → List Int} {L : List UInt64} (h : TabV w (fun k => k < w.heap.size) A n c Af cf f L) (hb : Below w.heap.size w w') : TabV w' (fun k => k < w'.heap.size) A n c Af cf f L :=
  ⟨h.rows.lt hb, (h.words.keep fun k hk _ => hb.block k hk).weak fun _ hk => Nat.lt_of_lt_of_le hk hb.size⟩
theorem TabM.tabv {w0 w' : World} {ss : List Sym} {g : Nat} {s : Nat → Option Addr × Nat} {Af : Option Addr} {cf : Nat} (h : TabM w0 w' ss g s Af cf) : TabV w' (fun k => k < w'.heap.size) (some ⟨g, 0, none⟩) (cntS ss) (cntS ss) Af cf (fillS ss (cntS ss) ss.length) (filS ss) := by
  obtain ⟨h1, h2, h3⟩ := h
  refine ⟨h1.rws.weak fun _ hk => hk.2, ?_⟩
  have := (Src.of_own h2).lt
  rw [fil_len]
  exact this
/-- What is found in a row of places, and how many were looked at. -/
def goF (r : Sym) (ss : List Sym) (v : Bool) : List Int → Nat → Int × Nat
  | [], e => (-1, e)
  | i :: l, e => if i < 0 ∨ (ss.length : Int) ≤ i then goF r ss v l e else if (match ss[i.toNat]? with | some d => matchB r d v | none => false) = true then (i, e + 1) else goF r ss v l (e + 1)
def findT (n : Nat) (f : Nat → List Int) (L : List UInt64) (sh : Int) (r : Sym) (ss : List Sym) : Int × Nat :=
  if n = 0 ∨ Siv.lacksB L sh (hashS r.name) = true then (-1, 0) else goF r ss (ss.any vdB) (f (bkt (hashS r.name) n)) 0
theorem goF_skip {r : Sym} {ss : List Sym} {v : Bool} {l : List Int} {j e : Nat} (hj : j < l.length) (h : l[j] < 0 ∨ (ss.length : Int) ≤ l[j]) : goF r ss v (l.drop j) e = goF r ss v (l.drop (j + 1)) e := by
  rw [List.drop_eq_getElem_cons hj, goF, if_pos h]
theorem goF_yes {r : Sym} {ss : List Sym} {v : Bool} {l : List Int} {j e k : Nat} (hj : j < l.length) (hk : l[j] = (k : Int)) (hks : k < ss.length) (h : matchB r ss[k] v = true) : goF r ss v (l.drop j) e = ((k : Int), e + 1) := by
  rw [List.drop_eq_getElem_cons hj, goF, if_neg (by omega), if_pos (by rw [hk]; simp [hks, h]), hk]
theorem goF_no {r : Sym} {ss : List Sym} {v : Bool} {l : List Int} {j e k : Nat} (hj : j < l.length) (hk : l[j] = (k : Int)) (hks : k < ss.length) (h : matchB r ss[k] v = false) : goF r ss v (l.drop j) e = goF r ss v (l.drop (j + 1)) (e + 1) := by
  rw [List.drop_eq_getElem_cons hj, goF, if_neg (by omega), if_neg (by rw [hk]; simp [hks, h])]
set_option maxRecDepth 100000 in
set_option maxHeartbeats 4000000 in
theorem tfind_any (A : Option Addr) (n c : Nat) (Af : Option Addr) (cf : Nat) (f : Nat → List Int) (L : List UInt64) (sh : Int) (r : Sym) (B : Option Addr) (d : Nat) (ss : List Sym) (w : World)
    (ht : TabV w (fun k => k < w.heap.size) A n c Af cf f L) (h : Syl w (fun k => k < w.heap.size) B ss.length d ss) (hn : n ≤ 140737488355328) (hL : L.length ≤ 140737488355328) (hs : ss.length ≤ 140737488355328) (hr : r.name.length ≤ 140737488355328) (hrow : ∀ k, k < n → (f k).length ≤ 140737488355328) :
    Calls Try.prog 30 #[.agg (tabA A n c Af L.length cf sh), symV r, .slice B ss.length d] w fun e w' => e = .returned (.tuple #[.int .i64 (findT n f L sh r ss).1, .int .i64 ((findT n f L sh r ss).2 : Int)]) ∧ Below w.heap.size w w' := by
  have HT := Lib.hid ht
  have H := Lib.hid h
  clear ht h
  go_enter Try.func30, Try.ntmps30
  go_upto_region 1 with (fail)
  have HB1 := Lib.hid (show Below w.heap.size w ((w.alloc (.cells (tabA A n c Af L.length cf sh) 57)).alloc (.cells (symA r) 25)) from ((Below.refl _ _).alloc (Nat.le_refl _) _).alloc (by simp) _)
  have hx1 : Tx ((w.alloc (.cells (tabA A n c Af L.length cf sh) 57)).alloc (.cells (symA r) 25)) w.heap.size (tabA A n c Af L.length cf sh) := (Below.heap_alloc _ _ _ (by simp)).trans (heap_alloc_new _ _)
  have hy1 : Sx ((w.alloc (.cells (tabA A n c Af L.length cf sh) 57)).alloc (.cells (symA r) 25)) (w.heap.size + 1) r := by
    have := Sx.new (w.alloc (.cells (tabA A n c Af L.length cf sh) 57)) r
    simpa using this
  change Code.wp _ _ _ _ ((w.alloc (.cells (tabA A n c Af L.length cf sh) 57)).alloc (.cells (symA r) 25))
  generalize (w.alloc (.cells (tabA A n c Af L.length cf sh) 57)).alloc (.cells (symA r) 25) = w1 at *
  have HY1 := Lib.hid hy1
  have HX1 := Lib.hid hx1
  have t0 := cell_of_row w1 w.heap.size 0 _ _ _ hx1
  have t1 := cell_of_row w1 w.heap.size 1 _ _ _ hx1
  have t2 := cell_of_row w1 w.heap.size 2 _ _ _ hx1
  simp only [List.getElem?_toArray, List.getElem?_cons_succ, List.getElem?_cons_zero] at t0 t1 t2
  obtain ⟨y0, -⟩ := hy1.cells
  have HHA := Lib.hid (fun X => thash_any r.name X (by omega))
  clear hx1 hy1
  by_cases h0 : n = 0
  · have HF := Lib.hid (show findT n f L sh r ss = (-1, 0) from if_pos (.inl h0))
    subst h0
    generalize hashS r.name = hh at *
    go_upto_region 99 with (go_at_call 45; refine (HHA.out _).mono ?_; rintro e w' ⟨rfl, rfl⟩)
    first | go_ret2 | go_ret | skip
    rw [HF.out]
    exact ⟨rfl, HB1.out⟩
  have hpos : 0 < n := by omega
  obtain ⟨ad, rfl⟩ : ∃ ad, A = some ad := by
    cases A with
    | none => have := (HT.out.rows.nil rfl).1; omega
    | some ad => exact ⟨ad, rfl⟩
  have hn0 : ((n : Int) == 0) = false := by simp; omega
  have HLK := Lib.hid (Siv.lacks_any _ Af cf L sh (hashS r.name) w1 (HT.out.lt HB1.out).words (by omega))
  have HFT := Lib.hid (show findT n f L sh r ss = if n = 0 ∨ Siv.lacksB L sh (hashS r.name) = true then (-1, 0) else goF r ss (ss.any vdB) (f (bkt (hashS r.name) n)) 0 from rfl)
  have hbl := bkt_lt (hashS r.name) hpos
  have HBK := Lib.hid (fun X => bucket_any (hashS r.name) n hpos (by omega) X)
  generalize hashS r.name = hh at *
  by_cases hlk : Siv.lacksB L sh hh = true
  · have HF := Lib.hid (HFT.out.trans (if_pos (.inr hlk)))
    rw [hlk] at HLK
    clear hlk HFT h0
    go_upto_region 99 with (first
      | (go_at_call 45; refine (HHA.out _).mono ?_; rintro e w' ⟨rfl, rfl⟩)
      | (go_at_call 46; refine (HLK.out).mono ?_; rintro e w2 ⟨rfl, hb2⟩; have HB2 := Lib.hid (HB1.out.trans (hb2.mono HB1.out.size)); clear hb2))
    first | go_ret2 | go_ret | skip
    rw [HF.out]
    exact ⟨rfl, HB2.out⟩
  have hlf : Siv.lacksB L sh hh = false := by simpa using hlk
  have HF := Lib.hid (HFT.out.trans (if_neg (show ¬ (n = 0 ∨ Siv.lacksB L sh hh = true) by rw [hlf]; simp; omega)))
  rw [hlf] at HLK
  clear hlk hlf HFT h0
  generalize bkt hh n = bi at *
  have HVE := Lib.hid (fun (X : World) (hX : Below w.heap.size w X) => versioned_any B ss.length d ss X (H.out.lt hX) (by omega))
  generalize ss.any vdB = v at *
  go_upto_region 6 with (first
    | (go_at_call 45; refine (HHA.out _).mono ?_; rintro e w' ⟨rfl, rfl⟩)
    | (go_at_call 46; refine (HLK.out).mono ?_; rintro e w2 ⟨rfl, hb2⟩; have HB2 := Lib.hid (HB1.out.trans (hb2.mono HB1.out.size)); have HX2 := Lib.hid (show Tx w2 w.heap.size (tabA (some ad) n c Af L.length cf sh) from (hb2.block _ (by have := HY1.out.bx.lt; omega)).trans HX1.out); have HY2 := Lib.hid (HY1.out.below hb2); clear hb2 HLK)
    | (go_at_call 47; refine (HVE.out _ HB2.out).mono ?_; rintro e w3 ⟨rfl, hb3⟩; have HB3 := Lib.hid (HB2.out.trans (hb3.mono HB2.out.size)); have HX3 := Lib.hid (show Tx w3 w.heap.size (tabA (some ad) n c Af L.length cf sh) from (hb3.block _ (by have := HY2.out.bx.lt; omega)).trans HX2.out); have HY3 := Lib.hid (HY2.out.below hb3); clear hb3))
  clear t0 t1 t2 y0 HHA HX2 HY2 HB2 HX1 HY1 HB1 HVE
  have t0 : w3.drew.cell? ⟨w.heap.size, 0, none⟩ = some (.slice (some ad) n c) := by
    exact cell_of_row w3 w.heap.size 0 _ _ _ HX3.out
  obtain ⟨Ai, ci, hac, hsr⟩ := (HT.out.lt HB3.out).rows.at_ ad rfl bi hbl
  have had : w3.drew.cell? (ad.add bi) = some (.slice Ai (f bi).length ci) := hac
  have HRO := Lib.hid hsr
  have hfl := hrow bi hbl
  have hb0 : (0 : Int) ≤ (bi : Int) := by omega
  have hb1 : (bi : Int) < (n : Int) := by omega
  generalize f bi = l at *
  clear hac hsr
  have HB4 := Lib.hid (HB3.out.trans ((drew_below w3).mono HB3.out.size))
  have HY4 := Lib.hid (HY3.out.below (drew_below w3))
  have HRO4 := Lib.hid (HRO.out.below (drew_below w3) (fun _ h => h))
  have hz34 : w3.heap.size ≤ w3.drew.heap.size := Nat.le_refl _
  refine wp_region_still_lit (by kernel_rfl) (by kernel_rfl) ?_
  repeat still_step
  still_call ((HBK.out _).mono fun e w' h => ⟨h.1, h.2.symm⟩)
  repeat still_step
  refine wpStill_nil ?_
  go_upto_region 7 with (fail)
  clear t0 had
  change Code.wp _ _ _ _ w3.drew
  generalize w3.drew = w4 at *
  clear HRO HX3 HY3 HB3
  go_loopw [38, 10] (fun t x wr => ∃ j e : Nat, j ≤ l.length ∧ t = .int .i64 (j : Int) ∧ x = .int .i64 (e : Int) ∧ e ≤ j ∧ Below w4.heap.size w4 wr ∧ goF r ss v l 0 = goF r ss v (l.drop j) e) (fun t _ _ => l.length - (intOf t).toNat)
  case atStart => exact ⟨0, 0, Nat.zero_le _, rfl, rfl, Nat.le_refl _, Below.refl _ _, rfl⟩
  case round =>
    obtain ⟨j, e, hj, rfl, rfl, hej, hb, hgo⟩ := hrel
    have HB := Lib.hid (HB4.out.trans (hb.mono HB4.out.size))
    have HB5 := Lib.hid hb
    have HG := Lib.hid (HF.out.trans hgo)
    have HYR := Lib.hid (HY4.out.below hb)
    have HRR := Lib.hid (HRO4.out.below hb (fun k hk => Nat.lt_of_lt_of_le hk hz34))
    clear hb hgo
    by_cases hjl : j < l.length
    · obtain ⟨aa, rfl⟩ : ∃ aa, Ai = some aa := by
        cases Ai with
        | none => have := (HRR.out.nil rfl).1; omega
        | some aa => exact ⟨aa, rfl⟩
      have hcap := HRR.out.cap
      have hc : wr.cell? (aa.add j) = some (.int .i64 l[j]) := HRR.out.at_ aa rfl j _ (by simp [il, hjl])
      have hj0 : (0 : Int) ≤ (j : Int) := by omega
      have hj1 : (j : Int) < (l.length : Int) := by omega
      by_cases hbad : l[j] < 0 ∨ (ss.length : Int) ≤ l[j]
      · have HN := Lib.hid (HG.out.trans (goF_skip hjl hbad))
        generalize l[j] = i at *
        by_cases hi0 : i < 0
        · have d0 : decide (i < 0) = true := decide_eq_true hi0
          clear hbad
          go_wp2_with fail
          go_roundw
          case rel => exact ⟨j + 1, e, hjl, by go_num, rfl, by omega, HB5.out, HF.out.symm.trans HN.out⟩
          case measure => simp [intOf]; omega
        · have d0 : decide (i < 0) = false := decide_eq_false hi0
          have d1 : (ss.length : Int) ≤ i := by omega
          clear hbad
          go_wp2_with fail
          go_roundw
          case rel => exact ⟨j + 1, e, hjl, by go_num, rfl, by omega, HB5.out, HF.out.symm.trans HN.out⟩
          case measure => simp [intOf]; omega
      · obtain ⟨k, hk⟩ : ∃ k : Nat, l[j] = (k : Int) := ⟨l[j].toNat, by omega⟩
        have hks : k < ss.length := by omega
        have HYE := Lib.hid (fun h => HG.out.trans (goF_yes hjl hk hks h))
        have HNO := Lib.hid (fun h => HG.out.trans (goF_no hjl hk hks h))
        rw [hk] at hc
        obtain ⟨bb, rfl⟩ : ∃ bb, B = some bb := by
          cases B with
          | none => have := (H.out.nil rfl).1; omega
          | some bb => exact ⟨bb, rfl⟩
        obtain ⟨b, o, rfl⟩ := H.out.plain (by omega)
        have hcap2 := H.out.cap
        obtain ⟨c0, c1, c2, c3, c4, c5, c6, c7, c8⟩ := (H.out.below (HB.out.trans ((drew_below wr).mono HB.out.size)) (fun _ h => h)).get k hks
        obtain ⟨y0, y1, y2, y3, y4, y5, y6, y7, y8⟩ := (HYR.out.below (drew_below wr)).cells
        have hk0 : (0 : Int) ≤ (k : Int) := by omega
        have hk1 : (k : Int) < (ss.length : Int) := by omega
        have d0 : ¬ (k : Int) < 0 := by omega
        have hwe : wrap64 ((e : Int) + 1) = (e : Int) + 1 := IntWalk.wrap64_in _ (by omega)
        have HMA := Lib.hid (match_any r ss[k] v wr.drew)
        clear hbad hk
        generalize ss[k] = y at *
        generalize hml : matchB r y v = ml at *
        go_upto_region 11 with (fail)
        go_still_tail 6, (by kernel_rfl)
        change wpList _ _ _ _ _ wr.drew
        cases ml
        · have HN := Lib.hid (HNO.out rfl)
          go_upto_region 13 with (go_at_call 49; refine (HMA.out).mono ?_; rintro en w5 ⟨rfl, hb5⟩; have HB6 := Lib.hid (HB5.out.trans (((drew_below wr).trans hb5).mono HB5.out.size)); clear hb5)
          clear hc c0 c1 c2 c3 c4 c5 c6 c7 c8 y0 y1 y2 y3 y4 y5 y6 y7 y8 HMA HYE HNO
          go_wp2_with fail
          go_roundw
          case rel => exact ⟨j + 1, e + 1, hjl, by go_num, by go_num, Nat.succ_le_succ hej, HB6.out, HF.out.symm.trans HN.out⟩
          case measure => simp [intOf]; omega
        · have HN := Lib.hid (HYE.out rfl)
          go_upto_region 99 with (go_at_call 49; refine (HMA.out).mono ?_; rintro en w5 ⟨rfl, hb5⟩; have HB6 := Lib.hid (HB.out.trans (((drew_below wr).trans hb5).mono HB.out.size)); clear hb5)
          first | go_ret2 | go_ret | skip
          rw [HN.out]
          exact ⟨rfl, HB6.out⟩
    · obtain rfl : j = l.length := by omega
      have HN := Lib.hid (show findT n f L sh r ss = (-1, e) by rw [HG.out, List.drop_length]; rfl)
      have hj1 : ¬ (l.length : Int) < (l.length : Int) := by omega
      go_upto_region 99 with (fail)
      first | go_ret2 | go_ret | skip
      rw [HN.out]
      exact ⟨rfl, HB.out⟩
end Go.Proofs.Ytpcgedngikpnoaa
