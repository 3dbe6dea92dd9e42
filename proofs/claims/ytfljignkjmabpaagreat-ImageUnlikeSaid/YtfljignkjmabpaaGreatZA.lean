/-
  Buckets that are filled: rows of places, each a row of its own.
  fill.
  Tables that are made.
  Find: what is found by a table.
  Images: what they are, and how they lie in memory.
-/
import Derived.Test.YtfljignkjmabpaaGreatZTB
import Derived.Test.YtfljignkjmabpaaGreatZYA
import Derived.Deep.Cut
namespace Go.Proofs.YtfljignkjmabpaaGreat
set_option maxRecDepth 100000
set_option linter.unusedSimpArgs false
set_option linter.unusedVariables false
open Go.RowKit

def il (l : List Int) : List Value := l.map fun i => .int .i64 i
abbrev sl (p : Option Addr × Nat) (r : List Int) : Value := .slice p.1 r.length p.2
theorem sl_app (A : Option Addr) (c : Nat) (l : List Int) (x : Int) : sl (A, c) (l ++ [x]) = .slice A (l.length + 1) c := by simp [sl]
def slvs (n : Nat) (f : Nat → List Int) (s : Nat → Option Addr × Nat) : List Value := (List.range n).map fun k => sl (s k) (f k)
theorem slvs_get {n : Nat} {f : Nat → List Int} {s : Nat → Option Addr × Nat} {k : Nat} (hk : k < n) : (slvs n f s)[k]? = some (sl (s k) (f k)) := by simp [slvs, hk]
theorem own_ne {w : World} {B1 B2 s1 s2 n1 n2 : Nat} {e1 e2 : TypeId} {v1 v2 : Value} {x1 x2 : List Value} (h1 : w.ownsRow B1 e1 s1 v1 n1 x1) (h2 : w.ownsRow B2 e2 s2 v2 n2 x2) (hne : e1 ≠ e2) : ∀ k, v1.ownBlock = some k → v2.ownBlock ≠ some k := by
  intro k hk1 hk2
  rcases h1.2 with ⟨rfl, _⟩ | ⟨g1, c1, cur1, rfl, _, hh1, _⟩
  · cases hk1
  · rcases h2.2 with ⟨rfl, _⟩ | ⟨g2, c2, cur2, rfl, _, hh2, _⟩
    · cases hk2
    · injection hk1 with hk1
      injection hk2 with hk2
      have a1 : g1 = k := hk1
      have a2 : g2 = k := hk2
      subst a1
      subst a2
      rw [hh1] at hh2
      simp at hh2
      exact hne hh2.2
/-- Rows of places, each a block of its own. -/
structure Bks (w : World) (B g n : Nat) (f : Nat → List Int) (s : Nat → Option Addr × Nat) : Prop where
  out : w.ownsRow B 38 1 (.slice (some ⟨g, 0, none⟩) n n) n (slvs n f s)
  own : ∀ k, k < n → w.ownsRow B 3 1 (sl (s k) (f k)) (f k).length (il (f k))
  apart : ∀ i j, i < n → j < n → i ≠ j → ∀ q, (sl (s i) (f i)).ownBlock = some q → (sl (s j) (f j)).ownBlock ≠ some q
section
variable {w w1 w2 : World} {B g n : Nat} {f : Nat → List Int} {s : Nat → Option Addr × Nat}
theorem Bks.grown {r : Option Nat} (h : Bks w B g n f s) (hg : w.grownBy w1 r) (h1 : r ≠ some g) (h2 : ∀ k, k < n → ∀ q, (sl (s k) (f k)).ownBlock = some q → r ≠ some q) : Bks w1 B g n f s :=
  ⟨h.out.kept hg (.inr fun e => h1 e.symm), fun k hk => (h.own k hk).kept hg (by
    cases hq : (sl (s k) (f k)).ownBlock with
    | none => exact .inl rfl
    | some q => exact .inr fun e => h2 k hk q hq e.symm), h.apart⟩
theorem Bks.below (h : Bks w B g n f s) (hb : Below w.heap.size w w1) : Bks w1 B g n f s := h.grown (Siv.grow_below hb none) (by intro h; cases h) (fun _ _ _ _ h => by cases h)
theorem Bks.push (h : Bks w B g n f s) {i : Nat} (hi : i < n) {A' : Option Addr} {c' : Nat} {x : Int} (ho : w2.ownsRow B 3 1 (.slice A' ((f i).length + 1) c') ((f i).length + 1) (il (f i) ++ [.int .i64 x]))
    (hg : w.grownBy w2 (sl (s i) (f i)).ownBlock) (hb : (Value.slice A' ((f i).length + 1) c').ownBlock = (sl (s i) (f i)).ownBlock ∨ (Value.slice A' ((f i).length + 1) c').ownBlock = some w.heap.size) :
    Bks (w2.setCell ⟨g, i, none⟩ (.slice A' ((f i).length + 1) c')) B g n (fun k => if k = i then f i ++ [x] else f k) (fun k => if k = i then (A', c') else s k) := by
  have hne : (Value.slice (some ⟨g, 0, none⟩) n n).ownBlock = none ∨ (Value.slice (some ⟨g, 0, none⟩) n n).ownBlock ≠ (sl (s i) (f i)).ownBlock := .inr fun e => own_ne h.out (h.own i hi) (by decide) g rfl e.symm
  have ho2 := h.out.kept hg hne
  obtain ⟨ho3, hg3⟩ := ho2.stored i (.slice A' ((f i).length + 1) c')
  have hnew : (Value.slice A' ((f i).length + 1) c').ownBlock ≠ some g := fun e => own_ne ho ho2 (by decide) g e rfl
  refine ⟨?_, ?_, ?_⟩
  · have e : (slvs n f s).set i (.slice A' ((f i).length + 1) c') = slvs n (fun k => if k = i then f i ++ [x] else f k) (fun k => if k = i then (A', c') else s k) := by
      apply List.ext_getElem
      · simp [slvs]
      · intro j h1 h2
        simp only [slvs, List.getElem_set, List.getElem_map, List.getElem_range]
        by_cases hj : j = i
        · subst hj
          simp
        · rw [if_neg (fun e => hj e.symm)]
          simp [hj]
    rw [← e]
    exact ho3
  · intro k hk
    by_cases hki : k = i
    · subst hki
      simp only [if_true, List.length_append, List.length_singleton, sl_app]
      have e : il (f k ++ [x]) = il (f k) ++ [.int .i64 x] := by simp [il]
      rw [e]
      refine ho.kept hg3 ?_
      exact .inr hnew
    · simp only [if_neg hki]
      have h1 : w2.ownsRow B 3 1 (sl (s k) (f k)) (f k).length (il (f k)) := (h.own k hk).kept hg (by
        cases hq : (sl (s k) (f k)).ownBlock with
        | none => exact .inl rfl
        | some q => exact .inr fun e => h.apart k i hk hi hki q hq e.symm)
      exact h1.kept hg3 (.inr fun e => own_ne h1 ho2 (by decide) g e rfl)
  · intro a b ha hb' hab q hq
    by_cases hai : a = i
    · subst hai
      have hbi : b ≠ a := fun e => hab e.symm
      simp only [if_neg hbi]
      simp only [if_true, sl_app] at hq
      rcases hb with hb | hb
      · rw [hb] at hq
        exact h.apart a b ha hb' hab q hq
      · rw [hb] at hq
        injection hq with hq
        intro e
        have := ((h.own b hb').lt q e).2
        omega
    · simp only [if_neg hai] at hq
      by_cases hbi : b = i
      · subst hbi
        simp only [if_true, sl_app]
        rcases hb with hb | hb
        · rw [hb]
          exact h.apart a b ha hb' hab q hq
        · rw [hb]
          intro e
          injection e with e
          have := ((h.own a ha).lt q hq).2
          omega
      · simp only [if_neg hbi]
        exact h.apart a b ha hb' hab q hq
end
/-- Which symbols' places stand in a bucket. -/
def inB (ss : List Sym) (cnt b i : Nat) : Bool := match ss[i]? with
  | some s => seenB s && (bkt (hashS s.name) cnt == b)
  | none => false
def fillS (ss : List Sym) (cnt k b : Nat) : List Int := ((List.range k).filter (inB ss cnt b)).map fun (i : Nat) => (i : Int)
theorem fill_succ (ss : List Sym) (cnt k b : Nat) : fillS ss cnt (k + 1) b = fillS ss cnt k b ++ (if inB ss cnt b k = true then [(k : Int)] else []) := by
  unfold fillS
  rw [List.range_succ, List.filter_append, List.map_append]
  congr 1
  by_cases h : inB ss cnt b k = true
  · simp [h]
  · simp [h]
theorem fill_len (ss : List Sym) (cnt k b : Nat) : (fillS ss cnt k b).length ≤ k := by
  unfold fillS
  rw [List.length_map]
  have := List.length_filter_le (inB ss cnt b) (List.range k)
  simpa using this
theorem Bks.same {w : World} {B g n : Nat} {f f' : Nat → List Int} {s : Nat → Option Addr × Nat} (h : Bks w B g n f s) (e : ∀ k, k < n → f' k = f k) : Bks w B g n f' s := by
  have e1 : slvs n f' s = slvs n f s := by
    unfold slvs
    apply List.map_congr_left
    intro k hk
    rw [e k (List.mem_range.1 hk)]
  exact ⟨by rw [e1]; exact h.out, fun k hk => by rw [e k hk]; exact h.own k hk, fun i j hi hj hij q hq => by rw [e i hi] at hq; rw [e j hj]; exact h.apart i j hi hj hij q hq⟩
end Go.Proofs.YtfljignkjmabpaaGreat

namespace Go.Proofs.YtfljignkjmabpaaGreat
set_option maxRecDepth 100000
set_option linter.unusedSimpArgs false
set_option linter.unusedVariables false
open Go.RowKit

/-- As append_one, and where the new row lies. -/
theorem append_one2 {w : World} {ops : Array Oper} {rest : List Oper} {o : Oper} {a : Act} {Q : Exit → Act → World → Prop} (hgd : o.guard = none) (s x : Operand) (t e : TypeId) (z : Value) (bytes : Nat)
    (ho : o.op = .call { callee := .builtin .append, args := #[s, x], argTypes := #[t, t] }) (ht : Tryz.prog.underlying t = some (.slice e)) (hinfo : (Tryz.prog.info? e).map (fun i => (i.zero, i.size, i.bytes)) = some (some z, 1, bytes)) (hzs : z.cells.size = 1)
    (base : Nat) (A : Option Addr) (n c : Nat) (xs : List Value) (hs : a.eval s = .slice A n c) (hown : w.ownsRow base e 1 (.slice A n c) n xs) (g : Nat) (u : Value)
    (hx : a.eval x = .slice (some ⟨g, 0, none⟩) 1 1) (hc : w.cell? ⟨g, 0, none⟩ = some u) (hu : u.oneCell' = true) (h63 : n + 1 ≤ maxLen) (hb : (n + 1) * bytes ≤ 140737488355328) (hbase : base ≤ w.heap.size)
    (h : ∀ A' c' w', w'.ownsRow base e 1 (.slice A' (n + 1) c') (n + 1) (xs ++ [u]) → w.grownBy w' (Value.slice A n c).ownBlock → ((Value.slice A' (n + 1) c').ownBlock = (Value.slice A n c).ownBlock ∨ (Value.slice A' (n + 1) c').ownBlock = some w.heap.size) → wpList Tryz.prog ops Q rest (a.put o.dst (.slice A' (n + 1) c')) w') : wpList Tryz.prog ops Q (o :: rest) a w := by
  obtain ⟨i, hi⟩ : ∃ i, Tryz.prog.info? e = some i := by
    cases hq : Tryz.prog.info? e with
    | none => rw [hq] at hinfo; cases hinfo
    | some i => exact ⟨i, rfl⟩
  rw [hi] at hinfo
  simp only [Option.map_some, Option.some.injEq, Prod.mk.injEq] at hinfo
  obtain ⟨h1, h2, h3⟩ := hinfo
  refine wpList_append_src hgd s x t ho base e i z bytes ht hi h1 h2 h3 hzs (.slice A n c) n xs hs hown (fun _ => True) _ 1 1 [u] hx ⟨rfl, (by intro h; cases h), Nat.le_refl _, (by intro _ _ _; trivial), ?_⟩ (by intro v hv; simp at hv; subst hv; exact hu) h63 hb hbase ?_
  · intro ad h j v hv
    cases h
    obtain rfl : j = 0 := by have := (List.getElem?_eq_some_iff.1 hv).1; simp at this; omega
    rw [plainAdd]
    simp at hv
    subst hv
    exact hc
  · intro v' w' hown' hg hw
    obtain ⟨A', c', rfl⟩ := own_slice hown'
    exact h A' c' w' hown' hg hw
theorem Bks.outer {w w2 : World} {B g n : Nat} {f : Nat → List Int} {s : Nat → Option Addr × Nat} (h : Bks w B g n f s) {i : Nat} (hi : i < n) (hg : w.grownBy w2 (sl (s i) (f i)).ownBlock) : w2.cell? ⟨g, i, none⟩ = some (sl (s i) (f i)) ∧ w2.frozen? ⟨g, i, none⟩ = false := by
  have ho2 := h.out.kept hg (.inr fun e => own_ne h.out (h.own i hi) (by decide) g rfl e.symm)
  exact ⟨by rw [ho2.cellAt i (by omega), slvs_get hi], ho2.frozenAt i⟩
theorem made_nils (n : Nat) : (madeCells (Value.slice none 0 0).cells (n * 1)).toList = slvs n (fun _ => []) (fun _ => (none, 0)) := by
  apply List.ext_getElem
  · simp [madeCells, slvs]
  · intro i h1 h2
    simp [madeCells, slvs, Value.cells, Nat.mod_one, sl]
theorem Bks.new {w w1 : World} {B n : Nat} (h : w1.ownsRow B 38 1 (.slice (some ⟨w.heap.size, 0, none⟩) n n) n (madeCells (Value.slice none 0 0).cells (n * 1)).toList) : Bks w1 B w.heap.size n (fun _ => []) (fun _ => (none, 0)) := by
  rw [made_nils] at h
  exact ⟨h, fun k _ => World.ownsRow_nil _ _ _ _, fun i j _ _ _ q hq => by cases hq⟩
set_option maxRecDepth 100000 in
set_option maxHeartbeats 4000000 in
theorem fill_any (cnt : Nat) (A : Option Addr) (n c : Nat) (ss : List Sym) (w : World) (h : Syl w (fun k => k < w.heap.size) A n c ss) (hn : n ≤ 512) (hs : Named ss) (h0 : 0 < cnt) (h1 : cnt ≤ 512) :
    Calls Tryz.prog 172 #[.int .i64 (cnt : Int), .slice A n c] w fun e w' => ∃ g s, e = .returned (.slice (some ⟨g, 0, none⟩) cnt cnt) ∧ Bks w' w.heap.size g cnt (fillS ss cnt n) s ∧ Below w.heap.size w w' := by
  have H := Lib.hid h
  have hl := h.len
  have HS := Lib.hid hs
  clear h hs
  obtain ⟨i0, hi, hz0, hz1, hz2⟩ : ∃ i0, Tryz.prog.info? 38 = some i0 ∧ i0.zero = some (.slice none 0 0) ∧ i0.size = 1 ∧ i0.bytes = 24 := by
    have h := Tryz.info_ints
    cases hq : Tryz.prog.info? 38 with
    | none => rw [hq] at h; cases h
    | some i =>
      rw [hq] at h
      simp only [Option.map_some, Option.some.injEq, Prod.mk.injEq] at h
      exact ⟨i, rfl, h⟩
  have m3 : cnt ≤ maxLen := by simp only [maxLen]; omega
  go_enter Tryz.func172, Tryz.ntmps172
  go_upto_region 3 with (first
    | (at_make; refine wpList_make_full _ rfl _ _ _ rfl w.heap.size 38 i0 _ 1 Tryz.underlying30 hi hz0 hz1 .i64 .i64 _ _ cnt rfl rfl rfl rfl (by rw [hz2]; omega) m3 (Nat.le_refl _) ?_; intro w1 hown hg1; have HK := Lib.hid (Bks.new hown); have HB1 := Lib.hid (below_grown (Below.refl _ _) hg1 (fun q hq => by cases hq)); clear hown hg1))
  go_loopw [13] (fun t wr => ∃ (k : Nat) (s : Nat → Option Addr × Nat), k ≤ n ∧ t = .int .i64 k ∧ Bks wr w.heap.size w.heap.size cnt (fillS ss cnt k) s ∧ Below w.heap.size w wr) (fun t _ => n - (intOf t).toNat)
  case atStart => exact ⟨0, _, Nat.zero_le _, rfl, HK.out, HB1.out⟩
  case round =>
    obtain ⟨k, s, hk, rfl, hks, hb⟩ := hrel
    have HB := Lib.hid hb
    have HK := Lib.hid hks
    clear hb hks HB1
    by_cases hkn : k < n
    · have hki : k < ss.length := by omega
      obtain ⟨ad, rfl⟩ : ∃ ad, A = some ad := by
        cases A with
        | none => have := (H.out.nil rfl).1; omega
        | some ad => exact ⟨ad, rfl⟩
      obtain ⟨b, o, rfl⟩ := H.out.plain (by omega)
      have hcap := H.out.cap
      obtain ⟨c0, c1, c2, c3, c4, c5, c6, c7, c8⟩ := (H.out.below HB.out (fun _ h => h)).get k hki
      have HIN := Lib.hid (fun b => show inB ss cnt b k = (seenB ss[k] && (bkt (hashS ss[k].name) cnt == b)) by simp [inB, hki])
      have hnm := HS.out ss[k] (List.getElem_mem hki)
      generalize ss[k] = y at *
      have HSE := Lib.hid (fun X => seen_any y X)
      have HBX := Lib.hid (HB.out.trans ((box_below wr y).mono HB.out.size))
      have HKX := Lib.hid (HK.out.below (box_below wr y))
      have HSX := Lib.hid (Sx.new wr y)
      obtain ⟨x0, x1, x2, x3, x4, x5, x6, x7, x8⟩ := HSX.out.cells
      by_cases hse : seenB y = true
      · rw [hse] at HSE HIN
        simp only [Bool.true_and] at HIN
        have HHA := Lib.hid (fun X => thash_any y.name X (by omega))
        generalize hashS y.name = hh at *
        have HBK := Lib.hid (fun X => bucket_any hh cnt h0 (by omega) X)
        have hbl := bkt_lt hh h0
        generalize bkt hh cnt = i at *
        have HNX := Lib.hid (show ∀ b, b < cnt → fillS ss cnt (k + 1) b = if b = i then fillS ss cnt k i ++ [(k : Int)] else fillS ss cnt k b from fun b _ => by
          rw [fill_succ, HIN.out]
          by_cases hbi : b = i
          · subst hbi; simp
          · rw [if_neg hbi, if_neg (by simp; exact fun e => hbi e.symm), List.append_nil])
        have hfl := fill_len ss cnt k i
        clear hse
        go_upto_region 7 with (first
          | (go_at_call 177; refine (HSE.out _).mono ?_; rintro e w2 ⟨rfl, hb2⟩; have HB2 := Lib.hid (HBX.out.trans (hb2.mono HBX.out.size)); have HK2 := Lib.hid (HKX.out.below hb2); have HSX2 := Lib.hid (HSX.out.below hb2); clear hb2 x0 x1 x2 x3 x4 x5 x6 x7 x8; obtain ⟨x0, -⟩ := HSX2.out.cells)
          | (go_at_call 178; refine (HHA.out _).mono ?_; rintro e w3 ⟨rfl, rfl⟩)
          | (go_at_call 203; refine (HBK.out _).mono ?_; rintro e w3 ⟨rfl, rfl⟩))
        clear x0 c0 c1 c2 c3 c4 c5 c6 c7 c8 HSE HSX HBX HKX HIN HSX2
        have HCN := Lib.hid ((Bx.new w2 #[.int .i64 (k : Int)] 3).c 0)
        have HK3 := Lib.hid (HK2.out.below ((Below.refl _ _).alloc (Nat.le_refl _) (.cells #[.int .i64 (k : Int)] 3)))
        have HB3 := Lib.hid (HB2.out.alloc HB2.out.size (.cells #[.int .i64 (k : Int)] 3))
        have k0 : w2.cell? ⟨w.heap.size, i, none⟩ = some (sl (s i) (fillS ss cnt k i)) := by rw [HK2.out.out.cellAt i (by omega), slvs_get hbl]
        have k1 := HK3.out.out.cellAt i (by omega)
        rw [slvs_get hbl] at k1
        have m1 : (fillS ss cnt k i).length + 1 ≤ maxLen := by simp only [maxLen]; omega
        have m2 : ((fillS ss cnt k i).length + 1) * 8 ≤ 140737488355328 := by omega
        have hi0 : (0 : Int) ≤ (i : Int) := by omega
        have hi1 : (i : Int) < (cnt : Int) := by omega
        have HG := Lib.hid (fun (X : World) (hg : (w2.alloc (.cells #[.int .i64 (k : Int)] 3)).grownBy X (sl (s i) (fillS ss cnt k i)).ownBlock) => HK3.out.outer hbl hg)
        go_wp2_with (first
          | (at_builtin; refine append_one2 rfl (.tmp 30) (.tmp 32) 38 3 (.int .i64 0) 8 rfl Tryz.underlying38 Tryz.info_int rfl w.heap.size (s i).1 (fillS ss cnt k i).length (s i).2 (il (fillS ss cnt k i)) rfl (HK3.out.own i hbl) w2.heap.size (.int .i64 (k : Int)) rfl HCN.out rfl m1 m2 HB3.out.size ?_; intro A2 c2 w4 hown hg hw; have HK4 := Lib.hid (HK3.out.push hbl hown hg hw); have HB4 := Lib.hid (below_grown HB3.out hg (fun q hq => ((HK3.out.own i hbl).lt q hq).1)); obtain ⟨k2, k3⟩ := HG.out w4 hg; clear hown hg hw))
        have HB5 := Lib.hid (HB4.out.setCell (p := ⟨w.heap.size, i, none⟩) (Nat.le_refl _) (.slice A2 ((fillS ss cnt k i).length + 1) c2))
        have HK5 := Lib.hid (HK4.out.same HNX.out)
        go_roundw
        case rel => exact ⟨k + 1, _, by omega, by go_num, HK5.out, HB5.out⟩
        case measure => simp [intOf]; omega
      · have hsf : seenB y = false := by simpa using hse
        rw [hsf] at HSE HIN
        simp only [Bool.false_and] at HIN
        have HNX := Lib.hid (show ∀ b, b < cnt → fillS ss cnt (k + 1) b = fillS ss cnt k b from fun b _ => by rw [fill_succ, HIN.out, if_neg (by decide), List.append_nil])
        clear hse hsf
        go_upto_region 8 with (go_at_call 177; refine (HSE.out _).mono ?_; rintro e w2 ⟨rfl, hb2⟩; have HB2 := Lib.hid (HBX.out.trans (hb2.mono HBX.out.size)); have HK2 := Lib.hid (HKX.out.below hb2); clear hb2)
        clear x0 x1 x2 x3 x4 x5 x6 x7 x8 c0 c1 c2 c3 c4 c5 c6 c7 c8 HSE HSX HBX HKX
        have HK5 := Lib.hid (HK2.out.same HNX.out)
        go_wp2_with fail
        go_roundw
        case rel => exact ⟨k + 1, _, by omega, by go_num, HK5.out, HB2.out⟩
        case measure => simp [intOf]; omega
    · obtain rfl : k = n := by omega
      go_wp2_with fail
      first | go_ret | skip
      exact ⟨w.heap.size, s, rfl, HK.out, HB.out⟩
end Go.Proofs.YtfljignkjmabpaaGreat

namespace Go.Proofs.YtfljignkjmabpaaGreat
set_option maxRecDepth 100000
set_option linter.unusedSimpArgs false
set_option linter.unusedVariables false
open Go.RowKit

def cntS (ss : List Sym) : Nat := (cntT ((hashesS ss).length : Int)).toNat
def wlS (ss : List Sym) : Nat := wcN (hashesS ss).length
def filS (ss : List Sym) : List UInt64 := Siv.setAll 6 (Siv.blank (wlS ss)) (hashesS ss)
theorem hashes_all (ss : List Sym) : (hashesS ss).length ≤ ss.length := by
  have := hashes_len ss ss.length
  rw [List.take_length] at this
  exact this
theorem cntS_val (ss : List Sym) : ((cntS ss : Nat) : Int) = cntT ((hashesS ss).length : Int) := by
  have := cnt_pos ((hashesS ss).length : Int)
  unfold cntS
  omega
theorem cntS_le {ss : List Sym} (h : ss.length ≤ 512) : 0 < cntS ss ∧ cntS ss ≤ 128 := by
  have h1 := hashes_all ss
  have h2 := cntS_val ss
  unfold cntT at h2
  split at h2 <;> omega
theorem fil_len (ss : List Sym) : (filS ss).length = wlS ss := by
  unfold filS
  rw [Siv.setAll_len]
  simp [Siv.blank]
abbrev tabA (gA : Option Addr) (n c : Nat) (Af : Option Addr) (wl cf : Nat) (sh : Int) : Array Value := #[.slice gA n c, .slice Af wl cf, .int .i64 sh]
/-- A table that was made of symbols. -/
def TabM (w0 w' : World) (ss : List Sym) (g : Nat) (s : Nat → Option Addr × Nat) (Af : Option Addr) (cf : Nat) : Prop :=
  Bks w' w0.heap.size g (cntS ss) (fillS ss (cntS ss) ss.length) s ∧ w'.ownsRow w0.heap.size 52 1 (.slice Af (wlS ss) cf) (wlS ss) (Siv.wds (filS ss)) ∧ Below w0.heap.size w0 w'
theorem Tryz.info_tab : (Tryz.prog.info? 35).map (·.size) = some 3 := by kernel_rfl
/-- A box of cells: a table's. -/
def Tx (w : World) (b : Nat) (cs : Array Value) : Prop := w.heap[b]? = some (.cells cs 35 (0, 0))
theorem results_tab {fn : Func} {p r : Tmp} {t : TypeId} (h : fn.results = #[.cell p t, .tmp r]) (tmps : Array Value) (P : Program) (w : World) :
    (results fn tmps).run P w = ((asAddr (tmps.getD p undef)).run P w).andThen fun a w₁ => ((loadVar t a).run P w₁).andThen fun v w₂ => .ok (.tuple #[v, tmps.getD r undef]) w₂ := by
  simp only [results, h]
  simp [Sem.run_bind, Result.andThen]
theorem Syl.lt {w w1 : World} {A : Option Addr} {n c : Nat} {ss : List Sym} (h : Syl w (fun k => k < w.heap.size) A n c ss) (hb : Below w.heap.size w w1) : Syl w1 (fun k => k < w1.heap.size) A n c ss := by
  have q := h.below hb (fun _ h => h)
  exact ⟨q.len, q.nil, q.cap, fun ad e h0 => Nat.lt_of_lt_of_le (q.blk ad e h0) hb.size, q.at_⟩
theorem grow_cell (w : World) (b j : Nat) (v : Value) : w.grownBy (w.setCell ⟨b, j, none⟩ v) (some b) :=
  ⟨rfl, rfl, rfl, by simp [World.setCell], fun k _ hn => Below.heap_setCell w ⟨b, j, none⟩ v k (fun e => hn (by rw [e]))⟩
theorem own_cell {w : World} {B b n : Nat} {e : TypeId} {v : Value} {xs : List Value} (h : w.ownsRow B e 1 v n xs) (hb : b < B) (j : Nat) (u : Value) : (w.setCell ⟨b, j, none⟩ u).ownsRow B e 1 v n xs :=
  h.kept (grow_cell w b j u) (by
    cases hq : v.ownBlock with
    | none => exact .inl rfl
    | some q => exact .inr fun e => absurd (Option.some.inj e) (fun e' => by have := (h.lt q hq).1; omega))
theorem Bks.cells {w : World} {B g n b : Nat} {f : Nat → List Int} {s : Nat → Option Addr × Nat} (h : Bks w B g n f s) (hb : b < B) (j : Nat) (u : Value) : Bks (w.setCell ⟨b, j, none⟩ u) B g n f s :=
  ⟨own_cell h.out hb j u, fun k hk => own_cell (h.own k hk) hb j u, h.apart⟩
theorem Bks.base {w : World} {B B' g n : Nat} {f : Nat → List Int} {s : Nat → Option Addr × Nat} (h : Bks w B g n f s) (hB : B' ≤ B) : Bks w B' g n f s := ⟨own_more h.out hB, fun k hk => own_more (h.own k hk) hB, h.apart⟩
end Go.Proofs.YtfljignkjmabpaaGreat

namespace Go.Proofs.YtfljignkjmabpaaGreat
set_option maxRecDepth 100000
set_option linter.unusedSimpArgs false
set_option linter.unusedVariables false
open Go.RowKit

/-- Rows of places that can be read. -/
structure Rws (w : World) (P : Nat → Prop) (A : Option Addr) (n c : Nat) (f : Nat → List Int) : Prop where
  nil : A = none → n = 0 ∧ c = 0
  cap : n ≤ c
  blk : ∀ ad, A = some ad → 0 < n → P ad.block
  at_ : ∀ ad, A = some ad → ∀ k, k < n → ∃ Ai ci, w.cell? (ad.add k) = some (.slice Ai (f k).length ci) ∧ Src w P Ai (f k).length ci (il (f k))
section
variable {w w' : World} {P Q : Nat → Prop} {A : Option Addr} {n c : Nat} {f : Nat → List Int}
theorem Rws.keep (h : Rws w P A n c f) (hk : ∀ k, P k → k < w.heap.size → w'.heap[k]? = w.heap[k]?) : Rws w' P A n c f :=
  ⟨h.nil, h.cap, h.blk, fun ad hA k hkn => by
    obtain ⟨Ai, ci, h1, h2⟩ := h.at_ ad hA k hkn
    refine ⟨Ai, ci, ?_, h2.keep hk⟩
    have hb := h.blk ad hA (by omega)
    rw [World.cell?_of_block (hk _ (by rw [addBlock]; exact hb) (World.block_lt_of_cell? w _ h1))]
    exact h1⟩
theorem Rws.weak (h : Rws w P A n c f) (hk : ∀ k, P k → Q k) : Rws w Q A n c f := ⟨h.nil, h.cap, fun ad hA hn => hk _ (h.blk ad hA hn), fun ad hA k hkn => by
  obtain ⟨Ai, ci, h1, h2⟩ := h.at_ ad hA k hkn
  exact ⟨Ai, ci, h1, h2.weak hk⟩⟩
theorem Rws.lt (h : Rws w (fun k => k < w.heap.size) A n c f) (hb : Below w.heap.size w w') : Rws w' (fun k => k < w'.heap.size) A n c f :=
  (h.keep fun k hk _ => hb.block k hk).weak fun _ hk => Nat.lt_of_lt_of_le hk hb.size
end
theorem Bks.rws {w : World} {B g n : Nat} {f : Nat → List Int} {s : Nat → Option Addr × Nat} (h : Bks w B g n f s) : Rws w (fun k => B ≤ k ∧ k < w.heap.size) (some ⟨g, 0, none⟩) n n f :=
  ⟨(by intro h; cases h), Nat.le_refl _, fun ad hA _ => by cases hA; exact h.out.lt g rfl, fun ad hA k hk => by
    cases hA
    refine ⟨(s k).1, (s k).2, ?_, (Src.of_own (h.own k hk)).weak fun q hq => hq.2⟩
    rw [plainAdd, Nat.zero_add, h.out.cellAt k (by omega), slvs_get hk]⟩
/-- A table as a value. -/
structure TabV (w : World) (P : Nat → Prop) (A : Option Addr) (n c : Nat) (Af : Option Addr) (cf : Nat) (f : Nat → List Int) (L : List UInt64) : Prop where
  rows : Rws w P A n c f
  words : Src w P Af L.length cf (Siv.wds L)
theorem TabV.keep {w w' : World} {P : Nat → Prop} {A Af : Option Addr} {n c cf : Nat} {f : Nat → List Int} {L : List UInt64} (h : TabV w P A n c Af cf f L) (hk : ∀ k, P k → k < w.heap.size → w'.heap[k]? = w.heap[k]?) : TabV w' P A n c Af cf f L := ⟨h.rows.keep hk, h.words.keep hk⟩
theorem TabV.weak {w : World} {P Q : Nat → Prop} {A Af : Option Addr} {n c cf : Nat} {f : Nat → List Int} {L : List UInt64} (h : TabV w P A n c Af cf f L) (hk : ∀ k, P k → Q k) : TabV w Q A n c Af cf f L := ⟨h.rows.weak hk, h.words.weak hk⟩
theorem TabV.lt {w w' : World} {A Af : Option Addr} {n c cf : Nat} {f : Nat → List Int} {L : List UInt64} (h : TabV w (fun k => k < w.heap.size) A n c Af cf f L) (hb : Below w.heap.size w w') : TabV w' (fun k => k < w'.heap.size) A n c Af cf f L :=
  ⟨h.rows.lt hb, (h.words.keep fun k hk _ => hb.block k hk).weak fun _ hk => Nat.lt_of_lt_of_le hk hb.size⟩
/-- What is found in a row of places, and how many were looked at. -/
def goF (r : Sym) (ss : List Sym) (v : Bool) : List Int → Nat → Int × Nat
  | [], e => (-1, e)
  | i :: l, e => if i < 0 ∨ (ss.length : Int) ≤ i then goF r ss v l e else if (match ss[i.toNat]? with | some d => matchB r d v | none => false) = true then (i, e + 1) else goF r ss v l (e + 1)
def findT (n : Nat) (f : Nat → List Int) (L : List UInt64) (sh : Int) (r : Sym) (ss : List Sym) : Int × Nat :=
  if n = 0 ∨ Siv.lacksB L sh (hashS r.name) = true then (-1, 0) else goF r ss (ss.any vdB) (f (bkt (hashS r.name) n)) 0
end Go.Proofs.YtfljignkjmabpaaGreat

namespace Go.Proofs.YtfljignkjmabpaaGreat
set_option maxRecDepth 100000
set_option linter.unusedSimpArgs false
set_option linter.unusedVariables false
open Go.RowKit

/-- A segment, a needed library, a relocation, a slot, an image. -/
structure Sg where
  at_ : Int
  size : Int
  bs : Str
  perm : Int
structure Nd where
  name : Str
  vers : List Str
structure Rl where
  at_ : Int
  kind : Int
  sym : Int
  add : Int
structure Sl where
  at_ : Int
  sym : Int
  stub : Int
structure Im where
  name : Str
  flags : Int
  segs : List Sg
  needed : List Nd
  run : List Str
  syms : List Sym
  rows : List (List Int)
  words : List UInt64
  shift : Int
  relocs : List Rl
  slots : List Sl
  init : List Int
  fini : List Int
  tls : Str
  tlsSize : Int
def noSg : Sg := ⟨0, 0, [], 0⟩
def noNd : Nd := ⟨[], []⟩
def noRl : Rl := ⟨0, 0, 0, 0⟩
def noSl : Sl := ⟨0, 0, 0⟩

abbrev sgA (s : Sg) (p : Option Addr × Nat) : Array Value := #[.int .i64 s.at_, .int .i64 s.size, .slice p.1 s.bs.length p.2, .int .i64 s.perm]
abbrev ndA (s : Nd) (p : Option Addr × Nat) : Array Value := #[str s.name, .slice p.1 s.vers.length p.2]
abbrev rlA (r : Rl) : Array Value := #[.int .i64 r.at_, .int .i64 r.kind, .int .i64 r.sym, .int .i64 r.add]
abbrev slA (r : Sl) : Array Value := #[.int .i64 r.at_, .int .i64 r.sym, .int .i64 r.stub]

/-- Elements of sz cells in memory, one behind the other. -/
structure Els (w : World) (P : Nat → Prop) (A : Option Addr) (n c sz : Nat) (E : Nat → Array Value) : Prop where
  nil : A = none → n = 0 ∧ c = 0
  cap : n ≤ c
  blk : ∀ ad, A = some ad → 0 < n → P ad.block
  at_ : ∀ ad, A = some ad → ∀ k, k < n → ∀ j u, (E k)[j]? = some u → w.cell? (ad.add (k * sz + j)) = some u
section
variable {w w' : World} {P Q : Nat → Prop} {A : Option Addr} {n c sz : Nat} {E : Nat → Array Value}
theorem Els.keep (h : Els w P A n c sz E) (hk : ∀ k, P k → k < w.heap.size → w'.heap[k]? = w.heap[k]?) : Els w' P A n c sz E :=
  ⟨h.nil, h.cap, h.blk, fun ad hA k hk' j u hu => by
    have h0 := h.at_ ad hA k hk' j u hu
    have hb := h.blk ad hA (by omega)
    have hh := World.block_lt_of_cell? w _ h0
    rw [addBlock] at hh
    exact (World.cell?_of_block (w := w) (w' := w') (by rw [addBlock]; exact hk _ hb hh)).trans h0⟩
theorem Els.weak (h : Els w P A n c sz E) (hk : ∀ k, P k → Q k) : Els w Q A n c sz E := ⟨h.nil, h.cap, fun ad hA hn => hk _ (h.blk ad hA hn), h.at_⟩
theorem Els.below {B : Nat} (h : Els w P A n c sz E) (hb : Below B w w') (hP : ∀ k, P k → k < B) : Els w' P A n c sz E :=
  h.keep fun k hk _ => hb.block k (hP k hk)
theorem Els.lt (h : Els w (fun k => k < w.heap.size) A n c sz E) (hb : Below w.heap.size w w') : Els w' (fun k => k < w'.heap.size) A n c sz E :=
  (h.keep fun k hk _ => hb.block k hk).weak fun _ hk => Nat.lt_of_lt_of_le hk hb.size
theorem Els.plain {ad : Addr} (h : Els w P (some ad) n c sz E) (h0 : 0 < n) {u : Value} (hu : (E 0)[0]? = some u) : ∃ b o, ad = ⟨b, o, none⟩ := by
  obtain ⟨b, o, spot⟩ := ad
  have hs : spot = none := by
    have h0 := World.cell?_spot (h.at_ _ rfl 0 h0 0 _ hu)
    simpa [Addr.add] using h0
  subst hs
  exact ⟨b, o, rfl⟩
theorem Els.get {b o : Nat} (h : Els w P (some ⟨b, o, none⟩) n c sz E) (k : Nat) (hk : k < n) (j : Nat) (u : Value) (hu : (E k)[j]? = some u) : w.cell? ⟨b, o + k * sz + j, none⟩ = some u := by
  have := h.at_ _ rfl k hk j u hu
  rwa [plainAdd, ← Nat.add_assoc] at this
end

/-- Segments: their places, and their bytes. -/
structure Sgs (w : World) (P : Nat → Prop) (A : Option Addr) (n c : Nat) (ss : List Sg) : Prop where
  len : ss.length = n
  ex : ∃ B : Nat → Option Addr × Nat, Els w P A n c 4 (fun k => sgA (ss.getD k noSg) (B k)) ∧ ∀ k, k < n → Src w P (B k).1 (ss.getD k noSg).bs.length (B k).2 (cells (ss.getD k noSg).bs)
/-- Needed libraries: their names and versions. -/
structure Nds (w : World) (P : Nat → Prop) (A : Option Addr) (n c : Nat) (ss : List Nd) : Prop where
  len : ss.length = n
  ex : ∃ B : Nat → Option Addr × Nat, Els w P A n c 2 (fun k => ndA (ss.getD k noNd) (B k)) ∧ ∀ k, k < n → Src w P (B k).1 (ss.getD k noNd).vers.length (B k).2 (strs (ss.getD k noNd).vers)
structure Rls (w : World) (P : Nat → Prop) (A : Option Addr) (n c : Nat) (ss : List Rl) : Prop where
  len : ss.length = n
  els : Els w P A n c 4 (fun k => rlA (ss.getD k noRl))
structure Sls (w : World) (P : Nat → Prop) (A : Option Addr) (n c : Nat) (ss : List Sl) : Prop where
  len : ss.length = n
  els : Els w P A n c 3 (fun k => slA (ss.getD k noSl))
section
variable {w w' : World} {P Q : Nat → Prop} {A : Option Addr} {n c : Nat}
theorem Sgs.keep {ss : List Sg} (h : Sgs w P A n c ss) (hk : ∀ k, P k → k < w.heap.size → w'.heap[k]? = w.heap[k]?) : Sgs w' P A n c ss := by
  obtain ⟨hl, B, h1, h2⟩ := h
  exact ⟨hl, B, h1.keep hk, fun k hk' => (h2 k hk').keep hk⟩
theorem Sgs.weak {ss : List Sg} (h : Sgs w P A n c ss) (hk : ∀ k, P k → Q k) : Sgs w Q A n c ss := by
  obtain ⟨hl, B, h1, h2⟩ := h
  exact ⟨hl, B, h1.weak hk, fun k hk' => (h2 k hk').weak hk⟩
theorem Nds.keep {ss : List Nd} (h : Nds w P A n c ss) (hk : ∀ k, P k → k < w.heap.size → w'.heap[k]? = w.heap[k]?) : Nds w' P A n c ss := by
  obtain ⟨hl, B, h1, h2⟩ := h
  exact ⟨hl, B, h1.keep hk, fun k hk' => (h2 k hk').keep hk⟩
theorem Nds.weak {ss : List Nd} (h : Nds w P A n c ss) (hk : ∀ k, P k → Q k) : Nds w Q A n c ss := by
  obtain ⟨hl, B, h1, h2⟩ := h
  exact ⟨hl, B, h1.weak hk, fun k hk' => (h2 k hk').weak hk⟩
theorem Rls.keep {ss : List Rl} (h : Rls w P A n c ss) (hk : ∀ k, P k → k < w.heap.size → w'.heap[k]? = w.heap[k]?) : Rls w' P A n c ss := ⟨h.len, h.els.keep hk⟩
theorem Rls.weak {ss : List Rl} (h : Rls w P A n c ss) (hk : ∀ k, P k → Q k) : Rls w Q A n c ss := ⟨h.len, h.els.weak hk⟩
theorem Sls.keep {ss : List Sl} (h : Sls w P A n c ss) (hk : ∀ k, P k → k < w.heap.size → w'.heap[k]? = w.heap[k]?) : Sls w' P A n c ss := ⟨h.len, h.els.keep hk⟩
theorem Sls.weak {ss : List Sl} (h : Sls w P A n c ss) (hk : ∀ k, P k → Q k) : Sls w Q A n c ss := ⟨h.len, h.els.weak hk⟩
theorem Syl.weak {ss : List Sym} (h : Syl w P A n c ss) (hk : ∀ k, P k → Q k) : Syl w Q A n c ss := ⟨h.len, h.nil, h.cap, fun ad hA hn => hk _ (h.blk ad hA hn), h.at_⟩
end

/-- Where an image's lists lie. -/
structure Pl where
  sg : Option Addr × Nat
  nd : Option Addr × Nat
  rp : Option Addr × Nat
  sy : Option Addr × Nat
  bk : Option Addr × Nat
  fw : Option Addr × Nat
  rl : Option Addr × Nat
  sl : Option Addr × Nat
  ini : Option Addr × Nat
  fin : Option Addr × Nat
  tl : Option Addr × Nat
abbrev imA (p : Pl) (x : Im) : Array Value := #[str x.name, .int .i64 x.flags, .slice p.sg.1 x.segs.length p.sg.2, .slice p.nd.1 x.needed.length p.nd.2, .slice p.rp.1 x.run.length p.rp.2, .slice p.sy.1 x.syms.length p.sy.2,
  .slice p.bk.1 x.rows.length p.bk.2, .slice p.fw.1 x.words.length p.fw.2, .int .i64 x.shift, .slice p.rl.1 x.relocs.length p.rl.2, .slice p.sl.1 x.slots.length p.sl.2, .slice p.ini.1 x.init.length p.ini.2, .slice p.fin.1 x.fini.length p.fin.2,
  .slice p.tl.1 x.tls.length p.tl.2, .int .i64 x.tlsSize]
abbrev imV (p : Pl) (x : Im) : Value := .agg (imA p x)
def rowF (rows : List (List Int)) (k : Nat) : List Int := rows.getD k []
/-- An image that can be read. -/
structure ImIn (w : World) (P : Nat → Prop) (p : Pl) (x : Im) : Prop where
  segs : Sgs w P p.sg.1 x.segs.length p.sg.2 x.segs
  needed : Nds w P p.nd.1 x.needed.length p.nd.2 x.needed
  run : Src w P p.rp.1 x.run.length p.rp.2 (strs x.run)
  syms : Syl w P p.sy.1 x.syms.length p.sy.2 x.syms
  tab : TabV w P p.bk.1 x.rows.length p.bk.2 p.fw.1 p.fw.2 (rowF x.rows) x.words
  relocs : Rls w P p.rl.1 x.relocs.length p.rl.2 x.relocs
  slots : Sls w P p.sl.1 x.slots.length p.sl.2 x.slots
  init : Src w P p.ini.1 x.init.length p.ini.2 (ints x.init)
  fini : Src w P p.fin.1 x.fini.length p.fin.2 (ints x.fini)
  tls : Src w P p.tl.1 x.tls.length p.tl.2 (cells x.tls)
theorem ImIn.keep {w w' : World} {P : Nat → Prop} {p : Pl} {x : Im} (h : ImIn w P p x) (hk : ∀ k, P k → k < w.heap.size → w'.heap[k]? = w.heap[k]?) : ImIn w' P p x :=
  ⟨h.segs.keep hk, h.needed.keep hk, h.run.keep hk, h.syms.keep hk, h.tab.keep hk, h.relocs.keep hk, h.slots.keep hk, h.init.keep hk, h.fini.keep hk, h.tls.keep hk⟩
theorem ImIn.weak {w : World} {P Q : Nat → Prop} {p : Pl} {x : Im} (h : ImIn w P p x) (hk : ∀ k, P k → Q k) : ImIn w Q p x :=
  ⟨h.segs.weak hk, h.needed.weak hk, h.run.weak hk, h.syms.weak hk, h.tab.weak hk, h.relocs.weak hk, h.slots.weak hk, h.init.weak hk, h.fini.weak hk, h.tls.weak hk⟩
theorem ImIn.lt {w w' : World} {p : Pl} {x : Im} (h : ImIn w (fun k => k < w.heap.size) p x) (hb : Below w.heap.size w w') : ImIn w' (fun k => k < w'.heap.size) p x :=
  (h.keep fun k hk _ => hb.block k hk).weak fun _ hk => Nat.lt_of_lt_of_le hk hb.size
/-- What every image that comes in keeps: each number is an int, no list is longer than what may come in. -/
def Long (n : Nat) : Prop := n ≤ 140737488351232
structure Fit (x : Im) : Prop where
  name : Long x.name.length
  flags : I64 x.flags
  segs : Long x.segs.length
  seg : ∀ s ∈ x.segs, I64 s.at_ ∧ I64 s.size ∧ I64 s.perm ∧ Long s.bs.length
  needed : Long x.needed.length
  need : ∀ s ∈ x.needed, Long s.name.length ∧ Long s.vers.length ∧ ∀ v ∈ s.vers, Long v.length
  run : Long x.run.length
  runs : ∀ s ∈ x.run, Long s.length
  syms : Long x.syms.length
  sym : ∀ s ∈ x.syms, Long s.name.length ∧ Long s.ver.length ∧ I64 s.kind ∧ I64 s.vis ∧ I64 s.val ∧ I64 s.size
  rows : Long x.rows.length
  row : ∀ r ∈ x.rows, Long r.length ∧ ∀ i ∈ r, I64 i
  words : Long x.words.length
  shift : I64 x.shift
  relocs : Long x.relocs.length
  reloc : ∀ r ∈ x.relocs, I64 r.at_ ∧ I64 r.kind ∧ I64 r.sym ∧ I64 r.add
  slots : Long x.slots.length
  slot : ∀ s ∈ x.slots, I64 s.at_ ∧ I64 s.sym ∧ I64 s.stub
  init : Long x.init.length
  inits : ∀ i ∈ x.init, I64 i
  fini : Long x.fini.length
  finis : ∀ i ∈ x.fini, I64 i
  tls : Long x.tls.length
  tlsSize : I64 x.tlsSize

/-- An image's box. -/
structure Ix (w : World) (g : Nat) (p : Pl) (x : Im) : Prop where
  bx : Bx w g (imA p x) 40
section
variable {w w' : World} {g : Nat} {p : Pl} {x : Im}
theorem Ix.new (w : World) (p : Pl) (x : Im) : Ix (w.alloc (.cells (imA p x) 40)) w.heap.size p x := ⟨Bx.new _ _ _⟩
theorem Ix.below (h : Ix w g p x) (hb : Below w.heap.size w w') : Ix w' g p x := ⟨h.bx.below hb⟩
theorem Ix.below' {B : Nat} (h : Ix w g p x) (hb : Below B w w') (hg : g < B) : Ix w' g p x := ⟨h.bx.below' hb hg⟩
theorem Ix.lt (h : Ix w g p x) : g < w.heap.size := h.bx.lt
theorem ibox_below (w : World) (p : Pl) (x : Im) : Below w.heap.size w (w.alloc (.cells (imA p x) 40)) := (Below.refl _ _).alloc (Nat.le_refl _) _
theorem Tryz.info_img : (Tryz.prog.info? 40).map (·.size) = some 15 := by kernel_rfl
theorem Ix.load (h : Ix w g p x) : (Instr.loadAt 40 (.pointer (some ⟨g, 0, none⟩))).run Tryz.prog w = .ok (imV p x) w := by
  simp only [Instr.loadAt, Instr.sureAddr, Sem.run_bind, Sem.run_pure, Result.andThen_ok]
  exact run_loadVar_row w g 40 40 _ (0, 0) _ h.bx Tryz.underlying40 rfl Tryz.info_img
theorem Ix.cells (h : Ix w g p x) : w.cell? ⟨g, 0, none⟩ = some (str x.name) ∧ w.cell? ⟨g, 1, none⟩ = some (.int .i64 x.flags) ∧ w.cell? ⟨g, 2, none⟩ = some (.slice p.sg.1 x.segs.length p.sg.2) ∧ w.cell? ⟨g, 3, none⟩ = some (.slice p.nd.1 x.needed.length p.nd.2) ∧
    w.cell? ⟨g, 4, none⟩ = some (.slice p.rp.1 x.run.length p.rp.2) ∧ w.cell? ⟨g, 5, none⟩ = some (.slice p.sy.1 x.syms.length p.sy.2) ∧ w.cell? ⟨g, 6, none⟩ = some (.slice p.bk.1 x.rows.length p.bk.2) ∧ w.cell? ⟨g, 7, none⟩ = some (.slice p.fw.1 x.words.length p.fw.2) ∧
    w.cell? ⟨g, 8, none⟩ = some (.int .i64 x.shift) ∧ w.cell? ⟨g, 9, none⟩ = some (.slice p.rl.1 x.relocs.length p.rl.2) ∧ w.cell? ⟨g, 10, none⟩ = some (.slice p.sl.1 x.slots.length p.sl.2) ∧ w.cell? ⟨g, 11, none⟩ = some (.slice p.ini.1 x.init.length p.ini.2) ∧
    w.cell? ⟨g, 12, none⟩ = some (.slice p.fin.1 x.fini.length p.fin.2) ∧ w.cell? ⟨g, 13, none⟩ = some (.slice p.tl.1 x.tls.length p.tl.2) ∧ w.cell? ⟨g, 14, none⟩ = some (.int .i64 x.tlsSize) :=
  ⟨h.bx.c 0, h.bx.c 1, h.bx.c 2, h.bx.c 3, h.bx.c 4, h.bx.c 5, h.bx.c 6, h.bx.c 7, h.bx.c 8, h.bx.c 9, h.bx.c 10, h.bx.c 11, h.bx.c 12, h.bx.c 13, h.bx.c 14⟩
end

def withB (n a b : Int) : Bool := decide (a ≤ n) && decide (n ≤ b)
theorem within_any (n a b : Int) (w : World) : Calls Tryz.prog 100 #[.int .i64 n, .int .i64 a, .int .i64 b] w fun e w' => e = .returned (.bool (withB n a b)) ∧ w = w' := by
  go_enter Tryz.func100, Tryz.ntmps100
  go_wp2_with fail
  all_goals
    go_ret
    refine ⟨ret_bool ?_, rfl⟩
    simp [withB, *] <;> omega
end Go.Proofs.YtfljignkjmabpaaGreat
