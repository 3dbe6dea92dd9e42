/-
  fill.
-/
import Derived.Test.YtlkhmpnahbbpeaaC
namespace Go.Proofs.Ytlkhmpnahbbpeaa
open Go.RowKit

/-- As append_one, and where the new row lies. -/
theorem append_one2 {w : World} {ops : Array Oper} {rest : List Oper} {o : Oper} {a : Act} {Q : Exit → Act → World → Prop} (hgd : o.guard = none) (s x : Operand) (t e : TypeId) (z : Value) (bytes : Nat)
    (ho : o.op = .call { callee := .builtin .append, args := #[s, x], argTypes := #[t, t] }) (ht : Try.prog.underlying t = some (.slice e)) (hinfo : (Try.prog.info? e).map (fun i => (i.zero, i.size, i.bytes)) = some (some z, 1, bytes)) (hzs : z.cells.size = 1)
    (base : Nat) (A : Option Addr) (n c : Nat) (xs : List Value) (hs : a.eval s = .slice A n c) (hown : w.ownsRow base e 1 (.slice A n c) n xs) (g : Nat) (u : Value)
    (hx : a.eval x = .slice (some ⟨g, 0, none⟩) 1 1) (hc : w.cell? ⟨g, 0, none⟩ = some u) (hu : u.oneCell' = true) (h63 : n + 1 ≤ maxLen) (hb : (n + 1) * bytes ≤ 140737488355328) (hbase : base ≤ w.heap.size)
    (h : ∀ A' c' w', w'.ownsRow base e 1 (.slice A' (n + 1) c') (n + 1) (xs ++ [u]) → w.grownBy w' (Value.slice A n c).ownBlock → ((Value.slice A' (n + 1) c').ownBlock = (Value.slice A n c).ownBlock ∨ (Value.slice A' (n + 1) c').ownBlock = some w.heap.size) → wpList Try.prog ops Q rest (a.put o.dst (.slice A' (n + 1) c')) w') : wpList Try.prog ops Q (o :: rest) a w := by
  obtain ⟨i, hi⟩ : ∃ i, Try.prog.info? e = some i := by
    cases hq : Try.prog.info? e with
    | none => rw [hq] at hinfo; cases hinfo
    | some i => exact ⟨i, rfl⟩
  rw [hi] at hinfo
  simp only [Option.map_some, Option.some.injEq, Prod.mk.injEq] at hinfo
  obtain ⟨h1, h2, h3⟩ := hinfo
  refine wpList_append_src hgd s x t ho base e i z bytes ht hi h1 h2 h3 hzs (.slice A n c) n xs hs hown (fun _ => True) _ 1 1 [u] hx ⟨rfl, (by intro h; cases h), Nat.le_refl _, (by intro _ _ _; trivial), ?_⟩ (by intro v hv; simp at hv; subst hv; exact hu) h63 hb hbase ?_
  · intro ad h j v hv
    cases h
    obtain rfl : j = 0 := by have := (List.getElem?_eq_some_iff.1 hv).1; simp at this; omega
    rw [plainAdd]
    simp at hv
    subst hv
    exact hc
  · intro v' w' hown' hg hw
    obtain ⟨A', c', rfl⟩ := own_slice hown'
    exact h A' c' w' hown' hg hw
theorem Bks.outer {w w2 : World} {B g n : Nat} {f : Nat → List Int} {s : Nat → Option Addr × Nat} (h : Bks w B g n f s) {i : Nat} (hi : i < n) (hg : w.grownBy w2 (sl (s i) (f i)).ownBlock) : w2.cell? ⟨g, i, none⟩ = some (sl (s i) (f i)) ∧ w2.frozen? ⟨g, i, none⟩ = false := by
  have ho2 := h.out.kept hg (.inr fun e => own_ne h.out (h.own i hi) (by decide) g rfl e.symm)
  exact ⟨by rw [ho2.cellAt i (by omega), slvs_get hi], ho2.frozenAt i⟩
theorem made_nils (n : Nat) : (madeCells (Value.slice none 0 0).cells (n * 1)).toList = slvs n (fun _ => []) (fun _ => (none, 0)) := by
  apply List.ext_getElem
  · simp [madeCells, slvs]
  · intro i h1 h2
    simp [madeCells, slvs, Value.cells, Nat.mod_one, sl]
theorem Bks.new {w w1 : World} {B n : Nat} (h : w1.ownsRow B 58 1 (.slice (some ⟨w.heap.size, 0, none⟩) n n) n (madeCells (Value.slice none 0 0).cells (n * 1)).toList) : Bks w1 B w.heap.size n (fun _ => []) (fun _ => (none, 0)) := by
  rw [made_nils] at h
  exact ⟨h, fun k _ => World.ownsRow_nil _ _ _ _, fun i j _ _ _ q hq => by cases hq⟩
set_option maxRecDepth 100000 in
set_option maxHeartbeats 4000000 in
theorem fill_any (cnt : Nat) (A : Option Addr) (n c : Nat) (ss : List Sym) (w : World) (h : Syl w (fun k => k < w.heap.size) A n c ss) (hn : n ≤ 512) (hs : Named ss) (h0 : 0 < cnt) (h1 : cnt ≤ 512) :
    Calls Try.prog 32 #[.int .i64 (cnt : Int), .slice A n c] w fun e w' => ∃ g s, e = .returned (.slice (some ⟨g, 0, none⟩) cnt cnt) ∧ Bks w' w.heap.size g cnt (fillS ss cnt n) s ∧ Below w.heap.size w w' := by
  have H := Lib.hid h
  have hl := h.len
  have HS := Lib.hid hs
  clear h hs
  obtain ⟨i0, hi, hz0, hz1, hz2⟩ : ∃ i0, Try.prog.info? 58 = some i0 ∧ i0.zero = some (.slice none 0 0) ∧ i0.size = 1 ∧ i0.bytes = 24 := by
    have h := Try.info_ints
    cases hq : Try.prog.info? 58 with
    | none => rw [hq] at h; cases h
    | some i =>
      rw [hq] at h
      simp only [Option.map_some, Option.some.injEq, Prod.mk.injEq] at h
      exact ⟨i, rfl, h⟩
  have m3 : cnt ≤ maxLen := by simp only [maxLen]; omega
  go_enter Try.func32, Try.ntmps32
  go_upto_region 3 with (first
    | (at_make; refine wpList_make_full _ rfl _ _ _ rfl w.heap.size 58 i0 _ 1 Try.underlying24 hi hz0 hz1 .i64 .i64 _ _ cnt rfl rfl rfl rfl (by rw [hz2]; omega) m3 (Nat.le_refl _) ?_; intro w1 hown hg1; have HK := Lib.hid (Bks.new hown); have HB1 := Lib.hid (below_grown (Below.refl _ _) hg1 (fun q hq => by cases hq)); clear hown hg1))
  go_loopw [13] (fun t wr => ∃ (k : Nat) (s : Nat → Option Addr × Nat), k ≤ n ∧ t = .int .i64 k ∧ Bks wr w.heap.size w.heap.size cnt (fillS ss cnt k) s ∧ Below w.heap.size w wr) (fun t _ => n - (intOf t).toNat)
  case atStart => exact ⟨0, _, Nat.zero_le _, rfl, HK.out, HB1.out⟩
  case round =>
    obtain ⟨k, s, hk, rfl, hks, hb⟩ := hrel
    have HB := Lib.hid hb
    have HK := Lib.hid hks
    clear hb hks HB1
    by_cases hkn : k < n
    · have hki : k < ss.length := by omega
      obtain ⟨ad, rfl⟩ : ∃ ad, A = some ad := by
        cases A with
        | none => have := (H.out.nil rfl).1; omega
        | some ad => exact ⟨ad, rfl⟩
      obtain ⟨b, o, rfl⟩ := H.out.plain (by omega)
      have hcap := H.out.cap
      obtain ⟨c0, c1, c2, c3, c4, c5, c6, c7, c8⟩ := (H.out.below HB.out (fun _ h => h)).get k hki
      have HIN := Lib.hid (fun b => show inB ss cnt b k = (seenB ss[k] && (bkt (hashS ss[k].name) cnt == b)) by simp [inB, hki])
      have hnm := HS.out ss[k] (List.getElem_mem hki)
      generalize ss[k] = y at *
      have HSE := Lib.hid (fun X => seen_any y X)
      have HBX := Lib.hid (HB.out.trans ((box_below wr y).mono HB.out.size))
      have HKX := Lib.hid (HK.out.below (box_below wr y))
      have HSX := Lib.hid (Sx.new wr y)
      obtain ⟨x0, x1, x2, x3, x4, x5, x6, x7, x8⟩ := HSX.out.cells
      by_cases hse : seenB y = true
      · rw [hse] at HSE HIN
        simp only [Bool.true_and] at HIN
        have HHA := Lib.hid (fun X => thash_any y.name X (by omega))
        generalize hashS y.name = hh at *
        have HBK := Lib.hid (fun X => bucket_any hh cnt h0 (by omega) X)
        have hbl := bkt_lt hh h0
        generalize bkt hh cnt = i at *
        have HNX := Lib.hid (show ∀ b, b < cnt → fillS ss cnt (k + 1) b = if b = i then fillS ss cnt k i ++ [(k : Int)] else fillS ss cnt k b from fun b _ => by
          rw [fill_succ, HIN.out]
          by_cases hbi : b = i
          · subst hbi; simp
          · rw [if_neg hbi, if_neg (by simp; exact fun e => hbi e.symm), List.append_nil])
        have hfl := fill_len ss cnt k i
        clear hse
        go_upto_region 7 with (first
          | (go_at_call 54; refine (HSE.out _).mono ?_; rintro e w2 ⟨rfl, hb2⟩; have HB2 := Lib.hid (HBX.out.trans (hb2.mono HBX.out.size)); have HK2 := Lib.hid (HKX.out.below hb2); have HSX2 := Lib.hid (HSX.out.below hb2); clear hb2 x0 x1 x2 x3 x4 x5 x6 x7 x8; obtain ⟨x0, -⟩ := HSX2.out.cells)
          | (go_at_call 43; refine (HHA.out _).mono ?_; rintro e w3 ⟨rfl, rfl⟩)
          | (go_at_call 46; refine (HBK.out _).mono ?_; rintro e w3 ⟨rfl, rfl⟩))
        clear x0 c0 c1 c2 c3 c4 c5 c6 c7 c8 HSE HSX HBX HKX HIN HSX2
        have HCN := Lib.hid ((Bx.new w2 #[.int .i64 (k : Int)] 3).c 0)
        have HK3 := Lib.hid (HK2.out.below ((Below.refl _ _).alloc (Nat.le_refl _) (.cells #[.int .i64 (k : Int)] 3)))
        have HB3 := Lib.hid (HB2.out.alloc HB2.out.size (.cells #[.int .i64 (k : Int)] 3))
        have k0 : w2.cell? ⟨w.heap.size, i, none⟩ = some (sl (s i) (fillS ss cnt k i)) := by rw [HK2.out.out.cellAt i (by omega), slvs_get hbl]
        have k1 := HK3.out.out.cellAt i (by omega)
        rw [slvs_get hbl] at k1
        have m1 : (fillS ss cnt k i).length + 1 ≤ maxLen := by simp only [maxLen]; omega
        have m2 : ((fillS ss cnt k i).length + 1) * 8 ≤ 140737488355328 := by omega
        have hi0 : (0 : Int) ≤ (i : Int) := by omega
        have hi1 : (i : Int) < (cnt : Int) := by omega
        have HG := Lib.hid (fun (X : World) (hg : (w2.alloc (.cells #[.int .i64 (k : Int)] 3)).grownBy X (sl (s i) (fillS ss cnt k i)).ownBlock) => HK3.out.outer hbl hg)
        go_wp2_with (first
          | (at_builtin; refine append_one2 rfl (.tmp 30) (.tmp 32) 58 3 (.int .i64 0) 8 rfl Try.underlying58 Try.info_int rfl w.heap.size (s i).1 (fillS ss cnt k i).length (s i).2 (il (fillS ss cnt k i)) rfl (HK3.out.own i hbl) w2.heap.size (.int .i64 (k : Int)) rfl HCN.out rfl m1 m2 HB3.out.size ?_; intro A2 c2 w4 hown hg hw; have HK4 := Lib.hid (HK3.out.push hbl hown hg hw); have HB4 := Lib.hid (below_grown HB3.out hg (fun q hq => ((HK3.out.own i hbl).lt q hq).1)); obtain ⟨k2, k3⟩ := HG.out w4 hg; clear hown hg hw))
        have HB5 := Lib.hid (HB4.out.setCell (p := ⟨w.heap.size, i, none⟩) (Nat.le_refl _) (.slice A2 ((fillS ss cnt k i).length + 1) c2))
        have HK5 := Lib.hid (HK4.out.same HNX.out)
        go_roundw
        case rel => exact ⟨k + 1, _, by omega, by go_num, HK5.out, HB5.out⟩
        case measure => simp [intOf]; omega
      · have hsf : seenB y = false := by simpa using hse
        rw [hsf] at HSE HIN
        simp only [Bool.false_and] at HIN
        have HNX := Lib.hid (show ∀ b, b < cnt → fillS ss cnt (k + 1) b = fillS ss cnt k b from fun b _ => by rw [fill_succ, HIN.out, if_neg (by decide), List.append_nil])
        clear hse hsf
        go_upto_region 8 with (go_at_call 54; refine (HSE.out _).mono ?_; rintro e w2 ⟨rfl, hb2⟩; have HB2 := Lib.hid (HBX.out.trans (hb2.mono HBX.out.size)); have HK2 := Lib.hid (HKX.out.below hb2); clear hb2)
        clear x0 x1 x2 x3 x4 x5 x6 x7 x8 c0 c1 c2 c3 c4 c5 c6 c7 c8 HSE HSX HBX HKX
        have HK5 := Lib.hid (HK2.out.same HNX.out)
        go_wp2_with fail
        go_roundw
        case rel => exact ⟨k + 1, _, by omega, by go_num, HK5.out, HB2.out⟩
        case measure => simp [intOf]; omega
    · obtain rfl : k = n := by omega
      go_wp2_with fail
      first | go_ret | skip
      exact ⟨w.heap.size, s, rfl, HK.out, HB.out⟩
end Go.Proofs.Ytlkhmpnahbbpeaa
