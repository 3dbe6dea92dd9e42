/-
  The document's seen, and stands.
-/
import Derived.Test.YtpcgedngikpnoaaTL
namespace Go.Proofs.Ytpcgedngikpnoaa
set_option maxRecDepth 100000
set_option linter.unusedSimpArgs false
set_option linter.unusedVariables false
open Go.RowKit

def seenAt (ss : List Sym) (i : Nat) : Bool := match ss[i]? with
  | some s => seenB s
  | none => false
theorem seenAt_at {ss : List Sym} {k : Nat} (hk : k < ss.length) : seenAt ss k = seenB ss[k] := by simp [seenAt, hk]
/-- The places of those that are seen, among the first k. -/
def seenL (ss : List Sym) (k : Nat) : List Int := ((List.range k).filter (seenAt ss)).map fun (i : Nat) => (i : Int)
theorem seen_succ (ss : List Sym) (k : Nat) : seenL ss (k + 1) = seenL ss k ++ (if seenAt ss k = true then [(k : Int)] else []) := by
  unfold seenL
  rw [List.range_succ, List.filter_append, List.map_append]
  congr 1
  by_cases h : seenAt ss k = true
  · simp [h]
  · simp [h]
theorem seen_len (ss : List Sym) (k : Nat) : (seenL ss k).length ≤ k := by
  unfold seenL
  rw [List.length_map]
  have := List.length_filter_le (seenAt ss) (List.range k)
  simpa using this
theorem seen_hashes (ss : List Sym) : ∀ k, k ≤ ss.length → (seenL ss k).length = (hashesS (ss.take k)).length
  | 0, _ => rfl
  | k + 1, hk => by
    have hkl : k < ss.length := by omega
    rw [seen_succ, hashes_take hkl, List.length_append, List.length_append, seen_hashes ss k (by omega), seenAt_at hkl]
    cases seenB ss[k] <;> simp
set_option maxRecDepth 100000 in
set_option maxHeartbeats 4000000 in
theorem qseen_any (A : Option Addr) (n c : Nat) (ss : List Sym) (w : World) (h : Syl w (fun k => k < w.heap.size) A n c ss) (hn : n ≤ 512) :
    Calls Try.prog 51 #[.slice A n c] w fun e w' => ∃ A' c', e = .returned (.slice A' (seenL ss n).length c') ∧ w'.ownsRow w.heap.size 3 1 (.slice A' (seenL ss n).length c') (seenL ss n).length (il (seenL ss n)) ∧ Below w.heap.size w w' := by
  obtain rfl := h.len
  have H := Lib.hid h
  clear h
  go_enter Try.func51, Try.ntmps51
  go_upto_region 3 with (fail)
  go_loopw [3, 4] (fun v t wr => ∃ (k : Nat) (A' : Option Addr) (m c' : Nat) (l : List Int), k ≤ ss.length ∧ t = .int .i64 k ∧ v = .slice A' m c' ∧ l = seenL ss k ∧ l.length = m ∧ m ≤ k ∧ wr.ownsRow w.heap.size 3 1 (.slice A' m c') m (il l) ∧ Below w.heap.size w wr) (fun _ t _ => ss.length - (intOf t).toNat)
  case atStart => exact ⟨0, none, 0, 0, [], Nat.zero_le _, rfl, rfl, rfl, rfl, Nat.le_refl _, World.ownsRow_nil _ _ _ _, Below.refl _ _⟩
  case round =>
    obtain ⟨k, A', m, c', l, hk, rfl, rfl, hl, hm, hmk, ho, hb⟩ := hrel
    have HB := Lib.hid hb
    have HO := Lib.hid ho
    have HL := Lib.hid hl
    have HM := Lib.hid hm
    clear hb ho hl hm
    by_cases hki : k < ss.length
    · obtain ⟨ad, rfl⟩ : ∃ ad, A = some ad := by
        cases A with
        | none => have := (H.out.nil rfl).1; omega
        | some ad => exact ⟨ad, rfl⟩
      obtain ⟨b, o, rfl⟩ := H.out.plain (by omega)
      have hcap := H.out.cap
      obtain ⟨c0, c1, c2, c3, c4, c5, c6, c7, c8⟩ := (H.out.below HB.out (fun _ h => h)).get k hki
      have HSU := Lib.hid (show seenL ss (k + 1) = seenL ss k ++ (if seenB ss[k] = true then [(k : Int)] else []) by rw [seen_succ, seenAt_at hki])
      generalize ss[k] = s at *
      have HSE := Lib.hid (fun X => rseen_any s X)
      generalize seenB s = se at *
      cases se
      · have HN := Lib.hid (show l = seenL ss (k + 1) by rw [HSU.out, HL.out]; simp)
        go_upto_region 6 with (go_at_call 27; refine (HSE.out _).mono ?_; rintro e w2 ⟨rfl, hb2⟩; have HB2 := Lib.hid (HB.out.trans (hb2.mono HB.out.size)); have HO2 := Lib.hid (Siv.own_below HO.out hb2); clear hb2)
        clear c0 c1 c2 c3 c4 c5 c6 c7 c8 HSE
        go_wp2_with fail
        go_roundw
        case rel => exact ⟨k + 1, A', m, c', l, by omega, by go_num, rfl, HN.out, HM.out, by omega, HO2.out, HB2.out⟩
        case measure => simp [intOf]; omega
      · have HN := Lib.hid (show l ++ [(k : Int)] = seenL ss (k + 1) by rw [HSU.out, HL.out]; simp)
        go_upto_region 6 with (go_at_call 27; refine (HSE.out _).mono ?_; rintro e w2 ⟨rfl, hb2⟩; have HB2 := Lib.hid (HB.out.trans (hb2.mono HB.out.size)); have HO2 := Lib.hid (Siv.own_below HO.out hb2); clear hb2)
        clear c0 c1 c2 c3 c4 c5 c6 c7 c8 HSE
        have HCN := Lib.hid ((Bx.new w2 #[.int .i64 (k : Int)] 3).c 0)
        have HO3 := Lib.hid (own_alloc HO2.out (.cells #[.int .i64 (k : Int)] 3))
        have HB3 := Lib.hid (HB2.out.alloc HB2.out.size (.cells #[.int .i64 (k : Int)] 3))
        have m1 : m + 1 ≤ maxLen := by simp only [maxLen]; omega
        have m2 : (m + 1) * 8 ≤ 140737488355328 := by omega
        have hil : il l ++ [.int .i64 (k : Int)] = il (l ++ [(k : Int)]) := by simp [il]
        have HIL := Lib.hid hil
        clear hil
        go_wp2_with (at_builtin; refine append_one rfl (.tmp 16) (.tmp 18) 30 3 (.int .i64 0) 8 rfl Try.underlying30 Try.info_int rfl w.heap.size A' m c' (il l) rfl HO3.out w2.heap.size (.int .i64 (k : Int)) rfl HCN.out rfl m1 m2 HB3.out.size ?_; intro A2 c2 w4 hown hg; have HO4 := Lib.hid hown; have HB4 := Lib.hid (below_grown HB3.out hg (fun q hq => (HO3.out.lt q hq).1)); clear hown hg)
        go_roundw
        case rel => exact ⟨k + 1, A2, m + 1, c2, l ++ [(k : Int)], by omega, by go_num, rfl, HN.out, by simp [HM.out], by omega, by rw [← HIL.out]; exact HO4.out, HB4.out⟩
        case measure => simp [intOf]; omega
    · obtain rfl : k = ss.length := by omega
      obtain rfl : l = seenL ss ss.length := HL.out
      obtain rfl : (seenL ss ss.length).length = m := HM.out
      go_wp2_with fail
      first | go_ret | skip
      exact ⟨A', c', rfl, HO.out, HB.out⟩
/-- How often a number stands in a row. -/
def cntL (l : List Int) (x : Int) : Nat := (l.filter (· == x)).length
theorem cntL_take {l : List Int} {x : Int} {k : Nat} (hk : k < l.length) : cntL (l.take (k + 1)) x = cntL (l.take k) x + (if l[k] = x then 1 else 0) := by
  unfold cntL
  rw [List.take_succ_eq_append_getElem hk, List.filter_append, List.length_append]
  congr 1
  by_cases h : l[k] = x
  · simp [h]
  · simp [h]
theorem cntL_le (l : List Int) (x : Int) (k : Nat) : cntL (l.take k) x ≤ k := by
  unfold cntL
  have h1 := List.length_filter_le (· == x) (l.take k)
  have h2 := List.length_take_le k l
  omega
set_option maxRecDepth 100000 in
theorem qstands_any {P : Nat → Prop} (A : Option Addr) (c : Nat) (l : List Int) (x : Int) (w : World) (h : Src w P A l.length c (il l)) (hn : l.length ≤ 4611686018427387904) :
    Calls Try.prog 52 #[.slice A l.length c, .int .i64 x] w fun e w' => e = .returned (.int .i64 (cntL l x : Int)) ∧ w = w' := by
  have H := Lib.hid h
  have hcap := h.cap
  clear h
  go_enter Try.func52, Try.ntmps52
  go_upto_region 3 with (fail)
  go_loopw [5, 6] (fun v t wr => ∃ k m : Nat, k ≤ l.length ∧ t = .int .i64 k ∧ v = .int .i64 m ∧ m = cntL (l.take k) x ∧ m ≤ k ∧ w = wr) (fun _ t _ => l.length - (intOf t).toNat)
  case atStart => exact ⟨0, 0, Nat.zero_le _, rfl, rfl, rfl, Nat.le_refl _, rfl⟩
  case round =>
    obtain ⟨k, m, hk, rfl, rfl, hm, hmk, rfl⟩ := hrel
    have HM := Lib.hid hm
    clear hm
    by_cases hki : k < l.length
    · obtain ⟨ad, rfl⟩ : ∃ ad, A = some ad := by
        cases A with
        | none => have := (H.out.nil rfl).1; omega
        | some ad => exact ⟨ad, rfl⟩
      have hc : w.cell? (ad.add k) = some (.int .i64 l[k]) := H.out.at_ ad rfl k _ (il_get l k hki)
      have HT := Lib.hid (cntL_take (x := x) hki)
      generalize l[k] = y at *
      by_cases hyx : y = x
      · have HN := Lib.hid (show m + 1 = cntL (l.take (k + 1)) x by rw [HT.out, HM.out, if_pos hyx])
        subst hyx
        clear HT
        go_wp2_with fail
        go_roundw
        case rel => exact ⟨k + 1, m + 1, by omega, by go_num, by go_num, HN.out, by omega, trivial⟩
        case measure => simp [intOf]; omega
      · have HN := Lib.hid (show m = cntL (l.take (k + 1)) x by rw [HT.out, HM.out, if_neg hyx]; rfl)
        have hne : (y == x) = false := beq_eq_false_iff_ne.2 hyx
        clear HT
        go_wp2_with fail
        go_roundw
        case rel => exact ⟨k + 1, m, by omega, by go_num, rfl, HN.out, by omega, trivial⟩
        case measure => simp [intOf]; omega
    · obtain rfl : k = l.length := by omega
      have HN := Lib.hid (show (m : Int) = (cntL l x : Int) by rw [HM.out, List.take_length])
      go_wp2_with fail
      first | go_ret | skip
      exact ⟨ret_i HN.out, rfl⟩
end Go.Proofs.Ytpcgedngikpnoaa
