/-
  The hashes of names that are seen.
-/
import Derived.Test.YtlkhmpnahbbpeaaA
namespace Go.Proofs.Ytlkhmpnahbbpeaa
open Go.RowKit

theorem Try.info_u32 : (Try.prog.info? 55).map (fun i => (i.zero, i.size, i.bytes)) = some (some (.int .u32 0), 1, 4) := by kernel_rfl
theorem Try.info_int : (Try.prog.info? 3).map (fun i => (i.zero, i.size, i.bytes)) = some (some (.int .i64 0), 1, 8) := by kernel_rfl
theorem Try.info_ints : (Try.prog.info? 58).map (fun i => (i.zero, i.size, i.bytes)) = some (some (.slice none 0 0), 1, 24) := by kernel_rfl
/-- One value is appended to a row of the call's own. -/
theorem append_one {w : World} {ops : Array Oper} {rest : List Oper} {o : Oper} {a : Act} {Q : Exit → Act → World → Prop} (hgd : o.guard = none) (s x : Operand) (t e : TypeId) (z : Value) (bytes : Nat)
    (ho : o.op = .call { callee := .builtin .append, args := #[s, x], argTypes := #[t, t] }) (ht : Try.prog.underlying t = some (.slice e)) (hinfo : (Try.prog.info? e).map (fun i => (i.zero, i.size, i.bytes)) = some (some z, 1, bytes)) (hzs : z.cells.size = 1)
    (base : Nat) (A : Option Addr) (n c : Nat) (xs : List Value) (hs : a.eval s = .slice A n c) (hown : w.ownsRow base e 1 (.slice A n c) n xs) (g : Nat) (u : Value)
    (hx : a.eval x = .slice (some ⟨g, 0, none⟩) 1 1) (hc : w.cell? ⟨g, 0, none⟩ = some u) (hu : u.oneCell' = true) (h63 : n + 1 ≤ maxLen) (hb : (n + 1) * bytes ≤ 140737488355328) (hbase : base ≤ w.heap.size)
    (h : ∀ A' c' w', w'.ownsRow base e 1 (.slice A' (n + 1) c') (n + 1) (xs ++ [u]) → w.grownBy w' (Value.slice A n c).ownBlock → wpList Try.prog ops Q rest (a.put o.dst (.slice A' (n + 1) c')) w') : wpList Try.prog ops Q (o :: rest) a w := by
  obtain ⟨i, hi⟩ : ∃ i, Try.prog.info? e = some i := by
    cases hq : Try.prog.info? e with
    | none => rw [hq] at hinfo; cases hinfo
    | some i => exact ⟨i, rfl⟩
  rw [hi] at hinfo
  simp only [Option.map_some, Option.some.injEq, Prod.mk.injEq] at hinfo
  obtain ⟨h1, h2, h3⟩ := hinfo
  refine wpList_append_src hgd s x t ho base e i z bytes ht hi h1 h2 h3 hzs (.slice A n c) n xs hs hown (fun _ => True) _ 1 1 [u] hx ⟨rfl, (by intro h; cases h), Nat.le_refl _, (by intro _ _ _; trivial), ?_⟩ (by intro v hv; simp at hv; subst hv; exact hu) h63 hb hbase ?_
  · intro ad h j v hv
    cases h
    obtain rfl : j = 0 := by have := (List.getElem?_eq_some_iff.1 hv).1; simp at this; omega
    rw [plainAdd]
    simp at hv
    subst hv
    exact hc
  · intro v' w' hown' hg _
    obtain ⟨A', c', rfl⟩ := own_slice hown'
    exact h A' c' w' hown' hg
def hashesS (ss : List Sym) : List UInt32 := (ss.filter seenB).map fun s => hashS s.name
theorem hashes_take {ss : List Sym} {k : Nat} (hk : k < ss.length) : hashesS (ss.take (k + 1)) = hashesS (ss.take k) ++ (if seenB ss[k] then [hashS ss[k].name] else []) := by
  unfold hashesS
  rw [List.take_succ_eq_append_getElem hk, List.filter_append, List.map_append]
  congr 1
  by_cases h : seenB ss[k] = true
  · simp [h]
  · simp [h]
theorem hashes_len (ss : List Sym) (k : Nat) : (hashesS (ss.take k)).length ≤ k := by
  unfold hashesS
  rw [List.length_map]
  have h1 := List.length_filter_le seenB (ss.take k)
  have h2 := List.length_take_le k ss
  omega
/-- Names that fit. -/
def Named (ss : List Sym) : Prop := ∀ s ∈ ss, s.name.length ≤ 140737488351232
theorem hsh_app (a : List UInt32) (x : UInt32) : Siv.hsh (a ++ [x]) = Siv.hsh a ++ [hv x] := by simp [Siv.hsh]
theorem own_alloc {w : World} {B : Nat} {e : TypeId} {v : Value} {n : Nat} {xs : List Value} (h : w.ownsRow B e 1 v n xs) (o : Obj) : (w.alloc o).ownsRow B e 1 v n xs := Siv.own_below h ((Below.refl _ _).alloc (Nat.le_refl _) o)
theorem below_grown {w a b : World} {r : Option Nat} (h : Below w.heap.size w a) (hg : a.grownBy b r) (hr : ∀ k, r = some k → w.heap.size ≤ k) : Below w.heap.size w b :=
  h.grown hg h.size hr
/-- A symbol of a list is laid into a new box. -/
theorem sym_box {w : World} (s : Sym) : Sx (w.alloc (.cells (symA s) 43)) w.heap.size s ∧ Below w.heap.size w (w.alloc (.cells (symA s) 43)) := ⟨Sx.new w s, box_below w s⟩
set_option maxRecDepth 100000 in
set_option maxHeartbeats 4000000 in
theorem hashesOf_any (A : Option Addr) (n c : Nat) (ss : List Sym) (w : World) (h : Syl w (fun k => k < w.heap.size) A n c ss) (hn : n ≤ 512) (hs : Named ss) :
    Calls Try.prog 29 #[.slice A n c] w fun e w' => ∃ A' c', e = .returned (.slice A' (hashesS ss).length c') ∧ w'.ownsRow w.heap.size 55 1 (.slice A' (hashesS ss).length c') (hashesS ss).length (Siv.hsh (hashesS ss)) ∧ Below w.heap.size w w' := by
  have H := Lib.hid h
  have hl := h.len
  have HS := Lib.hid hs
  clear h hs
  go_enter Try.func29, Try.ntmps29
  go_upto_region 3 with (fail)
  go_loopw [8, 3] (fun t v wr => ∃ (k : Nat) (A' : Option Addr) (m c' : Nat) (hs : List UInt32), k ≤ n ∧ t = .int .i64 k ∧ v = .slice A' m c' ∧ hs = hashesS (ss.take k) ∧ hs.length = m ∧ m ≤ k ∧ wr.ownsRow w.heap.size 55 1 (.slice A' m c') m (Siv.hsh hs) ∧ Below w.heap.size w wr) (fun t _ _ => n - (intOf t).toNat)
  case atStart => exact ⟨0, none, 0, 0, [], Nat.zero_le _, rfl, rfl, rfl, rfl, Nat.le_refl _, World.ownsRow_nil _ _ _ _, Below.refl _ _⟩
  case round =>
    obtain ⟨k, A', m, c', hs, hk, rfl, rfl, hhs, hm, hmk, ho, hb⟩ := hrel
    have HB := Lib.hid hb
    have HO := Lib.hid ho
    have HHS := Lib.hid hhs
    have HM := Lib.hid hm
    clear hb ho hhs hm
    by_cases hkn : k < n
    · have hki : k < ss.length := by omega
      obtain ⟨ad, rfl⟩ : ∃ ad, A = some ad := by
        cases A with
        | none => have := (H.out.nil rfl).1; omega
        | some ad => exact ⟨ad, rfl⟩
      obtain ⟨b, o, rfl⟩ := H.out.plain (by omega)
      have hcap := H.out.cap
      obtain ⟨c0, c1, c2, c3, c4, c5, c6, c7, c8⟩ := (H.out.below HB.out (fun _ h => h)).get k hki
      have HTK := Lib.hid (hashes_take hki)
      have hnm := HS.out ss[k] (List.getElem_mem hki)
      generalize ss[k] = s at *
      have HSE := Lib.hid (fun X => seen_any s X)
      have HBX := Lib.hid (HB.out.trans ((box_below wr s).mono HB.out.size))
      have HSX := Lib.hid (Sx.new wr s)
      have HOX := Lib.hid (own_alloc HO.out (.cells (symA s) 43))
      obtain ⟨x0, x1, x2, x3, x4, x5, x6, x7, x8⟩ := HSX.out.cells
      by_cases hse : seenB s = true
      · rw [hse] at HSE
        rw [if_pos hse] at HTK
        have HHA := Lib.hid (fun X => thash_any s.name X (by omega))
        clear hse
        go_upto_region 6 with (go_at_call 54; refine (HSE.out _).mono ?_; rintro e w2 ⟨rfl, hb2⟩; have HB2 := Lib.hid (HBX.out.trans (hb2.mono HBX.out.size)); have HO2 := Lib.hid (Siv.own_below HOX.out hb2); have HSX2 := Lib.hid (HSX.out.below hb2); clear hb2)
        clear x0 x1 x2 x3 x4 x5 x6 x7 x8 c0 c1 c2 c3 c4 c5 c6 c7 c8 HSE HSX HBX HOX
        obtain ⟨x0, -⟩ := HSX2.out.cells
        generalize hashS s.name = hh at *
        have HCN := Lib.hid ((Bx.new w2 #[hv hh] 55).c 0)
        have HO3 := Lib.hid (own_alloc HO2.out (.cells #[hv hh] 55))
        have HB3 := Lib.hid (HB2.out.alloc HB2.out.size (.cells #[hv hh] 55))
        have m1 : m + 1 ≤ maxLen := by simp only [maxLen]; omega
        have m2 : (m + 1) * 4 ≤ 140737488355328 := by omega
        go_wp2_with (first
          | (go_at_call 43; refine (HHA.out _).mono ?_; rintro e w3 ⟨rfl, rfl⟩)
          | (at_builtin; refine append_one rfl (.tmp 14) (.tmp 18) 60 55 (.int .u32 0) 4 rfl Try.underlying60 Try.info_u32 rfl w.heap.size A' m c' (Siv.hsh hs) rfl HO3.out w2.heap.size (hv hh) rfl HCN.out rfl m1 m2 HB3.out.size ?_; intro A2 c2 w4 hown hg; have HO4 := Lib.hid hown; have HB4 := Lib.hid (below_grown HB3.out hg (fun q hq => (HO3.out.lt q hq).1)); clear hown hg))
        go_roundw
        case rel => exact ⟨k + 1, A2, m + 1, c2, hs ++ [hh], by omega, by go_num, rfl, by rw [HTK.out, HHS.out], by simp [HM.out], by omega, by rw [hsh_app]; exact HO4.out, HB4.out⟩
        case measure => simp [intOf]; omega
      · have hsf : seenB s = false := by simpa using hse
        rw [hsf] at HSE
        rw [if_neg hse, List.append_nil] at HTK
        clear hse hsf
        go_upto_region 7 with (go_at_call 54; refine (HSE.out _).mono ?_; rintro e w2 ⟨rfl, hb2⟩; have HB2 := Lib.hid (HBX.out.trans (hb2.mono HBX.out.size)); have HO2 := Lib.hid (Siv.own_below HOX.out hb2); clear hb2)
        clear x0 x1 x2 x3 x4 x5 x6 x7 x8 c0 c1 c2 c3 c4 c5 c6 c7 c8 HSE HSX HBX HOX
        go_wp2_with fail
        go_roundw
        case rel => exact ⟨k + 1, A', m, c', hs, by omega, by go_num, rfl, by rw [HTK.out, HHS.out], HM.out, by omega, HO2.out, HB2.out⟩
        case measure => simp [intOf]; omega
    · obtain rfl : k = n := by omega
      have htk : ss.take k = ss := by rw [← hl]; exact List.take_length
      rw [htk] at HHS
      obtain rfl : hs = hashesS ss := HHS.out
      obtain rfl : (hashesS ss).length = m := HM.out
      clear htk
      go_wp2_with fail
      first | go_ret | skip
      exact ⟨A', c', rfl, HO.out, HB.out⟩
end Go.Proofs.Ytlkhmpnahbbpeaa
