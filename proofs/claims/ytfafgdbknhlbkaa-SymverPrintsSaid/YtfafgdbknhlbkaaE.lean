/-
  What a text is as a symbol: the document's Parse.
-/
import Derived.Test.YtfafgdbknhlbkaaD
import Derived.Deep.Cut
namespace Go.Proofs.Ytfafgdbknhlbkaa
open Go.RowKit

theorem spl_miss : ∀ {l : Str}, (∀ x ∈ l, x ≠ 64) → spl l = (l, none)
  | [], _ => rfl
  | x :: l, h => by
    rw [spl, if_neg (h x (by simp)), spl_miss (fun y hy => h y (by simp [hy]))]
theorem spl_hit : ∀ {l : Str} {k : Nat} (hk : k < l.length), l[k] = 64 → (∀ x ∈ l.take k, x ≠ 64) → spl l = (l.take k, some (l.drop (k + 1)))
  | [], k, hk, _, _ => by simp at hk
  | x :: l, 0, hk, hx, _ => by
    have : x = 64 := hx
    rw [spl, if_pos this]
    rfl
  | x :: l, k + 1, hk, hx, h => by
    rw [spl, if_neg (h x (by simp)), spl_hit (l := l) (k := k) (by simpa using hk) (by simpa using hx) (fun y hy => h y (by simp [hy]))]
    rfl
theorem take_no {l : Str} {k : Nat} (hk : k < l.length) (h : ∀ x ∈ l.take k, x ≠ 64) (hx : l[k] ≠ 64) : ∀ x ∈ l.take (k + 1), x ≠ 64 := by
  rw [List.take_succ_eq_append_getElem hk]
  intro x hm
  rcases List.mem_append.1 hm with h1 | h1
  · exact h x h1
  · simp at h1; subst h1; exact hx
/-- Where the document's Parse stands: its result's box, and the symbol's. -/
structure At2 (w w' : World) (g : Nat) (s : Sym) : Prop where
  below : Below w.heap.size w w'
  res : Sx w' w.heap.size noSym
  box : Sx w' g s
  lo : w.heap.size < g
abbrev zeroA : Array Value := #[.string ⟨#[]⟩, .string ⟨#[]⟩, .bool false, .int .i64 0, .bool false, .int .i64 0, .bool false, .int .i64 0, .int .i64 0]
theorem At2.at_ {w w' : World} {g : Nat} {s : Sym} (h : At2 w w' g s) :
    w'.cell? ⟨g, 0, none⟩ = some (str s.name) ∧ w'.cell? ⟨g, 1, none⟩ = some (str s.ver) ∧ w'.cell? ⟨g, 2, none⟩ = some (.bool s.old) ∧ w'.frozen? ⟨g, 1, none⟩ = false ∧ w'.frozen? ⟨g, 2, none⟩ = false :=
  ⟨h.box.cells.1, h.box.cells.2.1, h.box.cells.2.2.1, h.box.frozen 1, h.box.frozen 2⟩
theorem Sx.other {w : World} {g : Nat} {s : Sym} (h : Sx w g s) {a : Addr} (ha : g ≠ a.block) (u : Value) : Sx (w.setCell a u) g s := ⟨h.bx.other ha u⟩
theorem At2.ver {w w' : World} {g : Nat} {s : Sym} (h : At2 w w' g s) (v : Str) : At2 w (w'.setCell ⟨g, 1, none⟩ (str v)) g { s with ver := v } :=
  ⟨h.below.setCell (p := ⟨g, 1, none⟩) (Nat.le_of_lt h.lo) _, h.res.other (by have := h.lo; simp; omega) _, ⟨heap_setCell_same _ g 1 _ _ (str v) h.box.bx⟩, h.lo⟩
theorem At2.old {w w' : World} {g : Nat} {s : Sym} (h : At2 w w' g s) (v : Bool) : At2 w (w'.setCell ⟨g, 2, none⟩ (.bool v)) g { s with old := v } :=
  ⟨h.below.setCell (p := ⟨g, 2, none⟩) (Nat.le_of_lt h.lo) _, h.res.other (by have := h.lo; simp; omega) _, ⟨heap_setCell_same _ g 2 _ _ (.bool v) h.box.bx⟩, h.lo⟩

set_option maxHeartbeats 8000000 in
theorem rparse_any (l : Str) (d : Bool) (w : World) (hs : l.length ≤ 9223372036854775806) :
    Calls Try.prog 12 #[str l, .bool d] w fun e w' => e = .returned (parseV (parseS l d)) ∧ Below w.heap.size w w' := by
  have HB := Lib.hid (show Below w.heap.size w (w.alloc (.cells #[.string ⟨#[]⟩, .string ⟨#[]⟩, .bool false, .int .i64 0, .bool false, .int .i64 0, .bool false, .int .i64 0, .int .i64 0] 26)) from box_below w noSym)
  have HX := Lib.hid (show Sx (w.alloc (.cells #[.string ⟨#[]⟩, .string ⟨#[]⟩, .bool false, .int .i64 0, .bool false, .int .i64 0, .bool false, .int .i64 0, .int .i64 0] 26)) w.heap.size noSym from Sx.new w noSym)
  have HZ := Lib.hid (World.size_alloc w (.cells #[.string ⟨#[]⟩, .string ⟨#[]⟩, .bool false, .int .i64 0, .bool false, .int .i64 0, .bool false, .int .i64 0, .int .i64 0] 26))
  go_enter Try.func12, Try.ntmps12
  go_wp2_with fail
  generalize w.alloc (.cells #[.string ⟨#[]⟩, .string ⟨#[]⟩, .bool false, .int .i64 0, .bool false, .int .i64 0, .bool false, .int .i64 0, .int .i64 0] 26) = w1 at *
  go_loop [6] (fun i => ∃ k : Nat, k ≤ l.length ∧ i = .int .i64 k ∧ ∀ x ∈ l.take k, x ≠ 64) (fun i => l.length - (intOf i).toNat)
  case atStart => exact ⟨0, Nat.zero_le _, rfl, by simp⟩
  case round =>
    obtain ⟨k, hk, rfl, hno⟩ := hrel
    have HNO := Lib.hid hno
    clear hno
    by_cases hkl : k < l.length
    · by_cases hx : l[k] = 64
      · have hx' : ((({ data := l.toArray } : ByteArray)[k]'(by simpa [ByteArray.size] using hkl)).toNat : Int) = 64 := by
          show ((l[k]).toNat : Int) = 64
          rw [hx]; rfl
        have HS := Lib.hid (spl_hit hkl hx HNO.out)
        clear hx
        go_upto_region 5 with (fail)
        have e0 : Value.string (ByteArray.extract ⟨l.toArray⟩ 0 k) = str (l.take k) := by rw [str_ext, List.drop_zero, Nat.sub_zero]
        rw [e0]
        have HA := Lib.hid (show At2 w (w1.alloc (.cells #[str (l.take k), .string ⟨#[]⟩, .bool false, .int .i64 0, .bool false, .int .i64 0, .bool d, .int .i64 0, .int .i64 0] 26)) w1.heap.size ⟨l.take k, [], false, 0, false, 0, d, 0, 0⟩ from ⟨HB.out.alloc HB.out.size _, ⟨HX.out.bx.alloc _⟩, Sx.new w1 ⟨l.take k, [], false, 0, false, 0, d, 0, 0⟩, by rw [HZ.out]; omega⟩)
        generalize w1.alloc (.cells #[str (l.take k), .string ⟨#[]⟩, .bool false, .int .i64 0, .bool false, .int .i64 0, .bool d, .int .i64 0, .int .i64 0] 26) = w2 at *
        generalize w1.heap.size = g at *
        clear HX HB HZ
        have HLN := Lib.hid (show (l.take k).length ≤ 9223372036854775807 by simp; omega)
        have HLR := Lib.hid (show (l.drop (k + 1)).length ≤ 9223372036854775807 by simp; omega)
        have e1 : Value.string (ByteArray.extract ⟨l.toArray⟩ (k + 1) l.length) = str (l.drop (k + 1)) := by rw [str_ext, List.take_of_length_le (by simp)]
        generalize hn : l.take k = n at *
        generalize hr : l.drop (k + 1) = r at *
        obtain ⟨c0, c1, c2, k1, k2⟩ := HA.out.at_
        go_upto_region 8 with (fail)
        have HA3 := Lib.hid ((HA.out.ver r).old d)
        generalize (w2.setCell ⟨g, 1, none⟩ (str r)).setCell ⟨g, 2, none⟩ (.bool d) = w3 at *
        clear c0 c1 c2 k1 k2 HA e0 e1
        obtain ⟨r0, r1, r2, r3, r4, r5, r6, r7, r8⟩ := HA3.out.res.cells
        have f0 := HA3.out.res.frozen 0
        have f1 := HA3.out.res.frozen 1
        have f2 := HA3.out.res.frozen 2
        have f3 := HA3.out.res.frozen 3
        have f4 := HA3.out.res.frozen 4
        have f5 := HA3.out.res.frozen 5
        have f6 := HA3.out.res.frozen 6
        have f7 := HA3.out.res.frozen 7
        have f8 := HA3.out.res.frozen 8
        obtain ⟨c0, c1, c2, c3, c4, c5, c6, c7, c8⟩ := HA3.out.box.cells
        have g1 := HA3.out.box.frozen 1
        have g2 := HA3.out.box.frozen 2
        match r with
        | [] =>
          have HLV := HLR
          have HQ := Lib.hid (show parseS l d = if nameB n && nameB [] then some ⟨n, [], d, 0, false, 0, d, 0, 0⟩ else none by simp [parseS, HS.out])
          go_upto_region 13 with (fail)
          have HV := Lib.hid (rname_any [] w3 (by first | exact HLN.out | exact HLV.out))
          cases hv : nameB []
          · rw [hv] at HV
            have HQ := Lib.hid (show parseS l d = none by rw [HQ.out, hv]; simp)
            clear hv
            go_wp2_with fail
            refine HV.out.mono ?_
            rintro e wy ⟨rfl, h3⟩
            rw [← h3]
            clear h3 HV wy
            go_wp2_with fail
            have hx := HA3.out.res.set9 noSym
            have hb := below_set9 HA3.out.below (Nat.le_refl _) (.string ⟨#[]⟩) (.string ⟨#[]⟩) (.bool false) (.int .i64 0) (.bool false) (.int .i64 0) (.bool false) (.int .i64 0) (.int .i64 0)
            change Sx (((((((((w3.setCell ⟨w.heap.size, 0, none⟩ (.string ⟨#[]⟩)).setCell ⟨w.heap.size, 1, none⟩ (.string ⟨#[]⟩)).setCell ⟨w.heap.size, 2, none⟩ (.bool false)).setCell ⟨w.heap.size, 3, none⟩ (.int .i64 0)).setCell ⟨w.heap.size, 4, none⟩ (.bool false)).setCell ⟨w.heap.size, 5, none⟩ (.int .i64 0)).setCell ⟨w.heap.size, 6, none⟩ (.bool false)).setCell ⟨w.heap.size, 7, none⟩ (.int .i64 0)).setCell ⟨w.heap.size, 8, none⟩ (.int .i64 0)) _ _ at hx
            change Below _ _ (((((((((w3.setCell ⟨w.heap.size, 0, none⟩ (.string ⟨#[]⟩)).setCell ⟨w.heap.size, 1, none⟩ (.string ⟨#[]⟩)).setCell ⟨w.heap.size, 2, none⟩ (.bool false)).setCell ⟨w.heap.size, 3, none⟩ (.int .i64 0)).setCell ⟨w.heap.size, 4, none⟩ (.bool false)).setCell ⟨w.heap.size, 5, none⟩ (.int .i64 0)).setCell ⟨w.heap.size, 6, none⟩ (.bool false)).setCell ⟨w.heap.size, 7, none⟩ (.int .i64 0)).setCell ⟨w.heap.size, 8, none⟩ (.int .i64 0)) at hb
            generalize (((((((((w3.setCell ⟨w.heap.size, 0, none⟩ (.string ⟨#[]⟩)).setCell ⟨w.heap.size, 1, none⟩ (.string ⟨#[]⟩)).setCell ⟨w.heap.size, 2, none⟩ (.bool false)).setCell ⟨w.heap.size, 3, none⟩ (.int .i64 0)).setCell ⟨w.heap.size, 4, none⟩ (.bool false)).setCell ⟨w.heap.size, 5, none⟩ (.int .i64 0)).setCell ⟨w.heap.size, 6, none⟩ (.bool false)).setCell ⟨w.heap.size, 7, none⟩ (.int .i64 0)).setCell ⟨w.heap.size, 8, none⟩ (.int .i64 0)) = wz at *
            obtain ⟨q0, q1, q2, q3, q4, q5, q6, q7, q8⟩ := hx.cells
            refine bodyPost_ret (v := parseV none) (by simp [results, Try.results12, go_sem, parseV, q0, q1, q2, q3, q4, q5, q6, q7, q8]) rfl ⟨by rw [HQ.out], hb⟩
          · rw [hv] at HV
            have HS2 := Lib.hid (show parseS l d = if nameB n then some ⟨n, [], d, 0, false, 0, d, 0, 0⟩ else none by rw [HQ.out, hv]; simp)
            clear hv
            go_wp2_with fail
            refine HV.out.mono ?_
            rintro e wy ⟨rfl, h3⟩
            rw [← h3]
            clear h3 HV wy
            have HN := Lib.hid (rname_any n w3 (by first | exact HLN.out | exact HLV.out))
            cases hn : nameB n
            · rw [hn] at HN
              have HQ := Lib.hid (show parseS l d = none by rw [HS2.out, hn]; rfl)
              clear hn
              go_wp2_with fail
              refine HN.out.mono ?_
              rintro e wy ⟨rfl, h3⟩
              rw [← h3]
              clear h3 HN wy
              go_wp2_with fail
              have hx := HA3.out.res.set9 noSym
              have hb := below_set9 HA3.out.below (Nat.le_refl _) (.string ⟨#[]⟩) (.string ⟨#[]⟩) (.bool false) (.int .i64 0) (.bool false) (.int .i64 0) (.bool false) (.int .i64 0) (.int .i64 0)
              change Sx (((((((((w3.setCell ⟨w.heap.size, 0, none⟩ (.string ⟨#[]⟩)).setCell ⟨w.heap.size, 1, none⟩ (.string ⟨#[]⟩)).setCell ⟨w.heap.size, 2, none⟩ (.bool false)).setCell ⟨w.heap.size, 3, none⟩ (.int .i64 0)).setCell ⟨w.heap.size, 4, none⟩ (.bool false)).setCell ⟨w.heap.size, 5, none⟩ (.int .i64 0)).setCell ⟨w.heap.size, 6, none⟩ (.bool false)).setCell ⟨w.heap.size, 7, none⟩ (.int .i64 0)).setCell ⟨w.heap.size, 8, none⟩ (.int .i64 0)) _ _ at hx
              change Below _ _ (((((((((w3.setCell ⟨w.heap.size, 0, none⟩ (.string ⟨#[]⟩)).setCell ⟨w.heap.size, 1, none⟩ (.string ⟨#[]⟩)).setCell ⟨w.heap.size, 2, none⟩ (.bool false)).setCell ⟨w.heap.size, 3, none⟩ (.int .i64 0)).setCell ⟨w.heap.size, 4, none⟩ (.bool false)).setCell ⟨w.heap.size, 5, none⟩ (.int .i64 0)).setCell ⟨w.heap.size, 6, none⟩ (.bool false)).setCell ⟨w.heap.size, 7, none⟩ (.int .i64 0)).setCell ⟨w.heap.size, 8, none⟩ (.int .i64 0)) at hb
              generalize (((((((((w3.setCell ⟨w.heap.size, 0, none⟩ (.string ⟨#[]⟩)).setCell ⟨w.heap.size, 1, none⟩ (.string ⟨#[]⟩)).setCell ⟨w.heap.size, 2, none⟩ (.bool false)).setCell ⟨w.heap.size, 3, none⟩ (.int .i64 0)).setCell ⟨w.heap.size, 4, none⟩ (.bool false)).setCell ⟨w.heap.size, 5, none⟩ (.int .i64 0)).setCell ⟨w.heap.size, 6, none⟩ (.bool false)).setCell ⟨w.heap.size, 7, none⟩ (.int .i64 0)).setCell ⟨w.heap.size, 8, none⟩ (.int .i64 0)) = wz at *
              obtain ⟨q0, q1, q2, q3, q4, q5, q6, q7, q8⟩ := hx.cells
              refine bodyPost_ret (v := parseV none) (by simp [results, Try.results12, go_sem, parseV, q0, q1, q2, q3, q4, q5, q6, q7, q8]) rfl ⟨by rw [HQ.out], hb⟩
            · rw [hn] at HN
              have HQ := Lib.hid (show parseS l d = some ⟨n, [], d, 0, false, 0, d, 0, 0⟩ by rw [HS2.out, hn]; rfl)
              clear hn
              go_wp2_with fail
              refine HN.out.mono ?_
              rintro e wy ⟨rfl, h3⟩
              rw [← h3]
              clear h3 HN wy
              go_wp2_with fail
              have hx := HA3.out.res.set9 ⟨n, [], d, 0, false, 0, d, 0, 0⟩
              have hb := below_set9 HA3.out.below (Nat.le_refl _) (str n) (str []) (.bool d) (.int .i64 0) (.bool false) (.int .i64 0) (.bool d) (.int .i64 0) (.int .i64 0)
              change Sx (((((((((w3.setCell ⟨w.heap.size, 0, none⟩ (str n)).setCell ⟨w.heap.size, 1, none⟩ (str [])).setCell ⟨w.heap.size, 2, none⟩ (.bool d)).setCell ⟨w.heap.size, 3, none⟩ (.int .i64 0)).setCell ⟨w.heap.size, 4, none⟩ (.bool false)).setCell ⟨w.heap.size, 5, none⟩ (.int .i64 0)).setCell ⟨w.heap.size, 6, none⟩ (.bool d)).setCell ⟨w.heap.size, 7, none⟩ (.int .i64 0)).setCell ⟨w.heap.size, 8, none⟩ (.int .i64 0)) _ _ at hx
              change Below _ _ (((((((((w3.setCell ⟨w.heap.size, 0, none⟩ (str n)).setCell ⟨w.heap.size, 1, none⟩ (str [])).setCell ⟨w.heap.size, 2, none⟩ (.bool d)).setCell ⟨w.heap.size, 3, none⟩ (.int .i64 0)).setCell ⟨w.heap.size, 4, none⟩ (.bool false)).setCell ⟨w.heap.size, 5, none⟩ (.int .i64 0)).setCell ⟨w.heap.size, 6, none⟩ (.bool d)).setCell ⟨w.heap.size, 7, none⟩ (.int .i64 0)).setCell ⟨w.heap.size, 8, none⟩ (.int .i64 0)) at hb
              generalize (((((((((w3.setCell ⟨w.heap.size, 0, none⟩ (str n)).setCell ⟨w.heap.size, 1, none⟩ (str [])).setCell ⟨w.heap.size, 2, none⟩ (.bool d)).setCell ⟨w.heap.size, 3, none⟩ (.int .i64 0)).setCell ⟨w.heap.size, 4, none⟩ (.bool false)).setCell ⟨w.heap.size, 5, none⟩ (.int .i64 0)).setCell ⟨w.heap.size, 6, none⟩ (.bool d)).setCell ⟨w.heap.size, 7, none⟩ (.int .i64 0)).setCell ⟨w.heap.size, 8, none⟩ (.int .i64 0)) = wz at *
              obtain ⟨q0, q1, q2, q3, q4, q5, q6, q7, q8⟩ := hx.cells
              refine bodyPost_ret (v := parseV (some ⟨n, [], d, 0, false, 0, d, 0, 0⟩)) (by simp [results, Try.results12, go_sem, parseV, q0, q1, q2, q3, q4, q5, q6, q7, q8]) rfl ⟨by rw [HQ.out], hb⟩
        | x :: v =>
          have HLV := Lib.hid (show v.length ≤ 9223372036854775807 by have := HLR.out; simp at this; omega)
          have e2 : Value.string (ByteArray.extract ⟨(x :: v).toArray⟩ 1 (v.length + 1)) = str v := by rw [str_ext, List.drop_one, List.tail_cons, List.take_of_length_le (by simp)]
          by_cases hx64 : x = 64
          · subst hx64
            go_upto_region 11 with (fail)
            have HA4 := Lib.hid ((HA3.out.ver v).old false)
            generalize (w3.setCell ⟨g, 1, none⟩ (str v)).setCell ⟨g, 2, none⟩ (.bool false) = w4 at *
            clear r0 r1 r2 r3 r4 r5 r6 r7 r8 f0 f1 f2 f3 f4 f5 f6 f7 f8 c0 c1 c2 c3 c4 c5 c6 c7 c8 g1 g2 HA3 e2
            obtain ⟨r0, r1, r2, r3, r4, r5, r6, r7, r8⟩ := HA4.out.res.cells
            have f0 := HA4.out.res.frozen 0
            have f1 := HA4.out.res.frozen 1
            have f2 := HA4.out.res.frozen 2
            have f3 := HA4.out.res.frozen 3
            have f4 := HA4.out.res.frozen 4
            have f5 := HA4.out.res.frozen 5
            have f6 := HA4.out.res.frozen 6
            have f7 := HA4.out.res.frozen 7
            have f8 := HA4.out.res.frozen 8
            obtain ⟨c0, c1, c2, c3, c4, c5, c6, c7, c8⟩ := HA4.out.box.cells
            have g1 := HA4.out.box.frozen 1
            have g2 := HA4.out.box.frozen 2
            cases d
            · have HQ := Lib.hid (show parseS l false = none by simp [parseS, HS.out])
              go_wp2_with fail
              have hx := HA4.out.res.set9 noSym
              have hb := below_set9 HA4.out.below (Nat.le_refl _) (.string ⟨#[]⟩) (.string ⟨#[]⟩) (.bool false) (.int .i64 0) (.bool false) (.int .i64 0) (.bool false) (.int .i64 0) (.int .i64 0)
              change Sx (((((((((w4.setCell ⟨w.heap.size, 0, none⟩ (.string ⟨#[]⟩)).setCell ⟨w.heap.size, 1, none⟩ (.string ⟨#[]⟩)).setCell ⟨w.heap.size, 2, none⟩ (.bool false)).setCell ⟨w.heap.size, 3, none⟩ (.int .i64 0)).setCell ⟨w.heap.size, 4, none⟩ (.bool false)).setCell ⟨w.heap.size, 5, none⟩ (.int .i64 0)).setCell ⟨w.heap.size, 6, none⟩ (.bool false)).setCell ⟨w.heap.size, 7, none⟩ (.int .i64 0)).setCell ⟨w.heap.size, 8, none⟩ (.int .i64 0)) _ _ at hx
              change Below _ _ (((((((((w4.setCell ⟨w.heap.size, 0, none⟩ (.string ⟨#[]⟩)).setCell ⟨w.heap.size, 1, none⟩ (.string ⟨#[]⟩)).setCell ⟨w.heap.size, 2, none⟩ (.bool false)).setCell ⟨w.heap.size, 3, none⟩ (.int .i64 0)).setCell ⟨w.heap.size, 4, none⟩ (.bool false)).setCell ⟨w.heap.size, 5, none⟩ (.int .i64 0)).setCell ⟨w.heap.size, 6, none⟩ (.bool false)).setCell ⟨w.heap.size, 7, none⟩ (.int .i64 0)).setCell ⟨w.heap.size, 8, none⟩ (.int .i64 0)) at hb
              generalize (((((((((w4.setCell ⟨w.heap.size, 0, none⟩ (.string ⟨#[]⟩)).setCell ⟨w.heap.size, 1, none⟩ (.string ⟨#[]⟩)).setCell ⟨w.heap.size, 2, none⟩ (.bool false)).setCell ⟨w.heap.size, 3, none⟩ (.int .i64 0)).setCell ⟨w.heap.size, 4, none⟩ (.bool false)).setCell ⟨w.heap.size, 5, none⟩ (.int .i64 0)).setCell ⟨w.heap.size, 6, none⟩ (.bool false)).setCell ⟨w.heap.size, 7, none⟩ (.int .i64 0)).setCell ⟨w.heap.size, 8, none⟩ (.int .i64 0)) = wz at *
              obtain ⟨q0, q1, q2, q3, q4, q5, q6, q7, q8⟩ := hx.cells
              refine bodyPost_ret (v := parseV none) (by simp [results, Try.results12, go_sem, parseV, q0, q1, q2, q3, q4, q5, q6, q7, q8]) rfl ⟨by rw [HQ.out], hb⟩
            · have HQ := Lib.hid (show parseS l true = if nameB n && nameB v then some ⟨n, v, false, 0, false, 0, true, 0, 0⟩ else none by simp [parseS, HS.out])
              have HV := Lib.hid (rname_any v w4 (by first | exact HLN.out | exact HLV.out))
              cases hv : nameB v
              · rw [hv] at HV
                have HQ := Lib.hid (show parseS l true = none by rw [HQ.out, hv]; simp)
                clear hv
                go_wp2_with fail
                refine HV.out.mono ?_
                rintro e wy ⟨rfl, h3⟩
                rw [← h3]
                clear h3 HV wy
                go_wp2_with fail
                have hx := HA4.out.res.set9 noSym
                have hb := below_set9 HA4.out.below (Nat.le_refl _) (.string ⟨#[]⟩) (.string ⟨#[]⟩) (.bool false) (.int .i64 0) (.bool false) (.int .i64 0) (.bool false) (.int .i64 0) (.int .i64 0)
                change Sx (((((((((w4.setCell ⟨w.heap.size, 0, none⟩ (.string ⟨#[]⟩)).setCell ⟨w.heap.size, 1, none⟩ (.string ⟨#[]⟩)).setCell ⟨w.heap.size, 2, none⟩ (.bool false)).setCell ⟨w.heap.size, 3, none⟩ (.int .i64 0)).setCell ⟨w.heap.size, 4, none⟩ (.bool false)).setCell ⟨w.heap.size, 5, none⟩ (.int .i64 0)).setCell ⟨w.heap.size, 6, none⟩ (.bool false)).setCell ⟨w.heap.size, 7, none⟩ (.int .i64 0)).setCell ⟨w.heap.size, 8, none⟩ (.int .i64 0)) _ _ at hx
                change Below _ _ (((((((((w4.setCell ⟨w.heap.size, 0, none⟩ (.string ⟨#[]⟩)).setCell ⟨w.heap.size, 1, none⟩ (.string ⟨#[]⟩)).setCell ⟨w.heap.size, 2, none⟩ (.bool false)).setCell ⟨w.heap.size, 3, none⟩ (.int .i64 0)).setCell ⟨w.heap.size, 4, none⟩ (.bool false)).setCell ⟨w.heap.size, 5, none⟩ (.int .i64 0)).setCell ⟨w.heap.size, 6, none⟩ (.bool false)).setCell ⟨w.heap.size, 7, none⟩ (.int .i64 0)).setCell ⟨w.heap.size, 8, none⟩ (.int .i64 0)) at hb
                generalize (((((((((w4.setCell ⟨w.heap.size, 0, none⟩ (.string ⟨#[]⟩)).setCell ⟨w.heap.size, 1, none⟩ (.string ⟨#[]⟩)).setCell ⟨w.heap.size, 2, none⟩ (.bool false)).setCell ⟨w.heap.size, 3, none⟩ (.int .i64 0)).setCell ⟨w.heap.size, 4, none⟩ (.bool false)).setCell ⟨w.heap.size, 5, none⟩ (.int .i64 0)).setCell ⟨w.heap.size, 6, none⟩ (.bool false)).setCell ⟨w.heap.size, 7, none⟩ (.int .i64 0)).setCell ⟨w.heap.size, 8, none⟩ (.int .i64 0)) = wz at *
                obtain ⟨q0, q1, q2, q3, q4, q5, q6, q7, q8⟩ := hx.cells
                refine bodyPost_ret (v := parseV none) (by simp [results, Try.results12, go_sem, parseV, q0, q1, q2, q3, q4, q5, q6, q7, q8]) rfl ⟨by rw [HQ.out], hb⟩
              · rw [hv] at HV
                have HS2 := Lib.hid (show parseS l true = if nameB n then some ⟨n, v, false, 0, false, 0, true, 0, 0⟩ else none by rw [HQ.out, hv]; simp)
                clear hv
                go_wp2_with fail
                refine HV.out.mono ?_
                rintro e wy ⟨rfl, h3⟩
                rw [← h3]
                clear h3 HV wy
                have HN := Lib.hid (rname_any n w4 (by first | exact HLN.out | exact HLV.out))
                cases hn : nameB n
                · rw [hn] at HN
                  have HQ := Lib.hid (show parseS l true = none by rw [HS2.out, hn]; rfl)
                  clear hn
                  go_wp2_with fail
                  refine HN.out.mono ?_
                  rintro e wy ⟨rfl, h3⟩
                  rw [← h3]
                  clear h3 HN wy
                  go_wp2_with fail
                  have hx := HA4.out.res.set9 noSym
                  have hb := below_set9 HA4.out.below (Nat.le_refl _) (.string ⟨#[]⟩) (.string ⟨#[]⟩) (.bool false) (.int .i64 0) (.bool false) (.int .i64 0) (.bool false) (.int .i64 0) (.int .i64 0)
                  change Sx (((((((((w4.setCell ⟨w.heap.size, 0, none⟩ (.string ⟨#[]⟩)).setCell ⟨w.heap.size, 1, none⟩ (.string ⟨#[]⟩)).setCell ⟨w.heap.size, 2, none⟩ (.bool false)).setCell ⟨w.heap.size, 3, none⟩ (.int .i64 0)).setCell ⟨w.heap.size, 4, none⟩ (.bool false)).setCell ⟨w.heap.size, 5, none⟩ (.int .i64 0)).setCell ⟨w.heap.size, 6, none⟩ (.bool false)).setCell ⟨w.heap.size, 7, none⟩ (.int .i64 0)).setCell ⟨w.heap.size, 8, none⟩ (.int .i64 0)) _ _ at hx
                  change Below _ _ (((((((((w4.setCell ⟨w.heap.size, 0, none⟩ (.string ⟨#[]⟩)).setCell ⟨w.heap.size, 1, none⟩ (.string ⟨#[]⟩)).setCell ⟨w.heap.size, 2, none⟩ (.bool false)).setCell ⟨w.heap.size, 3, none⟩ (.int .i64 0)).setCell ⟨w.heap.size, 4, none⟩ (.bool false)).setCell ⟨w.heap.size, 5, none⟩ (.int .i64 0)).setCell ⟨w.heap.size, 6, none⟩ (.bool false)).setCell ⟨w.heap.size, 7, none⟩ (.int .i64 0)).setCell ⟨w.heap.size, 8, none⟩ (.int .i64 0)) at hb
                  generalize (((((((((w4.setCell ⟨w.heap.size, 0, none⟩ (.string ⟨#[]⟩)).setCell ⟨w.heap.size, 1, none⟩ (.string ⟨#[]⟩)).setCell ⟨w.heap.size, 2, none⟩ (.bool false)).setCell ⟨w.heap.size, 3, none⟩ (.int .i64 0)).setCell ⟨w.heap.size, 4, none⟩ (.bool false)).setCell ⟨w.heap.size, 5, none⟩ (.int .i64 0)).setCell ⟨w.heap.size, 6, none⟩ (.bool false)).setCell ⟨w.heap.size, 7, none⟩ (.int .i64 0)).setCell ⟨w.heap.size, 8, none⟩ (.int .i64 0)) = wz at *
                  obtain ⟨q0, q1, q2, q3, q4, q5, q6, q7, q8⟩ := hx.cells
                  refine bodyPost_ret (v := parseV none) (by simp [results, Try.results12, go_sem, parseV, q0, q1, q2, q3, q4, q5, q6, q7, q8]) rfl ⟨by rw [HQ.out], hb⟩
                · rw [hn] at HN
                  have HQ := Lib.hid (show parseS l true = some ⟨n, v, false, 0, false, 0, true, 0, 0⟩ by rw [HS2.out, hn]; rfl)
                  clear hn
                  go_wp2_with fail
                  refine HN.out.mono ?_
                  rintro e wy ⟨rfl, h3⟩
                  rw [← h3]
                  clear h3 HN wy
                  go_wp2_with fail
                  have hx := HA4.out.res.set9 ⟨n, v, false, 0, false, 0, true, 0, 0⟩
                  have hb := below_set9 HA4.out.below (Nat.le_refl _) (str n) (str v) (.bool false) (.int .i64 0) (.bool false) (.int .i64 0) (.bool true) (.int .i64 0) (.int .i64 0)
                  change Sx (((((((((w4.setCell ⟨w.heap.size, 0, none⟩ (str n)).setCell ⟨w.heap.size, 1, none⟩ (str v)).setCell ⟨w.heap.size, 2, none⟩ (.bool false)).setCell ⟨w.heap.size, 3, none⟩ (.int .i64 0)).setCell ⟨w.heap.size, 4, none⟩ (.bool false)).setCell ⟨w.heap.size, 5, none⟩ (.int .i64 0)).setCell ⟨w.heap.size, 6, none⟩ (.bool true)).setCell ⟨w.heap.size, 7, none⟩ (.int .i64 0)).setCell ⟨w.heap.size, 8, none⟩ (.int .i64 0)) _ _ at hx
                  change Below _ _ (((((((((w4.setCell ⟨w.heap.size, 0, none⟩ (str n)).setCell ⟨w.heap.size, 1, none⟩ (str v)).setCell ⟨w.heap.size, 2, none⟩ (.bool false)).setCell ⟨w.heap.size, 3, none⟩ (.int .i64 0)).setCell ⟨w.heap.size, 4, none⟩ (.bool false)).setCell ⟨w.heap.size, 5, none⟩ (.int .i64 0)).setCell ⟨w.heap.size, 6, none⟩ (.bool true)).setCell ⟨w.heap.size, 7, none⟩ (.int .i64 0)).setCell ⟨w.heap.size, 8, none⟩ (.int .i64 0)) at hb
                  generalize (((((((((w4.setCell ⟨w.heap.size, 0, none⟩ (str n)).setCell ⟨w.heap.size, 1, none⟩ (str v)).setCell ⟨w.heap.size, 2, none⟩ (.bool false)).setCell ⟨w.heap.size, 3, none⟩ (.int .i64 0)).setCell ⟨w.heap.size, 4, none⟩ (.bool false)).setCell ⟨w.heap.size, 5, none⟩ (.int .i64 0)).setCell ⟨w.heap.size, 6, none⟩ (.bool true)).setCell ⟨w.heap.size, 7, none⟩ (.int .i64 0)).setCell ⟨w.heap.size, 8, none⟩ (.int .i64 0)) = wz at *
                  obtain ⟨q0, q1, q2, q3, q4, q5, q6, q7, q8⟩ := hx.cells
                  refine bodyPost_ret (v := parseV (some ⟨n, v, false, 0, false, 0, true, 0, 0⟩)) (by simp [results, Try.results12, go_sem, parseV, q0, q1, q2, q3, q4, q5, q6, q7, q8]) rfl ⟨by rw [HQ.out], hb⟩
          · have HQ := Lib.hid (show parseS l d = if nameB n && nameB (x :: v) then some ⟨n, x :: v, d, 0, false, 0, d, 0, 0⟩ else none by
              unfold parseS
              rw [HS.out]
              split
              · rename_i h; cases h
              · rename_i h; injection h with h; injection h with h; exact absurd h hx64
              · rename_i h1 h; cases h; rfl)
            have HLV := HLR
            have hx' : ¬ ((({ data := (x :: v).toArray } : ByteArray)[0]'(by simp [ByteArray.size])).toNat : Int) = 64 := by
              show ¬ ((x.toNat : Int) = 64)
              intro e
              exact hx64 (UInt8.toNat_inj.1 (by have : (64 : UInt8).toNat = 64 := rfl; omega))
            go_upto_region 13 with (fail)
            have HV := Lib.hid (rname_any (x :: v) w3 (by first | exact HLN.out | exact HLV.out))
            cases hv : nameB (x :: v)
            · rw [hv] at HV
              have HQ := Lib.hid (show parseS l d = none by rw [HQ.out, hv]; simp)
              clear hv
              go_wp2_with fail
              refine HV.out.mono ?_
              rintro e wy ⟨rfl, h3⟩
              rw [← h3]
              clear h3 HV wy
              go_wp2_with fail
              have hx := HA3.out.res.set9 noSym
              have hb := below_set9 HA3.out.below (Nat.le_refl _) (.string ⟨#[]⟩) (.string ⟨#[]⟩) (.bool false) (.int .i64 0) (.bool false) (.int .i64 0) (.bool false) (.int .i64 0) (.int .i64 0)
              change Sx (((((((((w3.setCell ⟨w.heap.size, 0, none⟩ (.string ⟨#[]⟩)).setCell ⟨w.heap.size, 1, none⟩ (.string ⟨#[]⟩)).setCell ⟨w.heap.size, 2, none⟩ (.bool false)).setCell ⟨w.heap.size, 3, none⟩ (.int .i64 0)).setCell ⟨w.heap.size, 4, none⟩ (.bool false)).setCell ⟨w.heap.size, 5, none⟩ (.int .i64 0)).setCell ⟨w.heap.size, 6, none⟩ (.bool false)).setCell ⟨w.heap.size, 7, none⟩ (.int .i64 0)).setCell ⟨w.heap.size, 8, none⟩ (.int .i64 0)) _ _ at hx
              change Below _ _ (((((((((w3.setCell ⟨w.heap.size, 0, none⟩ (.string ⟨#[]⟩)).setCell ⟨w.heap.size, 1, none⟩ (.string ⟨#[]⟩)).setCell ⟨w.heap.size, 2, none⟩ (.bool false)).setCell ⟨w.heap.size, 3, none⟩ (.int .i64 0)).setCell ⟨w.heap.size, 4, none⟩ (.bool false)).setCell ⟨w.heap.size, 5, none⟩ (.int .i64 0)).setCell ⟨w.heap.size, 6, none⟩ (.bool false)).setCell ⟨w.heap.size, 7, none⟩ (.int .i64 0)).setCell ⟨w.heap.size, 8, none⟩ (.int .i64 0)) at hb
              generalize (((((((((w3.setCell ⟨w.heap.size, 0, none⟩ (.string ⟨#[]⟩)).setCell ⟨w.heap.size, 1, none⟩ (.string ⟨#[]⟩)).setCell ⟨w.heap.size, 2, none⟩ (.bool false)).setCell ⟨w.heap.size, 3, none⟩ (.int .i64 0)).setCell ⟨w.heap.size, 4, none⟩ (.bool false)).setCell ⟨w.heap.size, 5, none⟩ (.int .i64 0)).setCell ⟨w.heap.size, 6, none⟩ (.bool false)).setCell ⟨w.heap.size, 7, none⟩ (.int .i64 0)).setCell ⟨w.heap.size, 8, none⟩ (.int .i64 0)) = wz at *
              obtain ⟨q0, q1, q2, q3, q4, q5, q6, q7, q8⟩ := hx.cells
              refine bodyPost_ret (v := parseV none) (by simp [results, Try.results12, go_sem, parseV, q0, q1, q2, q3, q4, q5, q6, q7, q8]) rfl ⟨by rw [HQ.out], hb⟩
            · rw [hv] at HV
              have HS2 := Lib.hid (show parseS l d = if nameB n then some ⟨n, (x :: v), d, 0, false, 0, d, 0, 0⟩ else none by rw [HQ.out, hv]; simp)
              clear hv
              go_wp2_with fail
              refine HV.out.mono ?_
              rintro e wy ⟨rfl, h3⟩
              rw [← h3]
              clear h3 HV wy
              have HN := Lib.hid (rname_any n w3 (by first | exact HLN.out | exact HLV.out))
              cases hn : nameB n
              · rw [hn] at HN
                have HQ := Lib.hid (show parseS l d = none by rw [HS2.out, hn]; rfl)
                clear hn
                go_wp2_with fail
                refine HN.out.mono ?_
                rintro e wy ⟨rfl, h3⟩
                rw [← h3]
                clear h3 HN wy
                go_wp2_with fail
                have hx := HA3.out.res.set9 noSym
                have hb := below_set9 HA3.out.below (Nat.le_refl _) (.string ⟨#[]⟩) (.string ⟨#[]⟩) (.bool false) (.int .i64 0) (.bool false) (.int .i64 0) (.bool false) (.int .i64 0) (.int .i64 0)
                change Sx (((((((((w3.setCell ⟨w.heap.size, 0, none⟩ (.string ⟨#[]⟩)).setCell ⟨w.heap.size, 1, none⟩ (.string ⟨#[]⟩)).setCell ⟨w.heap.size, 2, none⟩ (.bool false)).setCell ⟨w.heap.size, 3, none⟩ (.int .i64 0)).setCell ⟨w.heap.size, 4, none⟩ (.bool false)).setCell ⟨w.heap.size, 5, none⟩ (.int .i64 0)).setCell ⟨w.heap.size, 6, none⟩ (.bool false)).setCell ⟨w.heap.size, 7, none⟩ (.int .i64 0)).setCell ⟨w.heap.size, 8, none⟩ (.int .i64 0)) _ _ at hx
                change Below _ _ (((((((((w3.setCell ⟨w.heap.size, 0, none⟩ (.string ⟨#[]⟩)).setCell ⟨w.heap.size, 1, none⟩ (.string ⟨#[]⟩)).setCell ⟨w.heap.size, 2, none⟩ (.bool false)).setCell ⟨w.heap.size, 3, none⟩ (.int .i64 0)).setCell ⟨w.heap.size, 4, none⟩ (.bool false)).setCell ⟨w.heap.size, 5, none⟩ (.int .i64 0)).setCell ⟨w.heap.size, 6, none⟩ (.bool false)).setCell ⟨w.heap.size, 7, none⟩ (.int .i64 0)).setCell ⟨w.heap.size, 8, none⟩ (.int .i64 0)) at hb
                generalize (((((((((w3.setCell ⟨w.heap.size, 0, none⟩ (.string ⟨#[]⟩)).setCell ⟨w.heap.size, 1, none⟩ (.string ⟨#[]⟩)).setCell ⟨w.heap.size, 2, none⟩ (.bool false)).setCell ⟨w.heap.size, 3, none⟩ (.int .i64 0)).setCell ⟨w.heap.size, 4, none⟩ (.bool false)).setCell ⟨w.heap.size, 5, none⟩ (.int .i64 0)).setCell ⟨w.heap.size, 6, none⟩ (.bool false)).setCell ⟨w.heap.size, 7, none⟩ (.int .i64 0)).setCell ⟨w.heap.size, 8, none⟩ (.int .i64 0)) = wz at *
                obtain ⟨q0, q1, q2, q3, q4, q5, q6, q7, q8⟩ := hx.cells
                refine bodyPost_ret (v := parseV none) (by simp [results, Try.results12, go_sem, parseV, q0, q1, q2, q3, q4, q5, q6, q7, q8]) rfl ⟨by rw [HQ.out], hb⟩
              · rw [hn] at HN
                have HQ := Lib.hid (show parseS l d = some ⟨n, (x :: v), d, 0, false, 0, d, 0, 0⟩ by rw [HS2.out, hn]; rfl)
                clear hn
                go_wp2_with fail
                refine HN.out.mono ?_
                rintro e wy ⟨rfl, h3⟩
                rw [← h3]
                clear h3 HN wy
                go_wp2_with fail
                have hx := HA3.out.res.set9 ⟨n, (x :: v), d, 0, false, 0, d, 0, 0⟩
                have hb := below_set9 HA3.out.below (Nat.le_refl _) (str n) (str (x :: v)) (.bool d) (.int .i64 0) (.bool false) (.int .i64 0) (.bool d) (.int .i64 0) (.int .i64 0)
                change Sx (((((((((w3.setCell ⟨w.heap.size, 0, none⟩ (str n)).setCell ⟨w.heap.size, 1, none⟩ (str (x :: v))).setCell ⟨w.heap.size, 2, none⟩ (.bool d)).setCell ⟨w.heap.size, 3, none⟩ (.int .i64 0)).setCell ⟨w.heap.size, 4, none⟩ (.bool false)).setCell ⟨w.heap.size, 5, none⟩ (.int .i64 0)).setCell ⟨w.heap.size, 6, none⟩ (.bool d)).setCell ⟨w.heap.size, 7, none⟩ (.int .i64 0)).setCell ⟨w.heap.size, 8, none⟩ (.int .i64 0)) _ _ at hx
                change Below _ _ (((((((((w3.setCell ⟨w.heap.size, 0, none⟩ (str n)).setCell ⟨w.heap.size, 1, none⟩ (str (x :: v))).setCell ⟨w.heap.size, 2, none⟩ (.bool d)).setCell ⟨w.heap.size, 3, none⟩ (.int .i64 0)).setCell ⟨w.heap.size, 4, none⟩ (.bool false)).setCell ⟨w.heap.size, 5, none⟩ (.int .i64 0)).setCell ⟨w.heap.size, 6, none⟩ (.bool d)).setCell ⟨w.heap.size, 7, none⟩ (.int .i64 0)).setCell ⟨w.heap.size, 8, none⟩ (.int .i64 0)) at hb
                generalize (((((((((w3.setCell ⟨w.heap.size, 0, none⟩ (str n)).setCell ⟨w.heap.size, 1, none⟩ (str (x :: v))).setCell ⟨w.heap.size, 2, none⟩ (.bool d)).setCell ⟨w.heap.size, 3, none⟩ (.int .i64 0)).setCell ⟨w.heap.size, 4, none⟩ (.bool false)).setCell ⟨w.heap.size, 5, none⟩ (.int .i64 0)).setCell ⟨w.heap.size, 6, none⟩ (.bool d)).setCell ⟨w.heap.size, 7, none⟩ (.int .i64 0)).setCell ⟨w.heap.size, 8, none⟩ (.int .i64 0)) = wz at *
                obtain ⟨q0, q1, q2, q3, q4, q5, q6, q7, q8⟩ := hx.cells
                refine bodyPost_ret (v := parseV (some ⟨n, (x :: v), d, 0, false, 0, d, 0, 0⟩)) (by simp [results, Try.results12, go_sem, parseV, q0, q1, q2, q3, q4, q5, q6, q7, q8]) rfl ⟨by rw [HQ.out], hb⟩
      · have hx' : ¬ ((({ data := l.toArray } : ByteArray)[k]'(by simpa [ByteArray.size] using hkl)).toNat : Int) = 64 := by
          show ¬ ((l[k]).toNat : Int) = 64
          intro e
          exact hx (UInt8.toNat_inj.1 (by have : (64 : UInt8).toNat = 64 := rfl; omega))
        have HT := Lib.hid (take_no hkl HNO.out hx)
        clear hx
        go_wp2_with fail
        go_round
        case rel => exact ⟨k + 1, by omega, by go_num, HT.out⟩
        case measure => simp [intOf]; omega
    · have hk' : k = l.length := by omega
      have HS := Lib.hid (spl_miss (l := l) (by have := HNO.out; rw [hk', List.take_length] at this; exact this))
      go_upto_region 5 with (fail)
      have e0 : Value.string (ByteArray.extract ⟨l.toArray⟩ 0 l.length) = str l := by rw [str_ext, List.drop_zero, Nat.sub_zero, List.take_length]
      rw [e0]
      have HA := Lib.hid (show At2 w (w1.alloc (.cells #[str l, .string ⟨#[]⟩, .bool false, .int .i64 0, .bool false, .int .i64 0, .bool d, .int .i64 0, .int .i64 0] 26)) w1.heap.size ⟨l, [], false, 0, false, 0, d, 0, 0⟩ from ⟨HB.out.alloc HB.out.size _, ⟨HX.out.bx.alloc _⟩, Sx.new w1 ⟨l, [], false, 0, false, 0, d, 0, 0⟩, by rw [HZ.out]; omega⟩)
      generalize w1.alloc (.cells #[str l, .string ⟨#[]⟩, .bool false, .int .i64 0, .bool false, .int .i64 0, .bool d, .int .i64 0, .int .i64 0] 26) = w2 at *
      generalize w1.heap.size = g at *
      clear HX HB HZ
      have HLN := Lib.hid (show l.length ≤ 9223372036854775807 by omega)
      have HQ := Lib.hid (show parseS l d = if nameB l then some ⟨l, [], false, 0, false, 0, d, 0, 0⟩ else none by simp [parseS, HS.out])
      obtain ⟨r0, r1, r2, r3, r4, r5, r6, r7, r8⟩ := HA.out.res.cells
      have f0 := HA.out.res.frozen 0
      have f1 := HA.out.res.frozen 1
      have f2 := HA.out.res.frozen 2
      have f3 := HA.out.res.frozen 3
      have f4 := HA.out.res.frozen 4
      have f5 := HA.out.res.frozen 5
      have f6 := HA.out.res.frozen 6
      have f7 := HA.out.res.frozen 7
      have f8 := HA.out.res.frozen 8
      obtain ⟨c0, c1, c2, c3, c4, c5, c6, c7, c8⟩ := HA.out.box.cells
      have g1 := HA.out.box.frozen 1
      have g2 := HA.out.box.frozen 2
      go_upto_region 15 with (fail)
      have HN := Lib.hid (rname_any l w2 (by first | exact HLN.out | exact HLV.out))
      cases hn : nameB l
      · rw [hn] at HN
        have HQ := Lib.hid (show parseS l d = none by rw [HQ.out, hn]; rfl)
        clear hn
        go_wp2_with fail
        refine HN.out.mono ?_
        rintro e wy ⟨rfl, h3⟩
        rw [← h3]
        clear h3 HN wy
        go_wp2_with fail
        have hx := HA.out.res.set9 noSym
        have hb := below_set9 HA.out.below (Nat.le_refl _) (.string ⟨#[]⟩) (.string ⟨#[]⟩) (.bool false) (.int .i64 0) (.bool false) (.int .i64 0) (.bool false) (.int .i64 0) (.int .i64 0)
        change Sx (((((((((w2.setCell ⟨w.heap.size, 0, none⟩ (.string ⟨#[]⟩)).setCell ⟨w.heap.size, 1, none⟩ (.string ⟨#[]⟩)).setCell ⟨w.heap.size, 2, none⟩ (.bool false)).setCell ⟨w.heap.size, 3, none⟩ (.int .i64 0)).setCell ⟨w.heap.size, 4, none⟩ (.bool false)).setCell ⟨w.heap.size, 5, none⟩ (.int .i64 0)).setCell ⟨w.heap.size, 6, none⟩ (.bool false)).setCell ⟨w.heap.size, 7, none⟩ (.int .i64 0)).setCell ⟨w.heap.size, 8, none⟩ (.int .i64 0)) _ _ at hx
        change Below _ _ (((((((((w2.setCell ⟨w.heap.size, 0, none⟩ (.string ⟨#[]⟩)).setCell ⟨w.heap.size, 1, none⟩ (.string ⟨#[]⟩)).setCell ⟨w.heap.size, 2, none⟩ (.bool false)).setCell ⟨w.heap.size, 3, none⟩ (.int .i64 0)).setCell ⟨w.heap.size, 4, none⟩ (.bool false)).setCell ⟨w.heap.size, 5, none⟩ (.int .i64 0)).setCell ⟨w.heap.size, 6, none⟩ (.bool false)).setCell ⟨w.heap.size, 7, none⟩ (.int .i64 0)).setCell ⟨w.heap.size, 8, none⟩ (.int .i64 0)) at hb
        generalize (((((((((w2.setCell ⟨w.heap.size, 0, none⟩ (.string ⟨#[]⟩)).setCell ⟨w.heap.size, 1, none⟩ (.string ⟨#[]⟩)).setCell ⟨w.heap.size, 2, none⟩ (.bool false)).setCell ⟨w.heap.size, 3, none⟩ (.int .i64 0)).setCell ⟨w.heap.size, 4, none⟩ (.bool false)).setCell ⟨w.heap.size, 5, none⟩ (.int .i64 0)).setCell ⟨w.heap.size, 6, none⟩ (.bool false)).setCell ⟨w.heap.size, 7, none⟩ (.int .i64 0)).setCell ⟨w.heap.size, 8, none⟩ (.int .i64 0)) = wz at *
        obtain ⟨q0, q1, q2, q3, q4, q5, q6, q7, q8⟩ := hx.cells
        refine bodyPost_ret (v := parseV none) (by simp [results, Try.results12, go_sem, parseV, q0, q1, q2, q3, q4, q5, q6, q7, q8]) rfl ⟨by rw [HQ.out], hb⟩
      · rw [hn] at HN
        have HQ := Lib.hid (show parseS l d = some ⟨l, [], false, 0, false, 0, d, 0, 0⟩ by rw [HQ.out, hn]; rfl)
        clear hn
        go_wp2_with fail
        refine HN.out.mono ?_
        rintro e wy ⟨rfl, h3⟩
        rw [← h3]
        clear h3 HN wy
        go_wp2_with fail
        have hx := HA.out.res.set9 ⟨l, [], false, 0, false, 0, d, 0, 0⟩
        have hb := below_set9 HA.out.below (Nat.le_refl _) (str l) (str []) (.bool false) (.int .i64 0) (.bool false) (.int .i64 0) (.bool d) (.int .i64 0) (.int .i64 0)
        change Sx (((((((((w2.setCell ⟨w.heap.size, 0, none⟩ (str l)).setCell ⟨w.heap.size, 1, none⟩ (str [])).setCell ⟨w.heap.size, 2, none⟩ (.bool false)).setCell ⟨w.heap.size, 3, none⟩ (.int .i64 0)).setCell ⟨w.heap.size, 4, none⟩ (.bool false)).setCell ⟨w.heap.size, 5, none⟩ (.int .i64 0)).setCell ⟨w.heap.size, 6, none⟩ (.bool d)).setCell ⟨w.heap.size, 7, none⟩ (.int .i64 0)).setCell ⟨w.heap.size, 8, none⟩ (.int .i64 0)) _ _ at hx
        change Below _ _ (((((((((w2.setCell ⟨w.heap.size, 0, none⟩ (str l)).setCell ⟨w.heap.size, 1, none⟩ (str [])).setCell ⟨w.heap.size, 2, none⟩ (.bool false)).setCell ⟨w.heap.size, 3, none⟩ (.int .i64 0)).setCell ⟨w.heap.size, 4, none⟩ (.bool false)).setCell ⟨w.heap.size, 5, none⟩ (.int .i64 0)).setCell ⟨w.heap.size, 6, none⟩ (.bool d)).setCell ⟨w.heap.size, 7, none⟩ (.int .i64 0)).setCell ⟨w.heap.size, 8, none⟩ (.int .i64 0)) at hb
        generalize (((((((((w2.setCell ⟨w.heap.size, 0, none⟩ (str l)).setCell ⟨w.heap.size, 1, none⟩ (str [])).setCell ⟨w.heap.size, 2, none⟩ (.bool false)).setCell ⟨w.heap.size, 3, none⟩ (.int .i64 0)).setCell ⟨w.heap.size, 4, none⟩ (.bool false)).setCell ⟨w.heap.size, 5, none⟩ (.int .i64 0)).setCell ⟨w.heap.size, 6, none⟩ (.bool d)).setCell ⟨w.heap.size, 7, none⟩ (.int .i64 0)).setCell ⟨w.heap.size, 8, none⟩ (.int .i64 0)) = wz at *
        obtain ⟨q0, q1, q2, q3, q4, q5, q6, q7, q8⟩ := hx.cells
        refine bodyPost_ret (v := parseV (some ⟨l, [], false, 0, false, 0, d, 0, 0⟩)) (by simp [results, Try.results12, go_sem, parseV, q0, q1, q2, q3, q4, q5, q6, q7, q8]) rfl ⟨by rw [HQ.out], hb⟩
end Go.Proofs.Ytfafgdbknhlbkaa
