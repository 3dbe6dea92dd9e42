/-
  A text cut at its first mark: the library's Cut, at a text of any length; what a text is as a symbol, as a plain function; the program's Parse.
-/
import Derived.Test.YtfafgdbknhlbkaaC
import Derived.Test.YtfafgdbknhlbkaaSh
import Derived.Lib.Bytealg
namespace Go.Proofs.Ytfafgdbknhlbkaa
open Go.RowKit

/-- What stands ahead of the first mark, and what stands behind it. -/
def spl : Str → Str × Option Str
  | [] => ([], none)
  | x :: l => if x = 64 then ([], some l) else (x :: (spl l).1, (spl l).2)
theorem spl_none : ∀ {l : Str}, (spl l).2 = none → (spl l).1 = l ∧ Lib.indexByte l 64 = -1
  | [], _ => ⟨rfl, rfl⟩
  | x :: l, h => by
    by_cases hx : x = 64
    · rw [spl, if_pos hx] at h; cases h
    · rw [spl, if_neg hx] at h ⊢
      obtain ⟨h1, h2⟩ := spl_none (l := l) h
      refine ⟨by simp only [h1], ?_⟩
      unfold Lib.indexByte
      rw [if_neg (by simpa using hx), h2]
      rfl
theorem spl_some : ∀ {l r : Str}, (spl l).2 = some r → l = (spl l).1 ++ 64 :: r ∧ Lib.indexByte l 64 = ((spl l).1.length : Int)
  | [], r, h => by cases h
  | x :: l, r, h => by
    by_cases hx : x = 64
    · rw [spl, if_pos hx] at h ⊢
      cases h
      subst hx
      exact ⟨rfl, rfl⟩
    · rw [spl, if_neg hx] at h ⊢
      obtain ⟨h1, h2⟩ := spl_some (l := l) h
      refine ⟨by simp only [List.cons_append, ← h1], ?_⟩
      unfold Lib.indexByte
      rw [if_neg (by simpa using hx), h2, if_neg (by simp)]
      simp
theorem str_ext (l : Str) (a b : Nat) : Value.string (ByteArray.extract ⟨l.toArray⟩ a b) = str ((l.drop a).take (b - a)) := by
  rw [str_of, Lib.extract_data]

def cutV (l : Str) : Value := match (spl l).2 with
  | none => .tuple #[str l, str [], .bool false]
  | some r => .tuple #[str (spl l).1, str r, .bool true]
set_option maxHeartbeats 1000000 in
theorem scut_any (l : Str) (w : World) (hs : l.length ≤ 9223372036854775806) :
    Calls Try.prog 32 #[str l, str [64]] w fun e w' => e = .returned (cutV l) ∧ ∃ n, w' = w.drewN n := by
  have HI := Lib.hid (Try.stringslite_Index_one ⟨l.toArray⟩ 64 w)
  cases hc : (spl l).2 with
  | none =>
    obtain ⟨_, h2⟩ := spl_none hc
    rw [show (ByteArray.data ⟨l.toArray⟩).toList = l from rfl, h2] at HI
    have HV := Lib.hid (show cutV l = .tuple #[str l, str [], .bool false] by simp [cutV, hc])
    go_enter Try.func32, Try.ntmps32
    go_wp2_with fail
    refine HI.out.mono ?_
    rintro e w2 ⟨rfl, rfl⟩
    go_wp2_with fail
    go_ret3
    refine ⟨?_, 0, rfl⟩
    rw [HV.out]
    rfl
  | some r =>
    obtain ⟨h1, h2⟩ := spl_some hc
    rw [show (ByteArray.data ⟨l.toArray⟩).toList = l from rfl, h2] at HI
    have HV := Lib.hid (show cutV l = .tuple #[str (spl l).1, str r, .bool true] by simp [cutV, hc])
    obtain ⟨n, hn⟩ : ∃ n, n = (spl l).1 := ⟨_, rfl⟩
    rw [← hn] at h1 h2 HV HI
    have hl : l.length = n.length + 1 + r.length := by rw [h1]; simp; omega
    have ht : l.take n.length = n := by rw [h1]; simp
    have hd : l.drop (n.length + 1) = r := by rw [h1, List.drop_append]; simp
    generalize hi : n.length = i at *
    have HL := Lib.hid hl
    have HT := Lib.hid ht
    have HD := Lib.hid hd
    have c0 : (0 : Int) ≤ i := by omega
    have c1 : (i : Int) ≤ l.length := by omega
    have c2 : (i : Int) + 1 ≤ l.length := by omega
    have c3 : (0 : Int) ≤ (i : Int) + 1 := by omega
    clear ht hd h1 h2 hl hc hn
    go_enter Try.func32, Try.ntmps32
    go_wp2_with fail
    refine HI.out.mono ?_
    rintro e w2 ⟨rfl, rfl⟩
    go_wp2_with fail
    go_region
    go_wp2
    go_ret3
    refine ⟨?_, 1, rfl⟩
    rw [HV.out]
    show Ending.returned (.tuple #[Value.string (ByteArray.extract ⟨l.toArray⟩ 0 i), Value.string (ByteArray.extract ⟨l.toArray⟩ (i + 1) l.length), .bool true]) = _
    rw [str_ext, str_ext, List.drop_zero, Nat.sub_zero, HT.out, HD.out, List.take_of_length_le (by have := HL.out; omega)]

theorem cut_any (l : Str) (w : World) (hs : l.length ≤ 9223372036854775806) :
    Calls Try.prog 25 #[str l, str [64]] w fun e w' => e = .returned (cutV l) ∧ ∃ n, w' = w.drewN n := by
  have HC := Lib.hid (scut_any l w hs)
  obtain ⟨a, b, c, hv⟩ : ∃ a b c, cutV l = .tuple #[a, b, c] := by
    unfold cutV
    cases (spl l).2 with
    | none => exact ⟨_, _, _, rfl⟩
    | some r => exact ⟨_, _, _, rfl⟩
  rw [hv] at HC ⊢
  clear hv
  go_enter Try.func25, Try.ntmps25
  go_wp2_with fail
  refine HC.out.mono ?_
  rintro e w2 ⟨rfl, n, rfl⟩
  go_wp2_with fail
  go_ret3
  exact ⟨rfl, n, rfl⟩

theorem set9_bx {w : World} {g : Nat} {t : TypeId} {u0 u1 u2 u3 u4 u5 u6 u7 u8 : Value} (h : Bx w g #[u0, u1, u2, u3, u4, u5, u6, u7, u8] t) (v0 v1 v2 v3 v4 v5 v6 v7 v8 : Value) : Bx (((((((((w.setCell ⟨g, 0, none⟩ v0).setCell ⟨g, 1, none⟩ v1).setCell ⟨g, 2, none⟩ v2).setCell ⟨g, 3, none⟩ v3).setCell ⟨g, 4, none⟩ v4).setCell ⟨g, 5, none⟩ v5).setCell ⟨g, 6, none⟩ v6).setCell ⟨g, 7, none⟩ v7).setCell ⟨g, 8, none⟩ v8) g #[v0, v1, v2, v3, v4, v5, v6, v7, v8] t := by
  have h0 : Bx (w.setCell ⟨g, 0, none⟩ v0) g #[v0, u1, u2, u3, u4, u5, u6, u7, u8] t := heap_setCell_same _ g 0 _ _ v0 h
  have h1 : Bx ((w.setCell ⟨g, 0, none⟩ v0).setCell ⟨g, 1, none⟩ v1) g #[v0, v1, u2, u3, u4, u5, u6, u7, u8] t := heap_setCell_same _ g 1 _ _ v1 h0
  have h2 : Bx (((w.setCell ⟨g, 0, none⟩ v0).setCell ⟨g, 1, none⟩ v1).setCell ⟨g, 2, none⟩ v2) g #[v0, v1, v2, u3, u4, u5, u6, u7, u8] t := heap_setCell_same _ g 2 _ _ v2 h1
  have h3 : Bx ((((w.setCell ⟨g, 0, none⟩ v0).setCell ⟨g, 1, none⟩ v1).setCell ⟨g, 2, none⟩ v2).setCell ⟨g, 3, none⟩ v3) g #[v0, v1, v2, v3, u4, u5, u6, u7, u8] t := heap_setCell_same _ g 3 _ _ v3 h2
  have h4 : Bx (((((w.setCell ⟨g, 0, none⟩ v0).setCell ⟨g, 1, none⟩ v1).setCell ⟨g, 2, none⟩ v2).setCell ⟨g, 3, none⟩ v3).setCell ⟨g, 4, none⟩ v4) g #[v0, v1, v2, v3, v4, u5, u6, u7, u8] t := heap_setCell_same _ g 4 _ _ v4 h3
  have h5 : Bx ((((((w.setCell ⟨g, 0, none⟩ v0).setCell ⟨g, 1, none⟩ v1).setCell ⟨g, 2, none⟩ v2).setCell ⟨g, 3, none⟩ v3).setCell ⟨g, 4, none⟩ v4).setCell ⟨g, 5, none⟩ v5) g #[v0, v1, v2, v3, v4, v5, u6, u7, u8] t := heap_setCell_same _ g 5 _ _ v5 h4
  have h6 : Bx (((((((w.setCell ⟨g, 0, none⟩ v0).setCell ⟨g, 1, none⟩ v1).setCell ⟨g, 2, none⟩ v2).setCell ⟨g, 3, none⟩ v3).setCell ⟨g, 4, none⟩ v4).setCell ⟨g, 5, none⟩ v5).setCell ⟨g, 6, none⟩ v6) g #[v0, v1, v2, v3, v4, v5, v6, u7, u8] t := heap_setCell_same _ g 6 _ _ v6 h5
  have h7 : Bx ((((((((w.setCell ⟨g, 0, none⟩ v0).setCell ⟨g, 1, none⟩ v1).setCell ⟨g, 2, none⟩ v2).setCell ⟨g, 3, none⟩ v3).setCell ⟨g, 4, none⟩ v4).setCell ⟨g, 5, none⟩ v5).setCell ⟨g, 6, none⟩ v6).setCell ⟨g, 7, none⟩ v7) g #[v0, v1, v2, v3, v4, v5, v6, v7, u8] t := heap_setCell_same _ g 7 _ _ v7 h6
  have h8 : Bx (((((((((w.setCell ⟨g, 0, none⟩ v0).setCell ⟨g, 1, none⟩ v1).setCell ⟨g, 2, none⟩ v2).setCell ⟨g, 3, none⟩ v3).setCell ⟨g, 4, none⟩ v4).setCell ⟨g, 5, none⟩ v5).setCell ⟨g, 6, none⟩ v6).setCell ⟨g, 7, none⟩ v7).setCell ⟨g, 8, none⟩ v8) g #[v0, v1, v2, v3, v4, v5, v6, v7, v8] t := heap_setCell_same _ g 8 _ _ v8 h7
  exact h8
theorem below_set9 {w w' : World} {B g : Nat} (h : Below B w w') (hg : B ≤ g) (v0 v1 v2 v3 v4 v5 v6 v7 v8 : Value) : Below B w (((((((((w'.setCell ⟨g, 0, none⟩ v0).setCell ⟨g, 1, none⟩ v1).setCell ⟨g, 2, none⟩ v2).setCell ⟨g, 3, none⟩ v3).setCell ⟨g, 4, none⟩ v4).setCell ⟨g, 5, none⟩ v5).setCell ⟨g, 6, none⟩ v6).setCell ⟨g, 7, none⟩ v7).setCell ⟨g, 8, none⟩ v8) :=
  (((((((((h.setCell (p := ⟨g, 0, none⟩) hg v0).setCell (p := ⟨g, 1, none⟩) hg v1).setCell (p := ⟨g, 2, none⟩) hg v2).setCell (p := ⟨g, 3, none⟩) hg v3).setCell (p := ⟨g, 4, none⟩) hg v4).setCell (p := ⟨g, 5, none⟩) hg v5).setCell (p := ⟨g, 6, none⟩) hg v6).setCell (p := ⟨g, 7, none⟩) hg v7).setCell (p := ⟨g, 8, none⟩) hg v8)
theorem Sx.set9 {w : World} {g : Nat} {s : Sym} (h : Sx w g s) (s' : Sym) : Sx (((((((((w.setCell ⟨g, 0, none⟩ (str s'.name)).setCell ⟨g, 1, none⟩ (str s'.ver)).setCell ⟨g, 2, none⟩ (.bool s'.old)).setCell ⟨g, 3, none⟩ (.int .i64 s'.kind)).setCell ⟨g, 4, none⟩ (.bool s'.weak)).setCell ⟨g, 5, none⟩ (.int .i64 s'.vis)).setCell ⟨g, 6, none⟩ (.bool s'.dfd)).setCell ⟨g, 7, none⟩ (.int .i64 s'.val)).setCell ⟨g, 8, none⟩ (.int .i64 s'.size)) g s' := ⟨set9_bx h.bx _ _ _ _ _ _ _ _ _⟩
theorem Sx.frozen {w : World} {g : Nat} {s : Sym} (h : Sx w g s) : ∀ j, w.frozen? ⟨g, j, none⟩ = false := fun j => h.bx.f j
/-- What a text is as a symbol. -/
def parseS (l : Str) (d : Bool) : Option Sym := match (spl l).2 with
  | none => if nameB (spl l).1 then some ⟨(spl l).1, [], false, 0, false, 0, d, 0, 0⟩ else none
  | some (64 :: v) => if nameB (spl l).1 && nameB v && d then some ⟨(spl l).1, v, false, 0, false, 0, d, 0, 0⟩ else none
  | some v => if nameB (spl l).1 && nameB v then some ⟨(spl l).1, v, d, 0, false, 0, d, 0, 0⟩ else none
def noSym : Sym := ⟨[], [], false, 0, false, 0, false, 0, 0⟩
def parseV : Option Sym → Value
  | none => .tuple #[symV noSym, .int .i64 70]
  | some s => .tuple #[symV s, .int .i64 0]
def parseP (n v : Str) (m b d : Bool) : Option Sym := if nameB n && (!m || nameB v) && (!b || d) then some ⟨n, v, d && (m && !b), 0, false, 0, d, 0, 0⟩ else none
theorem pre_mark (x : UInt8) (r : Str) (hx : x ≠ 64) : Lib.hasPrefix (x :: r) [64] = false := by
  simp [Lib.hasPrefix, List.isPrefixOf, Ne.symm hx]
/-- What Cut and CutPrefix give, and what follows of it. -/
theorem parts_of (l : Str) (d : Bool) : ∃ n r m v b, cutV l = .tuple #[str n, str r, .bool m] ∧
    (∀ w, Calls Try.prog 26 #[str r, str [64]] w fun e w' => e = .returned (.tuple #[str v, .bool b]) ∧ w' = w) ∧ parseS l d = parseP n v m b d := by
  have HC := fun (r : Str) w => Try.strings_CutPrefix ⟨r.toArray⟩ ⟨#[64]⟩ w
  cases hc : (spl l).2 with
  | none =>
    refine ⟨(spl l).1, [], false, [], false, by simp [cutV, hc, (spl_none hc).1], fun w => HC [] w, ?_⟩
    simp [parseS, parseP, hc]
  | some r =>
    match r with
    | [] => 
      refine ⟨(spl l).1, [], true, [], false, by simp [cutV, hc], fun w => HC [] w, ?_⟩
      simp [parseS, parseP, hc]
    | x :: v =>
      by_cases hx : x = 64
      · subst hx
        refine ⟨(spl l).1, 64 :: v, true, v, true, by simp [cutV, hc], fun w => HC (64 :: v) w, ?_⟩
        simp only [parseS, hc, parseP]
        cases d <;> cases nameB (spl l).1 <;> cases nameB v <;> rfl
      · have h := HC (x :: v)
        have e : (ByteArray.data ⟨(x :: v).toArray⟩).toList = x :: v := rfl
        have e2 : (ByteArray.data ⟨#[64]⟩).toList = [64] := rfl
        refine ⟨(spl l).1, x :: v, true, x :: v, false, by simp [cutV, hc], fun w => ?_, ?_⟩
        · have := h w
          rw [e, e2, Lib.trimPrefix, pre_mark x v hx] at this
          exact this
        · have : parseS l d = if nameB (spl l).1 && nameB (x :: v) then some ⟨(spl l).1, x :: v, d, 0, false, 0, d, 0, 0⟩ else none := by
            unfold parseS
            rw [hc]
            split
            · rename_i h; cases h
            · rename_i h; injection h with h; injection h with h; exact absurd h hx
            · rename_i h1 h; cases h; rfl
          rw [this, parseP]
          cases d <;> cases nameB (spl l).1 <;> cases nameB (x :: v) <;> rfl
set_option maxHeartbeats 4000000 in
theorem parse_any (l : Str) (d : Bool) (w : World) (hs : l.length ≤ 9223372036854775806) :
    Calls Try.prog 11 #[str l, .bool d] w fun e w' => e = .returned (parseV (parseS l d)) ∧ Below w.heap.size w w' := by
  have HB := Lib.hid (show Below w.heap.size w (w.alloc (.cells #[.string ⟨#[]⟩, .string ⟨#[]⟩, .bool false, .int .i64 0, .bool false, .int .i64 0, .bool false, .int .i64 0, .int .i64 0] 26)) from box_below w noSym)
  have HX := Lib.hid (show Sx (w.alloc (.cells #[.string ⟨#[]⟩, .string ⟨#[]⟩, .bool false, .int .i64 0, .bool false, .int .i64 0, .bool false, .int .i64 0, .int .i64 0] 26)) w.heap.size noSym from Sx.new w noSym)
  have HC := Lib.hid (fun v => cut_any l v hs)
  obtain ⟨n, r, m, v, b, h1, h2, h3⟩ := parts_of l d
  rw [h1] at HC
  rw [h3]
  have HQ := Lib.hid h2
  clear h1 h2 h3
  have HN := Lib.hid (fun w => name_any n w)
  have HV := Lib.hid (fun w => name_any v w)
  go_enter Try.func11, Try.ntmps11
  go_wp2_with fail
  generalize w.alloc (.cells #[.string ⟨#[]⟩, .string ⟨#[]⟩, .bool false, .int .i64 0, .bool false, .int .i64 0, .bool false, .int .i64 0, .int .i64 0] 26) = w1 at *
  refine (HC.out _).mono ?_
  rintro e w2 ⟨rfl, k, rfl⟩
  have HB2 := Lib.hid (HB.out.trans ((drewN_below w1 k).mono HB.out.size))
  have HX2 := Lib.hid (show Sx (w1.drewN k) w.heap.size noSym from ⟨HX.out.bx.draw k⟩)
  clear HB HX HC
  generalize w1.drewN k = w2 at *
  go_wp2_with fail
  refine (HQ.out _).mono ?_
  rintro e w3 ⟨rfl, h3⟩
  rw [h3]
  clear h3 HQ w3
  go_wp2_with fail
  refine (HN.out _).mono ?_
  rintro e w3 ⟨rfl, h3⟩
  rw [← h3]
  clear h3 HN w3
  obtain ⟨c0, c1, c2, c3, c4, c5, c6, c7, c8⟩ := HX2.out.cells
  have hf := HX2.out.frozen
  have f0 := hf 0
  have f1 := hf 1
  have f2 := hf 2
  have f3 := hf 3
  have f4 := hf 4
  have f5 := hf 5
  have f6 := hf 6
  have f7 := hf 7
  have f8 := hf 8
  clear hf
  cases hn : nameB n
  · have HP := Lib.hid (show parseP n v m b d = none by simp [parseP, hn])
    clear hn
    go_wp2_with fail
    have hx := HX2.out.set9 noSym
    have hb := below_set9 HB2.out (Nat.le_refl _) (.string ⟨#[]⟩) (.string ⟨#[]⟩) (.bool false) (.int .i64 0) (.bool false) (.int .i64 0) (.bool false) (.int .i64 0) (.int .i64 0)
    change Sx (((((((((w2.setCell ⟨w.heap.size, 0, none⟩ (.string ⟨#[]⟩)).setCell ⟨w.heap.size, 1, none⟩ (.string ⟨#[]⟩)).setCell ⟨w.heap.size, 2, none⟩ (.bool false)).setCell ⟨w.heap.size, 3, none⟩ (.int .i64 0)).setCell ⟨w.heap.size, 4, none⟩ (.bool false)).setCell ⟨w.heap.size, 5, none⟩ (.int .i64 0)).setCell ⟨w.heap.size, 6, none⟩ (.bool false)).setCell ⟨w.heap.size, 7, none⟩ (.int .i64 0)).setCell ⟨w.heap.size, 8, none⟩ (.int .i64 0)) _ _ at hx
    change Below _ _ (((((((((w2.setCell ⟨w.heap.size, 0, none⟩ (.string ⟨#[]⟩)).setCell ⟨w.heap.size, 1, none⟩ (.string ⟨#[]⟩)).setCell ⟨w.heap.size, 2, none⟩ (.bool false)).setCell ⟨w.heap.size, 3, none⟩ (.int .i64 0)).setCell ⟨w.heap.size, 4, none⟩ (.bool false)).setCell ⟨w.heap.size, 5, none⟩ (.int .i64 0)).setCell ⟨w.heap.size, 6, none⟩ (.bool false)).setCell ⟨w.heap.size, 7, none⟩ (.int .i64 0)).setCell ⟨w.heap.size, 8, none⟩ (.int .i64 0)) at hb
    generalize (((((((((w2.setCell ⟨w.heap.size, 0, none⟩ (.string ⟨#[]⟩)).setCell ⟨w.heap.size, 1, none⟩ (.string ⟨#[]⟩)).setCell ⟨w.heap.size, 2, none⟩ (.bool false)).setCell ⟨w.heap.size, 3, none⟩ (.int .i64 0)).setCell ⟨w.heap.size, 4, none⟩ (.bool false)).setCell ⟨w.heap.size, 5, none⟩ (.int .i64 0)).setCell ⟨w.heap.size, 6, none⟩ (.bool false)).setCell ⟨w.heap.size, 7, none⟩ (.int .i64 0)).setCell ⟨w.heap.size, 8, none⟩ (.int .i64 0)) = w3 at *
    obtain ⟨q0, q1, q2, q3, q4, q5, q6, q7, q8⟩ := hx.cells
    refine bodyPost_ret (v := parseV none) (by simp [results, Try.results11, go_sem, parseV, q0, q1, q2, q3, q4, q5, q6, q7, q8]) rfl ⟨by rw [HP.out], hb⟩
  · cases hm : (!m || nameB v)
    · have HP := Lib.hid (show parseP n v m b d = none by simp [parseP, hn, hm])
      obtain ⟨h1, h2⟩ : m = true ∧ nameB v = false := by cases m <;> cases hv : nameB v <;> simp_all
      subst h1
      rw [h2] at HV
      clear hm hn h2
      go_wp2_with fail
      refine (HV.out _).mono ?_
      rintro e w3 ⟨rfl, h3⟩
      rw [← h3]
      clear h3 HV w3
      go_wp2_with fail
      have hx := HX2.out.set9 noSym
      have hb := below_set9 HB2.out (Nat.le_refl _) (.string ⟨#[]⟩) (.string ⟨#[]⟩) (.bool false) (.int .i64 0) (.bool false) (.int .i64 0) (.bool false) (.int .i64 0) (.int .i64 0)
      change Sx (((((((((w2.setCell ⟨w.heap.size, 0, none⟩ (.string ⟨#[]⟩)).setCell ⟨w.heap.size, 1, none⟩ (.string ⟨#[]⟩)).setCell ⟨w.heap.size, 2, none⟩ (.bool false)).setCell ⟨w.heap.size, 3, none⟩ (.int .i64 0)).setCell ⟨w.heap.size, 4, none⟩ (.bool false)).setCell ⟨w.heap.size, 5, none⟩ (.int .i64 0)).setCell ⟨w.heap.size, 6, none⟩ (.bool false)).setCell ⟨w.heap.size, 7, none⟩ (.int .i64 0)).setCell ⟨w.heap.size, 8, none⟩ (.int .i64 0)) _ _ at hx
      change Below _ _ (((((((((w2.setCell ⟨w.heap.size, 0, none⟩ (.string ⟨#[]⟩)).setCell ⟨w.heap.size, 1, none⟩ (.string ⟨#[]⟩)).setCell ⟨w.heap.size, 2, none⟩ (.bool false)).setCell ⟨w.heap.size, 3, none⟩ (.int .i64 0)).setCell ⟨w.heap.size, 4, none⟩ (.bool false)).setCell ⟨w.heap.size, 5, none⟩ (.int .i64 0)).setCell ⟨w.heap.size, 6, none⟩ (.bool false)).setCell ⟨w.heap.size, 7, none⟩ (.int .i64 0)).setCell ⟨w.heap.size, 8, none⟩ (.int .i64 0)) at hb
      generalize (((((((((w2.setCell ⟨w.heap.size, 0, none⟩ (.string ⟨#[]⟩)).setCell ⟨w.heap.size, 1, none⟩ (.string ⟨#[]⟩)).setCell ⟨w.heap.size, 2, none⟩ (.bool false)).setCell ⟨w.heap.size, 3, none⟩ (.int .i64 0)).setCell ⟨w.heap.size, 4, none⟩ (.bool false)).setCell ⟨w.heap.size, 5, none⟩ (.int .i64 0)).setCell ⟨w.heap.size, 6, none⟩ (.bool false)).setCell ⟨w.heap.size, 7, none⟩ (.int .i64 0)).setCell ⟨w.heap.size, 8, none⟩ (.int .i64 0)) = w3 at *
      obtain ⟨q0, q1, q2, q3, q4, q5, q6, q7, q8⟩ := hx.cells
      refine bodyPost_ret (v := parseV none) (by simp [results, Try.results11, go_sem, parseV, q0, q1, q2, q3, q4, q5, q6, q7, q8]) rfl ⟨by rw [HP.out], hb⟩
    · cases hbd : (!b || d)
      · have HP := Lib.hid (show parseP n v m b d = none by simp [parseP, hn, hm, hbd])
        obtain ⟨h1, h2⟩ : b = true ∧ d = false := by cases b <;> cases d <;> simp_all
        subst h1
        subst h2
        cases hmm : m
        · clear hm hn hbd
          go_wp2_with fail
          have hx := HX2.out.set9 noSym
          have hb := below_set9 HB2.out (Nat.le_refl _) (.string ⟨#[]⟩) (.string ⟨#[]⟩) (.bool false) (.int .i64 0) (.bool false) (.int .i64 0) (.bool false) (.int .i64 0) (.int .i64 0)
          change Sx (((((((((w2.setCell ⟨w.heap.size, 0, none⟩ (.string ⟨#[]⟩)).setCell ⟨w.heap.size, 1, none⟩ (.string ⟨#[]⟩)).setCell ⟨w.heap.size, 2, none⟩ (.bool false)).setCell ⟨w.heap.size, 3, none⟩ (.int .i64 0)).setCell ⟨w.heap.size, 4, none⟩ (.bool false)).setCell ⟨w.heap.size, 5, none⟩ (.int .i64 0)).setCell ⟨w.heap.size, 6, none⟩ (.bool false)).setCell ⟨w.heap.size, 7, none⟩ (.int .i64 0)).setCell ⟨w.heap.size, 8, none⟩ (.int .i64 0)) _ _ at hx
          change Below _ _ (((((((((w2.setCell ⟨w.heap.size, 0, none⟩ (.string ⟨#[]⟩)).setCell ⟨w.heap.size, 1, none⟩ (.string ⟨#[]⟩)).setCell ⟨w.heap.size, 2, none⟩ (.bool false)).setCell ⟨w.heap.size, 3, none⟩ (.int .i64 0)).setCell ⟨w.heap.size, 4, none⟩ (.bool false)).setCell ⟨w.heap.size, 5, none⟩ (.int .i64 0)).setCell ⟨w.heap.size, 6, none⟩ (.bool false)).setCell ⟨w.heap.size, 7, none⟩ (.int .i64 0)).setCell ⟨w.heap.size, 8, none⟩ (.int .i64 0)) at hb
          generalize (((((((((w2.setCell ⟨w.heap.size, 0, none⟩ (.string ⟨#[]⟩)).setCell ⟨w.heap.size, 1, none⟩ (.string ⟨#[]⟩)).setCell ⟨w.heap.size, 2, none⟩ (.bool false)).setCell ⟨w.heap.size, 3, none⟩ (.int .i64 0)).setCell ⟨w.heap.size, 4, none⟩ (.bool false)).setCell ⟨w.heap.size, 5, none⟩ (.int .i64 0)).setCell ⟨w.heap.size, 6, none⟩ (.bool false)).setCell ⟨w.heap.size, 7, none⟩ (.int .i64 0)).setCell ⟨w.heap.size, 8, none⟩ (.int .i64 0)) = w3 at *
          obtain ⟨q0, q1, q2, q3, q4, q5, q6, q7, q8⟩ := hx.cells
          refine bodyPost_ret (v := parseV none) (by simp [results, Try.results11, go_sem, parseV, q0, q1, q2, q3, q4, q5, q6, q7, q8]) rfl ⟨by rw [HP.out], hb⟩
        · have hv : nameB v = true := by rw [hmm] at hm; simpa using hm
          rw [hv] at HV
          clear hm hn hbd hv
          go_wp2_with fail
          refine (HV.out _).mono ?_
          rintro e w3 ⟨rfl, h3⟩
          rw [← h3]
          clear h3 HV w3
          go_wp2_with fail
          have hx := HX2.out.set9 noSym
          have hb := below_set9 HB2.out (Nat.le_refl _) (.string ⟨#[]⟩) (.string ⟨#[]⟩) (.bool false) (.int .i64 0) (.bool false) (.int .i64 0) (.bool false) (.int .i64 0) (.int .i64 0)
          change Sx (((((((((w2.setCell ⟨w.heap.size, 0, none⟩ (.string ⟨#[]⟩)).setCell ⟨w.heap.size, 1, none⟩ (.string ⟨#[]⟩)).setCell ⟨w.heap.size, 2, none⟩ (.bool false)).setCell ⟨w.heap.size, 3, none⟩ (.int .i64 0)).setCell ⟨w.heap.size, 4, none⟩ (.bool false)).setCell ⟨w.heap.size, 5, none⟩ (.int .i64 0)).setCell ⟨w.heap.size, 6, none⟩ (.bool false)).setCell ⟨w.heap.size, 7, none⟩ (.int .i64 0)).setCell ⟨w.heap.size, 8, none⟩ (.int .i64 0)) _ _ at hx
          change Below _ _ (((((((((w2.setCell ⟨w.heap.size, 0, none⟩ (.string ⟨#[]⟩)).setCell ⟨w.heap.size, 1, none⟩ (.string ⟨#[]⟩)).setCell ⟨w.heap.size, 2, none⟩ (.bool false)).setCell ⟨w.heap.size, 3, none⟩ (.int .i64 0)).setCell ⟨w.heap.size, 4, none⟩ (.bool false)).setCell ⟨w.heap.size, 5, none⟩ (.int .i64 0)).setCell ⟨w.heap.size, 6, none⟩ (.bool false)).setCell ⟨w.heap.size, 7, none⟩ (.int .i64 0)).setCell ⟨w.heap.size, 8, none⟩ (.int .i64 0)) at hb
          generalize (((((((((w2.setCell ⟨w.heap.size, 0, none⟩ (.string ⟨#[]⟩)).setCell ⟨w.heap.size, 1, none⟩ (.string ⟨#[]⟩)).setCell ⟨w.heap.size, 2, none⟩ (.bool false)).setCell ⟨w.heap.size, 3, none⟩ (.int .i64 0)).setCell ⟨w.heap.size, 4, none⟩ (.bool false)).setCell ⟨w.heap.size, 5, none⟩ (.int .i64 0)).setCell ⟨w.heap.size, 6, none⟩ (.bool false)).setCell ⟨w.heap.size, 7, none⟩ (.int .i64 0)).setCell ⟨w.heap.size, 8, none⟩ (.int .i64 0)) = w3 at *
          obtain ⟨q0, q1, q2, q3, q4, q5, q6, q7, q8⟩ := hx.cells
          refine bodyPost_ret (v := parseV none) (by simp [results, Try.results11, go_sem, parseV, q0, q1, q2, q3, q4, q5, q6, q7, q8]) rfl ⟨by rw [HP.out], hb⟩
      · have HP := Lib.hid (show parseP n v m b d = some ⟨n, v, d && (m && !b), 0, false, 0, d, 0, 0⟩ by simp [parseP, hn, hm, hbd])
        obtain hc | hc | hc | hc | hc | hc : (m = false ∧ b = false ∧ d = false) ∨ (m = false ∧ b = false ∧ d = true) ∨ (m = false ∧ b = true ∧ d = true) ∨ (m = true ∧ b = false ∧ d = false) ∨ (m = true ∧ b = false ∧ d = true) ∨ (m = true ∧ b = true ∧ d = true) := by
          cases m <;> cases b <;> cases d <;> simp at hbd <;> simp
        all_goals (obtain ⟨rfl, rfl, rfl⟩ := hc)
        · clear hm hn hbd
          go_wp2_with fail
          have hx := HX2.out.set9 ⟨n, v, false, 0, false, 0, false, 0, 0⟩
          have hb := below_set9 HB2.out (Nat.le_refl _) (str n) (str v) (.bool false) (.int .i64 0) (.bool false) (.int .i64 0) (.bool false) (.int .i64 0) (.int .i64 0)
          change Sx (((((((((w2.setCell ⟨w.heap.size, 0, none⟩ (str n)).setCell ⟨w.heap.size, 1, none⟩ (str v)).setCell ⟨w.heap.size, 2, none⟩ (.bool false)).setCell ⟨w.heap.size, 3, none⟩ (.int .i64 0)).setCell ⟨w.heap.size, 4, none⟩ (.bool false)).setCell ⟨w.heap.size, 5, none⟩ (.int .i64 0)).setCell ⟨w.heap.size, 6, none⟩ (.bool false)).setCell ⟨w.heap.size, 7, none⟩ (.int .i64 0)).setCell ⟨w.heap.size, 8, none⟩ (.int .i64 0)) _ _ at hx
          change Below _ _ (((((((((w2.setCell ⟨w.heap.size, 0, none⟩ (str n)).setCell ⟨w.heap.size, 1, none⟩ (str v)).setCell ⟨w.heap.size, 2, none⟩ (.bool false)).setCell ⟨w.heap.size, 3, none⟩ (.int .i64 0)).setCell ⟨w.heap.size, 4, none⟩ (.bool false)).setCell ⟨w.heap.size, 5, none⟩ (.int .i64 0)).setCell ⟨w.heap.size, 6, none⟩ (.bool false)).setCell ⟨w.heap.size, 7, none⟩ (.int .i64 0)).setCell ⟨w.heap.size, 8, none⟩ (.int .i64 0)) at hb
          generalize (((((((((w2.setCell ⟨w.heap.size, 0, none⟩ (str n)).setCell ⟨w.heap.size, 1, none⟩ (str v)).setCell ⟨w.heap.size, 2, none⟩ (.bool false)).setCell ⟨w.heap.size, 3, none⟩ (.int .i64 0)).setCell ⟨w.heap.size, 4, none⟩ (.bool false)).setCell ⟨w.heap.size, 5, none⟩ (.int .i64 0)).setCell ⟨w.heap.size, 6, none⟩ (.bool false)).setCell ⟨w.heap.size, 7, none⟩ (.int .i64 0)).setCell ⟨w.heap.size, 8, none⟩ (.int .i64 0)) = w3 at *
          obtain ⟨q0, q1, q2, q3, q4, q5, q6, q7, q8⟩ := hx.cells
          refine bodyPost_ret (v := parseV (some ⟨n, v, false, 0, false, 0, false, 0, 0⟩)) (by simp [results, Try.results11, go_sem, parseV, q0, q1, q2, q3, q4, q5, q6, q7, q8]) rfl ⟨by rw [HP.out]; rfl, hb⟩
        · clear hm hn hbd
          go_wp2_with fail
          have hx := HX2.out.set9 ⟨n, v, false, 0, false, 0, true, 0, 0⟩
          have hb := below_set9 HB2.out (Nat.le_refl _) (str n) (str v) (.bool false) (.int .i64 0) (.bool false) (.int .i64 0) (.bool true) (.int .i64 0) (.int .i64 0)
          change Sx (((((((((w2.setCell ⟨w.heap.size, 0, none⟩ (str n)).setCell ⟨w.heap.size, 1, none⟩ (str v)).setCell ⟨w.heap.size, 2, none⟩ (.bool false)).setCell ⟨w.heap.size, 3, none⟩ (.int .i64 0)).setCell ⟨w.heap.size, 4, none⟩ (.bool false)).setCell ⟨w.heap.size, 5, none⟩ (.int .i64 0)).setCell ⟨w.heap.size, 6, none⟩ (.bool true)).setCell ⟨w.heap.size, 7, none⟩ (.int .i64 0)).setCell ⟨w.heap.size, 8, none⟩ (.int .i64 0)) _ _ at hx
          change Below _ _ (((((((((w2.setCell ⟨w.heap.size, 0, none⟩ (str n)).setCell ⟨w.heap.size, 1, none⟩ (str v)).setCell ⟨w.heap.size, 2, none⟩ (.bool false)).setCell ⟨w.heap.size, 3, none⟩ (.int .i64 0)).setCell ⟨w.heap.size, 4, none⟩ (.bool false)).setCell ⟨w.heap.size, 5, none⟩ (.int .i64 0)).setCell ⟨w.heap.size, 6, none⟩ (.bool true)).setCell ⟨w.heap.size, 7, none⟩ (.int .i64 0)).setCell ⟨w.heap.size, 8, none⟩ (.int .i64 0)) at hb
          generalize (((((((((w2.setCell ⟨w.heap.size, 0, none⟩ (str n)).setCell ⟨w.heap.size, 1, none⟩ (str v)).setCell ⟨w.heap.size, 2, none⟩ (.bool false)).setCell ⟨w.heap.size, 3, none⟩ (.int .i64 0)).setCell ⟨w.heap.size, 4, none⟩ (.bool false)).setCell ⟨w.heap.size, 5, none⟩ (.int .i64 0)).setCell ⟨w.heap.size, 6, none⟩ (.bool true)).setCell ⟨w.heap.size, 7, none⟩ (.int .i64 0)).setCell ⟨w.heap.size, 8, none⟩ (.int .i64 0)) = w3 at *
          obtain ⟨q0, q1, q2, q3, q4, q5, q6, q7, q8⟩ := hx.cells
          refine bodyPost_ret (v := parseV (some ⟨n, v, false, 0, false, 0, true, 0, 0⟩)) (by simp [results, Try.results11, go_sem, parseV, q0, q1, q2, q3, q4, q5, q6, q7, q8]) rfl ⟨by rw [HP.out]; rfl, hb⟩
        · clear hm hn hbd
          go_wp2_with fail
          have hx := HX2.out.set9 ⟨n, v, false, 0, false, 0, true, 0, 0⟩
          have hb := below_set9 HB2.out (Nat.le_refl _) (str n) (str v) (.bool false) (.int .i64 0) (.bool false) (.int .i64 0) (.bool true) (.int .i64 0) (.int .i64 0)
          change Sx (((((((((w2.setCell ⟨w.heap.size, 0, none⟩ (str n)).setCell ⟨w.heap.size, 1, none⟩ (str v)).setCell ⟨w.heap.size, 2, none⟩ (.bool false)).setCell ⟨w.heap.size, 3, none⟩ (.int .i64 0)).setCell ⟨w.heap.size, 4, none⟩ (.bool false)).setCell ⟨w.heap.size, 5, none⟩ (.int .i64 0)).setCell ⟨w.heap.size, 6, none⟩ (.bool true)).setCell ⟨w.heap.size, 7, none⟩ (.int .i64 0)).setCell ⟨w.heap.size, 8, none⟩ (.int .i64 0)) _ _ at hx
          change Below _ _ (((((((((w2.setCell ⟨w.heap.size, 0, none⟩ (str n)).setCell ⟨w.heap.size, 1, none⟩ (str v)).setCell ⟨w.heap.size, 2, none⟩ (.bool false)).setCell ⟨w.heap.size, 3, none⟩ (.int .i64 0)).setCell ⟨w.heap.size, 4, none⟩ (.bool false)).setCell ⟨w.heap.size, 5, none⟩ (.int .i64 0)).setCell ⟨w.heap.size, 6, none⟩ (.bool true)).setCell ⟨w.heap.size, 7, none⟩ (.int .i64 0)).setCell ⟨w.heap.size, 8, none⟩ (.int .i64 0)) at hb
          generalize (((((((((w2.setCell ⟨w.heap.size, 0, none⟩ (str n)).setCell ⟨w.heap.size, 1, none⟩ (str v)).setCell ⟨w.heap.size, 2, none⟩ (.bool false)).setCell ⟨w.heap.size, 3, none⟩ (.int .i64 0)).setCell ⟨w.heap.size, 4, none⟩ (.bool false)).setCell ⟨w.heap.size, 5, none⟩ (.int .i64 0)).setCell ⟨w.heap.size, 6, none⟩ (.bool true)).setCell ⟨w.heap.size, 7, none⟩ (.int .i64 0)).setCell ⟨w.heap.size, 8, none⟩ (.int .i64 0)) = w3 at *
          obtain ⟨q0, q1, q2, q3, q4, q5, q6, q7, q8⟩ := hx.cells
          refine bodyPost_ret (v := parseV (some ⟨n, v, false, 0, false, 0, true, 0, 0⟩)) (by simp [results, Try.results11, go_sem, parseV, q0, q1, q2, q3, q4, q5, q6, q7, q8]) rfl ⟨by rw [HP.out]; rfl, hb⟩
        · have hv : nameB v = true := by simpa using hm
          rw [hv] at HV
          clear hm hn hbd hv
          go_wp2_with fail
          refine (HV.out _).mono ?_
          rintro e w3 ⟨rfl, h3⟩
          rw [← h3]
          clear h3 HV w3
          go_wp2_with fail
          have hx := HX2.out.set9 ⟨n, v, false, 0, false, 0, false, 0, 0⟩
          have hb := below_set9 HB2.out (Nat.le_refl _) (str n) (str v) (.bool false) (.int .i64 0) (.bool false) (.int .i64 0) (.bool false) (.int .i64 0) (.int .i64 0)
          change Sx (((((((((w2.setCell ⟨w.heap.size, 0, none⟩ (str n)).setCell ⟨w.heap.size, 1, none⟩ (str v)).setCell ⟨w.heap.size, 2, none⟩ (.bool false)).setCell ⟨w.heap.size, 3, none⟩ (.int .i64 0)).setCell ⟨w.heap.size, 4, none⟩ (.bool false)).setCell ⟨w.heap.size, 5, none⟩ (.int .i64 0)).setCell ⟨w.heap.size, 6, none⟩ (.bool false)).setCell ⟨w.heap.size, 7, none⟩ (.int .i64 0)).setCell ⟨w.heap.size, 8, none⟩ (.int .i64 0)) _ _ at hx
          change Below _ _ (((((((((w2.setCell ⟨w.heap.size, 0, none⟩ (str n)).setCell ⟨w.heap.size, 1, none⟩ (str v)).setCell ⟨w.heap.size, 2, none⟩ (.bool false)).setCell ⟨w.heap.size, 3, none⟩ (.int .i64 0)).setCell ⟨w.heap.size, 4, none⟩ (.bool false)).setCell ⟨w.heap.size, 5, none⟩ (.int .i64 0)).setCell ⟨w.heap.size, 6, none⟩ (.bool false)).setCell ⟨w.heap.size, 7, none⟩ (.int .i64 0)).setCell ⟨w.heap.size, 8, none⟩ (.int .i64 0)) at hb
          generalize (((((((((w2.setCell ⟨w.heap.size, 0, none⟩ (str n)).setCell ⟨w.heap.size, 1, none⟩ (str v)).setCell ⟨w.heap.size, 2, none⟩ (.bool false)).setCell ⟨w.heap.size, 3, none⟩ (.int .i64 0)).setCell ⟨w.heap.size, 4, none⟩ (.bool false)).setCell ⟨w.heap.size, 5, none⟩ (.int .i64 0)).setCell ⟨w.heap.size, 6, none⟩ (.bool false)).setCell ⟨w.heap.size, 7, none⟩ (.int .i64 0)).setCell ⟨w.heap.size, 8, none⟩ (.int .i64 0)) = w3 at *
          obtain ⟨q0, q1, q2, q3, q4, q5, q6, q7, q8⟩ := hx.cells
          refine bodyPost_ret (v := parseV (some ⟨n, v, false, 0, false, 0, false, 0, 0⟩)) (by simp [results, Try.results11, go_sem, parseV, q0, q1, q2, q3, q4, q5, q6, q7, q8]) rfl ⟨by rw [HP.out]; rfl, hb⟩
        · have hv : nameB v = true := by simpa using hm
          rw [hv] at HV
          clear hm hn hbd hv
          go_wp2_with fail
          refine (HV.out _).mono ?_
          rintro e w3 ⟨rfl, h3⟩
          rw [← h3]
          clear h3 HV w3
          go_wp2_with fail
          have hx := HX2.out.set9 ⟨n, v, true, 0, false, 0, true, 0, 0⟩
          have hb := below_set9 HB2.out (Nat.le_refl _) (str n) (str v) (.bool true) (.int .i64 0) (.bool false) (.int .i64 0) (.bool true) (.int .i64 0) (.int .i64 0)
          change Sx (((((((((w2.setCell ⟨w.heap.size, 0, none⟩ (str n)).setCell ⟨w.heap.size, 1, none⟩ (str v)).setCell ⟨w.heap.size, 2, none⟩ (.bool true)).setCell ⟨w.heap.size, 3, none⟩ (.int .i64 0)).setCell ⟨w.heap.size, 4, none⟩ (.bool false)).setCell ⟨w.heap.size, 5, none⟩ (.int .i64 0)).setCell ⟨w.heap.size, 6, none⟩ (.bool true)).setCell ⟨w.heap.size, 7, none⟩ (.int .i64 0)).setCell ⟨w.heap.size, 8, none⟩ (.int .i64 0)) _ _ at hx
          change Below _ _ (((((((((w2.setCell ⟨w.heap.size, 0, none⟩ (str n)).setCell ⟨w.heap.size, 1, none⟩ (str v)).setCell ⟨w.heap.size, 2, none⟩ (.bool true)).setCell ⟨w.heap.size, 3, none⟩ (.int .i64 0)).setCell ⟨w.heap.size, 4, none⟩ (.bool false)).setCell ⟨w.heap.size, 5, none⟩ (.int .i64 0)).setCell ⟨w.heap.size, 6, none⟩ (.bool true)).setCell ⟨w.heap.size, 7, none⟩ (.int .i64 0)).setCell ⟨w.heap.size, 8, none⟩ (.int .i64 0)) at hb
          generalize (((((((((w2.setCell ⟨w.heap.size, 0, none⟩ (str n)).setCell ⟨w.heap.size, 1, none⟩ (str v)).setCell ⟨w.heap.size, 2, none⟩ (.bool true)).setCell ⟨w.heap.size, 3, none⟩ (.int .i64 0)).setCell ⟨w.heap.size, 4, none⟩ (.bool false)).setCell ⟨w.heap.size, 5, none⟩ (.int .i64 0)).setCell ⟨w.heap.size, 6, none⟩ (.bool true)).setCell ⟨w.heap.size, 7, none⟩ (.int .i64 0)).setCell ⟨w.heap.size, 8, none⟩ (.int .i64 0)) = w3 at *
          obtain ⟨q0, q1, q2, q3, q4, q5, q6, q7, q8⟩ := hx.cells
          refine bodyPost_ret (v := parseV (some ⟨n, v, true, 0, false, 0, true, 0, 0⟩)) (by simp [results, Try.results11, go_sem, parseV, q0, q1, q2, q3, q4, q5, q6, q7, q8]) rfl ⟨by rw [HP.out]; rfl, hb⟩
        · have hv : nameB v = true := by simpa using hm
          rw [hv] at HV
          clear hm hn hbd hv
          go_wp2_with fail
          refine (HV.out _).mono ?_
          rintro e w3 ⟨rfl, h3⟩
          rw [← h3]
          clear h3 HV w3
          go_wp2_with fail
          have hx := HX2.out.set9 ⟨n, v, false, 0, false, 0, true, 0, 0⟩
          have hb := below_set9 HB2.out (Nat.le_refl _) (str n) (str v) (.bool false) (.int .i64 0) (.bool false) (.int .i64 0) (.bool true) (.int .i64 0) (.int .i64 0)
          change Sx (((((((((w2.setCell ⟨w.heap.size, 0, none⟩ (str n)).setCell ⟨w.heap.size, 1, none⟩ (str v)).setCell ⟨w.heap.size, 2, none⟩ (.bool false)).setCell ⟨w.heap.size, 3, none⟩ (.int .i64 0)).setCell ⟨w.heap.size, 4, none⟩ (.bool false)).setCell ⟨w.heap.size, 5, none⟩ (.int .i64 0)).setCell ⟨w.heap.size, 6, none⟩ (.bool true)).setCell ⟨w.heap.size, 7, none⟩ (.int .i64 0)).setCell ⟨w.heap.size, 8, none⟩ (.int .i64 0)) _ _ at hx
          change Below _ _ (((((((((w2.setCell ⟨w.heap.size, 0, none⟩ (str n)).setCell ⟨w.heap.size, 1, none⟩ (str v)).setCell ⟨w.heap.size, 2, none⟩ (.bool false)).setCell ⟨w.heap.size, 3, none⟩ (.int .i64 0)).setCell ⟨w.heap.size, 4, none⟩ (.bool false)).setCell ⟨w.heap.size, 5, none⟩ (.int .i64 0)).setCell ⟨w.heap.size, 6, none⟩ (.bool true)).setCell ⟨w.heap.size, 7, none⟩ (.int .i64 0)).setCell ⟨w.heap.size, 8, none⟩ (.int .i64 0)) at hb
          generalize (((((((((w2.setCell ⟨w.heap.size, 0, none⟩ (str n)).setCell ⟨w.heap.size, 1, none⟩ (str v)).setCell ⟨w.heap.size, 2, none⟩ (.bool false)).setCell ⟨w.heap.size, 3, none⟩ (.int .i64 0)).setCell ⟨w.heap.size, 4, none⟩ (.bool false)).setCell ⟨w.heap.size, 5, none⟩ (.int .i64 0)).setCell ⟨w.heap.size, 6, none⟩ (.bool true)).setCell ⟨w.heap.size, 7, none⟩ (.int .i64 0)).setCell ⟨w.heap.size, 8, none⟩ (.int .i64 0)) = w3 at *
          obtain ⟨q0, q1, q2, q3, q4, q5, q6, q7, q8⟩ := hx.cells
          refine bodyPost_ret (v := parseV (some ⟨n, v, false, 0, false, 0, true, 0, 0⟩)) (by simp [results, Try.results11, go_sem, parseV, q0, q1, q2, q3, q4, q5, q6, q7, q8]) rfl ⟨by rw [HP.out]; rfl, hb⟩
end Go.Proofs.Ytfafgdbknhlbkaa
