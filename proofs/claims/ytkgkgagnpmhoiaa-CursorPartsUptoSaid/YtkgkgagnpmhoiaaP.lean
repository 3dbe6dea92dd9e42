/-
  The law CursorParts: walked, for all numbers and texts that a slice can take when they are written.
-/
import Derived.Test.YtkgkgagnpmhoiaaD
namespace Go.Proofs.Ytkgkgagnpmhoiaa
open Go.RowKit

theorem Wr.other {w w' : World} {B g g' : Nat} {e : Int} {A : Option Addr} {c : Nat} {bs : List UInt8} {r r' : Option Nat} (h : Wr w B g e A c bs) (hs : Step g' w r w' r') (h1 : g ≠ g') (h2 : r ≠ some g) (h3 : row A ≠ some g')
    (h4 : ∀ k, row A = some k → r ≠ some k) : Wr w' B g e A c bs :=
  h.keep hs.size (hs.block g h.lt h1 h2) fun k hk => hs.block k (h.rowLt k hk).2 (fun e => h3 (by rw [hk, e])) (h4 k hk)
theorem Wr.anew {w : World} {B g : Nat} {e : Int} {c : Nat} (h : Wr w B g e none c []) : Wr w w.heap.size g e none c [] := by
  refine ⟨h.blk, ?_, Nat.le_refl _⟩
  rcases h.own.2 with ⟨h1, _⟩ | ⟨g', cap, cur, hv, _⟩
  · refine ⟨rfl, .inl ⟨h1, rfl⟩⟩
  · injection hv with hv; cases hv
theorem wNumsA_snoc (size : Int) (ns : List Int) (k : Nat) (h : k < ns.length) : wNumsA size (ns.take (k + 1)) (0, []) = wNumsA size [ns[k]] (wNumsA size (ns.take k) (0, [])) := by
  unfold wNumsA
  by_cases hs : sized size = true
  · rw [if_pos hs, if_pos hs, if_pos hs, wNums_snoc _ _ _ h]
    rfl
  · rw [if_neg hs, if_neg hs, if_neg hs]
    rfl
theorem wNumsA_len (size : Int) (ns : List Int) (s : St) : (wNumsA size ns s).2.length ≤ s.2.length + 8 * ns.length := by
  unfold wNumsA
  split
  · rename_i h
    exact wNums_len _ _ (by simp only [sized, decide_eq_true_eq] at h; omega) s
  · split <;> simp
theorem room_one (l : List UInt8) : room [l] = l.length + 8 := by simp [room]
theorem At.len {w w' : World} {B g : Nat} {A : Option Addr} {e : Int} {bs : List UInt8} (h : At w B g A e bs w') : w.heap.size ≤ w'.heap.size := by
  obtain ⟨_, _, _, h⟩ := h
  exact h.size

set_option maxHeartbeats 2000000 in
set_option maxRecDepth 100000 in
theorem parts_any (size : Int) (An Ax : Option Addr) (n cn m cm : Nat) (ns : List Int) (ss : List (List UInt8)) (w : World) (hi : ∀ x ∈ ns, I64 x) (hn : Src w (fun k => k < w.heap.size) An n cn (ints ns))
    (hs : Src w (fun k => k < w.heap.size) Ax m cm (strs ss)) (hb : 8 * n + room ss ≤ 140737488355328) :
    Calls Try.prog 9 #[.int .i64 size, .slice An n cn, .slice Ax m cm] w fun en w' => en = .returned (.bool true) ∧ Below w.heap.size w w' := by
  have hln : ns.length = n := by have := hn.len; simpa [ints] using this
  have hls : ss.length = m := by have := hs.len; simpa [strs] using this
  have hmm := room_ge ss
  have HI := Lib.hid hi
  have HN := Lib.hid hn
  have HX := Lib.hid hs
  have HLN := Lib.hid hln
  have HLS := Lib.hid hls
  have hnn : n ≤ 140737488355328 := by omega
  have hmn : m ≤ 140737488355328 := by omega
  clear hi hn hs hln hls hmm
  go_enter Try.func9, Try.ntmps9
  go_wp2_with fail
  refine (awake_any _).mono ?_
  rintro en w0 ⟨rfl, hb0⟩
  have HB0 := Lib.hid hb0
  have hl0 : w.heap.size ≤ w0.heap.size := hb0.size
  clear hb0
  go_wp2_with fail
  refine (wnew_any _).mono ?_
  rintro en w1 ⟨rfl, hw1, hb1, hz1⟩
  have HB1 := Lib.hid (HB0.out.trans (hb1.mono hl0))
  have hl1 : w0.heap.size < w1.heap.size := by omega
  have HW1 := Lib.hid hw1
  clear hw1 hz1 hb1
  go_wp2_with fail
  refine (wnew_any _).mono ?_
  rintro en w2 ⟨rfl, hv2, hb2, hz2⟩
  have hw2 := (HW1.out.below hb2).anew
  have HB2 := Lib.hid (HB1.out.trans (hb2.mono (by omega)))
  have hl2 : w1.heap.size < w2.heap.size := by omega
  have HV2 := Lib.hid hv2
  have C := wnum_any w2.heap.size w0.heap.size (0, []) none 0 size An n cn ns w2 hw2 HI.out ((HN.out.keep fun k hk _ => HB2.out.block k hk).weak fun k hk => (by exact ⟨by omega, by simp [row]⟩)) (by simp; omega)
  have HC := Lib.hid C
  clear hv2 hb2 hz2 hw2 C
  go_wp2_with fail
  refine HC.out.mono ?_
  rintro en w3 ⟨rfl, A3, c3, hw3, hs3⟩
  have hl3 : w2.heap.size ≤ w3.heap.size := hs3.size
  have HB3 := Lib.hid (HB2.out.trans (hs3.to_below (B := w.heap.size) (by omega) (by intro k hk; cases hk) (by omega)))
  have hk1 := wNumsA_len size ns (0, [])
  rw [HLN.out] at hk1
  have C := wtext_any w2.heap.size w0.heap.size (wNumsA size ns (0, [])) A3 c3 Ax m cm ss w3 hw3 ((HX.out.keep fun k hk _ => HB3.out.block k hk).weak fun k hk => (by exact ⟨by omega, fun e => by have := (hw3.rowLt _ e).1; omega⟩)) (by simp at hk1; omega)
  have HC3 := Lib.hid C
  have HS3 := Lib.hid hs3
  have HR3 := Lib.hid hw3.rowLt
  clear hw3 hs3 C hk1
  go_wp2_with fail
  refine HC3.out.mono ?_
  rintro en w4 ⟨rfl, A4, c4, hw4, hs4⟩
  have hl4 : w3.heap.size ≤ w4.heap.size := hs4.size
  have HB4 := Lib.hid (HB3.out.trans (hs4.to_below (B := w.heap.size) (by omega) (by intro k hk; have := (HR3.out k hk).1; omega) (by omega)))
  have hv4 := HV2.out.other (HS3.out.trans hs4) (by omega) (by simp [row]) (by simp [row]) (by intro k hk; cases hk)
  have hv4' := hv4.anew
  have HW4 := Lib.hid hw4
  have C := wnum_any w4.heap.size w1.heap.size (0, []) none 0 size none 0 0 [] w4 hv4' (by intro x hx; cases hx) ⟨rfl, fun _ => ⟨rfl, rfl⟩, Nat.le_refl _, (by intro ad h; cases h), (by intro ad h; cases h)⟩ (by simp)
  have HC4 := Lib.hid C
  clear hw4 hs4 C hv4 hv4'
  go_wp2_with fail
  refine HC4.out.mono ?_
  rintro en w5 ⟨rfl, hat5⟩
  have HA5 := Lib.hid hat5
  clear hat5
  go_wp2_with fail
  go_loopw [10] (fun i wr => ∃ k : Nat, k ≤ n ∧ i = .int .i64 k ∧ At w4 w4.heap.size w1.heap.size none (wNumsA size (ns.take k) (0, [])).1 (wNumsA size (ns.take k) (0, [])).2 wr) (fun i _ => n - (intOf i).toNat)
  case atStart => exact ⟨0, Nat.zero_le _, rfl, HA5.out⟩
  case round =>
    obtain ⟨k, hk, rfl, A6, c6, hw6, hs6⟩ := hrel
    have hl6 : w4.heap.size ≤ wr.heap.size := hs6.size
    have HB6 := Lib.hid (HB4.out.trans (hs6.to_below (B := w.heap.size) (by omega) (by intro k hk; cases hk) (by omega)))
    by_cases hlt : k < n
    · have hkl : k < ns.length := by rw [HLN.out]; exact hlt
      obtain ⟨ad, rfl⟩ : ∃ ad, An = some ad := by
        cases An with
        | none => have := (HN.out.nil rfl).1; omega
        | some ad => exact ⟨ad, rfl⟩
      have hcell : wr.cell? (ad.add k) = some (.int .i64 ns[k]) := (HN.out.keep fun k hk _ => HB6.out.block k hk).at_ ad rfl k _ (by simp [ints, List.getElem?_eq_getElem hkl])
      have hcap := HN.out.cap
      have hkb := wNumsA_len size (ns.take k) (0, [])
      rw [List.length_take, Nat.min_eq_left (by omega)] at hkb
      have C := wnum_any w4.heap.size w1.heap.size (wNumsA size (ns.take k) (0, [])) A6 c6 size _ 1 1 [ns[k]] _ (hw6.alloc (.cells #[.int .i64 ns[k]] 3)) (by intro x hx; simp at hx; subst hx; exact HI.out _ (List.getElem_mem hkl))
        ((src_int wr ns[k]).weak fun j hj => (by subst hj; exact ⟨by omega, fun e => by have := (hw6.rowLt _ e).2; omega⟩)) (by simp at hkb; omega)
      rw [← wNumsA_snoc size ns k hkl] at C
      have HC := Lib.hid C
      have HS6 := Lib.hid hs6
      clear C hw6 hs6 hkb
      go_wp2_with (go_at_call 30; refine HC.out.mono ?_; rintro en w7 ⟨rfl, hat⟩; have HA := Lib.hid hat; clear hat)
      go_roundw
      case rel => exact ⟨k + 1, by omega, by go_num, At.trans (HS6.out.trans (Step.alloc _ wr _ _)) HA.out⟩
      case measure => simp [intOf]; omega
    · obtain rfl : k = n := by omega
      have htk : ns.take k = ns := List.take_of_length_le (by rw [HLN.out]; exact Nat.le_refl _)
      rw [htk] at hw6
      have HW6 := Lib.hid hw6
      have HS6 := Lib.hid hs6
      clear htk hw6 hs6
      obtain ⟨wq, rfl⟩ : ∃ wq : World, wq = wr := ⟨_, rfl⟩
      go_wp2_with fail
      go_loopw [11] (fun i wr => ∃ j : Nat, j ≤ m ∧ i = .int .i64 j ∧ At w4 w4.heap.size w1.heap.size none (wTexts (ss.take j) (wNumsA size ns (0, []))).1 (wTexts (ss.take j) (wNumsA size ns (0, []))).2 wr) (fun i _ => m - (intOf i).toNat)
      case atStart => exact ⟨0, Nat.zero_le _, rfl, A6, c6, HW6.out, HS6.out⟩
      case round =>
        obtain ⟨j, hj, rfl, A7, c7, hw7, hs7⟩ := hrel
        have hl7 : w4.heap.size ≤ wr.heap.size := hs7.size
        have HB7 := Lib.hid (HB4.out.trans (hs7.to_below (B := w.heap.size) (by omega) (by intro k hk; cases hk) (by omega)))
        by_cases hlt2 : j < m
        · have hkl : j < ss.length := by rw [HLS.out]; exact hlt2
          obtain ⟨ad, rfl⟩ : ∃ ad, Ax = some ad := by
            cases Ax with
            | none => have := (HX.out.nil rfl).1; omega
            | some ad => exact ⟨ad, rfl⟩
          have hcell : wr.cell? (ad.add j) = some (.string ⟨ss[j].toArray⟩) := (HX.out.keep fun k hk _ => HB7.out.block k hk).at_ ad rfl j _ (by simp [strs, List.getElem?_eq_getElem hkl])
          have hcap := HX.out.cap
          have hkb := wTexts_len (ss.take j) (wNumsA size ns (0, []))
          have hk2 := wNumsA_len size ns (0, [])
          have hk3 := room_take ss j hkl
          rw [HLN.out] at hk2
          have C := wtext_any w4.heap.size w1.heap.size (wTexts (ss.take j) (wNumsA size ns (0, []))) A7 c7 _ 1 1 [ss[j]] _ (hw7.alloc (.cells #[.string ⟨ss[j].toArray⟩] 9))
            ((src_str wr ss[j]).weak fun i hi => (by subst hi; exact ⟨by omega, fun e => by have := (hw7.rowLt _ e).2; omega⟩)) (by rw [room_one]; simp at hk2; omega)
          have e1 : wTexts [ss[j]] (wTexts (ss.take j) (wNumsA size ns (0, []))) = wTexts (ss.take (j + 1)) (wNumsA size ns (0, [])) := (wTexts_snoc ss j hkl _).symm
          rw [e1] at C
          have HC := Lib.hid C
          have HS7 := Lib.hid hs7
          clear C hw7 hs7 hkb hk2 hk3 e1
          go_wp2_with (go_at_call 31; refine HC.out.mono ?_; rintro en w8 ⟨rfl, hat⟩; have HA := Lib.hid hat; clear hat)
          go_roundw
          case rel => exact ⟨j + 1, by omega, by go_num, At.trans (HS7.out.trans (Step.alloc _ wr _ _)) HA.out⟩
          case measure => simp [intOf]; omega
        · obtain rfl : j = m := by omega
          have htk : ss.take j = ss := List.take_of_length_le (by rw [HLS.out]; exact Nat.le_refl _)
          rw [htk] at hw7
          have hr4 := HW4.out.rowLt
          have ha7 := HW4.out.other hs7 (by omega) (by simp [row]) (by intro e; have := (hr4 _ e).1; omega) (by intro k _; simp [row])
          have hlen := wTexts_len ss (wNumsA size ns (0, []))
          have hk2 := wNumsA_len size ns (0, [])
          rw [HLN.out] at hk2
          have hlim : (wTexts ss (wNumsA size ns (0, []))).2.length ≤ 140737488355328 := by simp at hk2; omega
          have HA7 := Lib.hid ha7
          have HW7 := Lib.hid hw7
          clear ha7 hw7 hs7 htk hr4 hlen hk2
          generalize wTexts ss (wNumsA size ns (0, [])) = s at *
          obtain ⟨e, bs⟩ := s
          by_cases he : e = 0
          · subst he
            have HC8 := Lib.hid (bytes_ok _ _ _ _ _ wr HA7.out hlim)
            go_wp2_with fail
            refine HC8.out.mono ?_
            rintro en w8 ⟨A8, c8, rfl, hown8, hb8⟩
            have hl8 : wr.heap.size ≤ w8.heap.size := hb8.size
            have HC9 := Lib.hid (bytes_ok _ _ _ _ _ w8 (HW7.out.below hb8) hlim)
            have HS8 := Lib.hid (Src.of_own hown8)
            have HB8 := Lib.hid hb8
            clear hown8 hb8
            go_wp2_with fail
            refine HC9.out.mono ?_
            rintro en w9 ⟨A9, c9, rfl, hown9, hb9⟩
            have hcv1 := conv_string (HS8.out.keep (w' := w9) fun k _ hk => hb9.block k hk)
            have hcv2 := conv_string (Src.of_own hown9)
            have HB9 := Lib.hid hb9
            clear hown9 hb9
            go_wp2_with fail
            go_ret
            exact ⟨rfl, (HB7.out.trans (HB8.out.mono (by omega))).trans (HB9.out.mono (by omega))⟩
          · have he' : (e != 0) = true := by simpa using he
            have HC8 := Lib.hid (bytes_err _ _ _ _ _ _ wr HA7.out he')
            go_wp2_with fail
            refine HC8.out.mono ?_
            rintro en w8 ⟨rfl, hb8⟩
            have hl8 : wr.heap.size ≤ w8.heap.size := hb8.size
            have HC9 := Lib.hid (bytes_err _ _ _ _ _ _ w8 (HW7.out.below hb8) he')
            have HB8 := Lib.hid hb8
            clear hb8
            go_wp2_with fail
            refine HC9.out.mono ?_
            rintro en w9 ⟨rfl, hb9⟩
            have hcv := conv_string (src_nil w9 (fun _ => True))
            have HB9 := Lib.hid hb9
            clear hb9
            go_wp2_with fail
            go_ret
            exact ⟨rfl, (HB7.out.trans (HB8.out.mono (by omega))).trans (HB9.out.mono (by omega))⟩
end Go.Proofs.Ytkgkgagnpmhoiaa
