/-
  The document's own Add, in memory.
-/
import Derived.Test.YtpcgedngikpnoaaFE
import Derived.StillTailTactics
namespace Go.Proofs.Ytpcgedngikpnoaa.Siv
set_option maxRecDepth 100000
set_option linter.unusedSimpArgs false
set_option linter.unusedVariables false
open Go.RowKit

/-- An argument's box, a result's, and a variable's. -/
theorem three_boxes (w : World) (A : Option Addr) (n c : Nat) (s : Int) (A' : Option Addr) (n' c' : Nat) (s' : Int) :
    Bx (((w.alloc (.cells #[.slice A n c, .int .i64 s] 55)).alloc (.cells #[.slice none 0 0, .int .i64 0] 55)).alloc (.cells #[.slice A' n' c', .int .i64 s'] 55)) w.heap.size A n c s ∧
    Bx (((w.alloc (.cells #[.slice A n c, .int .i64 s] 55)).alloc (.cells #[.slice none 0 0, .int .i64 0] 55)).alloc (.cells #[.slice A' n' c', .int .i64 s'] 55)) (w.heap.size + 1) none 0 0 0 ∧
    Bx (((w.alloc (.cells #[.slice A n c, .int .i64 s] 55)).alloc (.cells #[.slice none 0 0, .int .i64 0] 55)).alloc (.cells #[.slice A' n' c', .int .i64 s'] 55)) (w.heap.size + 1 + 1) A' n' c' s' ∧
    Below w.heap.size w (((w.alloc (.cells #[.slice A n c, .int .i64 s] 55)).alloc (.cells #[.slice none 0 0, .int .i64 0] 55)).alloc (.cells #[.slice A' n' c', .int .i64 s'] 55)) ∧
    (((w.alloc (.cells #[.slice A n c, .int .i64 s] 55)).alloc (.cells #[.slice none 0 0, .int .i64 0] 55)).alloc (.cells #[.slice A' n' c', .int .i64 s'] 55)).heap.size = w.heap.size + 3 := by
  obtain ⟨h1, h2, h3, h4⟩ := two_boxes w A n c s
  have hb := (Below.refl ((w.alloc (.cells #[.slice A n c, .int .i64 s] 55)).alloc (.cells #[.slice none 0 0, .int .i64 0] 55)).heap.size ((w.alloc (.cells #[.slice A n c, .int .i64 s] 55)).alloc (.cells #[.slice none 0 0, .int .i64 0] 55))).alloc (Nat.le_refl _) (.cells #[.slice A' n' c', .int .i64 s'] 55)
  refine ⟨h1.below hb, h2.below hb, ?_, h3.trans (hb.mono (by omega)), by simp⟩
  have := Bx.new ((w.alloc (.cells #[.slice A n c, .int .i64 s] 55)).alloc (.cells #[.slice none 0 0, .int .i64 0] 55)) A' n' c' s'
  rw [h4] at this
  exact this

theorem setAll_nil (s : Nat) (l : List UInt64) : setAll s l [] = l := rfl
theorem radd_any (P : Nat → Prop) (A : Option Addr) (n c : Nat) (s : Int) (l : List UInt64) (Ah : Option Addr) (ch : Nat) (hs : List UInt32) (w : World) (hx : Src w P A n c (wds l)) (hh : Src w (fun k => k < w.heap.size) Ah hs.length ch (hsh hs)) (hm : hs.length ≤ 4611686018427387904)
    (hn : n * 8 ≤ 140737488355328) (hf : hs = [] ∨ (0 < n ∧ 0 ≤ s ∧ s ≤ 31)) :
    Calls Try.prog 55 #[flt A n c s, .slice Ah hs.length ch] w (Copied w n (setAll s.toNat l hs) s) := by
  obtain ⟨i0, hi, hz0, hz1, hz2⟩ := info_parts Try.info_word
  have HT := Lib.hid (three_boxes w A n c s none 0 0 s)
  have HX := Lib.hid (hx.lt.below HT.out.2.2.2.1 (fun _ h => h))
  have HH := Lib.hid hh
  have HF := Lib.hid hf
  have HL := Lib.hid (show l.length = n by simpa [wds_len] using hx.len)
  have h1 := wds_one l
  have m1 : 0 + n ≤ maxLen := by simp only [maxLen]; omega
  have m2 : (0 + n) * 8 ≤ 140737488355328 := by omega
  clear hf hx hh
  go_enter Try.func55, Try.ntmps55
  go_wp2_with (at_builtin; refine wpList_append_src rfl (.tmp 13) (.tmp 15) _ rfl w.heap.size 89 i0 _ 8 Try.underlying53 hi hz0 hz1 hz2 rfl (.slice none 0 0) 0 [] rfl (World.ownsRow_nil _ _ _ _) _ A n c (wds l) rfl HX.out h1 m1 m2 (by simp; omega) ?_; intro v' w1 hown hg hat; obtain ⟨A', c', rfl⟩ := own_slice hown; have HB1 := Lib.hid (HT.out.1.grown hg (by simp [Value.ownBlock])); have HB2 := Lib.hid (HT.out.2.1.grown hg (by simp [Value.ownBlock])); have HB3 := Lib.hid (HT.out.2.2.1.grown hg (by simp [Value.ownBlock])); have j0 := HB3.out.c0; have j1 := HB3.out.f0 0; have HBW := Lib.hid (HT.out.2.2.2.1.grown hg (by have := HT.out.2.2.2.1.size; exact this) (by intro k hk; cases hk)); have HO := Lib.hid hown; have HAT := Lib.hid hat; clear hown hg hat)
  have hB3 : Bx (w1.setCell ⟨w.heap.size + 1 + 1, 0, none⟩ (.slice A' n c')) (w.heap.size + 1 + 1) A' n c' s := heap_setCell_same w1 (w.heap.size + 1 + 1) 0 _ _ _ HB3.out
  have hB1 := HB1.out.setCell (a := ⟨w.heap.size + 1 + 1, 0, none⟩) (by show w.heap.size ≠ w.heap.size + 1 + 1; omega) (.slice A' n c')
  have hB2 := HB2.out.setCell (a := ⟨w.heap.size + 1 + 1, 0, none⟩) (by show w.heap.size + 1 ≠ w.heap.size + 1 + 1; omega) (.slice A' n c')
  have hb := HBW.out.setCell (p := ⟨w.heap.size + 1 + 1, 0, none⟩) (by show w.heap.size ≤ w.heap.size + 1 + 1; omega) (.slice A' n c')
  have hrow : ∀ g, row A' = some g → w.heap.size + 1 + 1 < g := by
    intro g hg
    rcases HAT.out with h | h
    · rw [row_own] at h; rw [hg] at h; cases h
    · rw [row_own] at h; rw [hg] at h; injection h with h; have := HT.out.2.2.2.2; omega
  have ho : (w1.setCell ⟨w.heap.size + 1 + 1, 0, none⟩ (.slice A' n c')).ownsRow w.heap.size 89 1 (.slice A' n c') n (wds l) := by
    have h := HO.out
    simp only [Nat.zero_add, List.nil_append] at h
    exact ownsRow_setCell_other h (by rw [row_own]; intro e; have := hrow _ e; exact absurd this (Nat.lt_irrefl _)) _
  have HR := Lib.hid hrow
  generalize w1.setCell ⟨w.heap.size + 1 + 1, 0, none⟩ (.slice A' n c') = w5 at hB1 hB2 hB3 hb ho ⊢
  clear HB1 HB2 HB3 HBW HO HAT HT HX j0 j1 hi hz0 hz1 hz2 h1 m1 m2 hrow
  go_loopw [6] (fun i wr => ∃ k : Nat, k ≤ hs.length ∧ i = .int .i64 k ∧ Bx wr w.heap.size A n c s ∧ Bx wr (w.heap.size + 1) none 0 0 0 ∧ Bx wr (w.heap.size + 1 + 1) A' n c' s ∧ Below w.heap.size w wr ∧ wr.ownsRow w.heap.size 89 1 (.slice A' n c') n (wds (setAll s.toNat l (hs.take k)))) (fun i _ => hs.length - (intOf i).toNat)
  case atStart => exact ⟨0, Nat.zero_le _, rfl, hB1, hB2, hB3, hb, ho⟩
  case round =>
    clear hB1 hB2 hB3 hb ho
    obtain ⟨k, hk, rfl, hB1, hB2, hB3, hb, ho⟩ := hrel
    by_cases hlt : k < hs.length
    · have hne : hs ≠ [] := by intro e; rw [e] at hlt; simp at hlt
      obtain ⟨p0, p1, p2⟩ : 0 < n ∧ 0 ≤ s ∧ s ≤ 31 := HF.out.resolve_left hne
      obtain ⟨g, rfl, hg1, hg2⟩ := own_some ho p0
      obtain ⟨s, rfl⟩ : ∃ k : Nat, s = k := ⟨s.toNat, by omega⟩
      cases Ah with
      | none => have := (HH.out.nil rfl).1; omega
      | some ad =>
        have hc := (HH.out.below hb (fun _ h => h)).at_ ad rfl k _ (hsh_get hs k hlt)
        have HS := Lib.hid (setAll_take s l hs k hlt)
        have HL2 := Lib.hid ((setAll_len s l (hs.take k)).trans HL.out)
        rw [show ((s : Int).toNat) = s by simp] at ho ⊢
        generalize setAll s l (hs.take k) = cur at ho HS HL2
        generalize hs[k] = h at hc HS
        have hi := idx_lt n h p0
        have h32 := h.toNat_lt
        have hma : (h.toNat : Int) % 64 = ((h.toNat % 64 : Nat) : Int) := by simp
        generalize hxa : h.toNat % 64 = a at hma
        have hmt : (h.toNat : Int).tmod 64 = (a : Int) := by rw [Int.tmod_eq_emod_of_nonneg (by omega)]; exact hma
        have ha : a < 64 := by omega
        have hx2 : h.toNat / 2 ^ s ≤ h.toNat := Nat.div_le_self _ _
        generalize hxx : h.toNat / 2 ^ s = x at hx2
        have hmb : (x : Int) % 64 = ((x % 64 : Nat) : Int) := by simp
        generalize hxb : x % 64 = b at hmb
        have hmu : (x : Int).tmod 64 = (b : Int) := by rw [Int.tmod_eq_emod_of_nonneg (by omega)]; exact hmb
        have hbb : b < 64 := by omega
        have HSH := Lib.hid (fun w : World => rshifted_nat h s x w (by omega) hxx)
        have HXX := Lib.hid hxx
        have HXA := Lib.hid hxa
        have HXB := Lib.hid hxb
        have hix : (h.toNat : Int) / 64 % (n : Int) = (idx n h : Nat) := by simp [idx]
        clear hxx hxa hxb
        have k1 := hB1.c0
        have k2 := hB1.c1
        have k3 := hB3.c0
        have k4 := hB3.c1
        have k5 := ho.cellAt (idx n h) (by omega)
        rw [wds_get _ _ (by rw [HL2.out]; exact hi)] at k5
        have k6 := ho.frozenAt (idx n h)
        have HB1 := Lib.hid hB1
        have HB2 := Lib.hid hB2
        have HB3 := Lib.hid hB3
        have HB := Lib.hid hb
        have HO := Lib.hid ho
        clear hB1 hB2 hB3 hb ho
        have hcw : ∀ w : World, Calls Try.prog 63 #[u64v (wd cur (idx n h)), u32n a] w fun e w' => e = .returned (u64v (wd cur (idx n h) ||| bit a)) ∧ w' = w := fun w => (rwith_any (wd cur (idx n h)) a w ha).mono (fun e w' h => ⟨h.1, h.2.symm⟩)
        generalize hy : wd cur (idx n h) ||| bit a = y at hcw
        have HY := Lib.hid hy
        have HCW := Lib.hid hcw
        clear hy hcw
        go_wp2
        go_still_tail 11, (by kernel_rfl)
        refine wpStill_step (fun K hK => ?_)
        go_simp
        refine ⟨_, HCW.out _, hK _ ?_⟩
        clear hK K
        refine wpStill_nil ?_
        change wpList _ _ _ _ _ wr.drew
        go_wp2
        have hB1 := (HB1.out.setCell (a := ⟨g, idx n h, none⟩) (by show w.heap.size ≠ g; have := HR.out g rfl; omega) (u64v y)).below (drew_below _)
        have hB2 := (HB2.out.setCell (a := ⟨g, idx n h, none⟩) (by show w.heap.size + 1 ≠ g; have := HR.out g rfl; omega) (u64v y)).below (drew_below _)
        have hB3 := (HB3.out.setCell (a := ⟨g, idx n h, none⟩) (by show w.heap.size + 1 + 1 ≠ g; have := HR.out g rfl; omega) (u64v y)).below (drew_below _)
        have hb := (HB.out.setCell (p := ⟨g, idx n h, none⟩) (by exact hg1) (u64v y)).drew
        have ho := own_below (HO.out.stored (idx n h) (u64v y)).1 (drew_below _)
        generalize (wr.setCell ⟨g, idx n h, none⟩ (u64v y)).drew = w6 at hB1 hB2 hB3 hb ho ⊢
        rw [← wds_set] at ho
        clear HB1 HB2 HB3 HB HO k1 k2 k3 k4 k5 k6 hc HCW
        have k1 := hB1.c0
        have k2 := hB1.c1
        have k3 := hB3.c0
        have k4 := hB3.c1
        have k5 := ho.cellAt (idx n h) (by omega)
        rw [wds_get _ _ (by rw [List.length_set, HL2.out]; exact hi)] at k5
        have hwd : wd (cur.set (idx n h) y) (idx n h) = y := by
          have := HL2.out
          simp [wd, this, hi]
        rw [hwd] at k5
        have k6 := ho.frozenAt (idx n h)
        clear hwd
        have hcw : ∀ w : World, Calls Try.prog 63 #[u64v y, u32n b] w fun e w' => e = .returned (u64v (y ||| bit b)) ∧ w' = w := fun w => (rwith_any y b w hbb).mono (fun e w' h => ⟨h.1, h.2.symm⟩)
        generalize hz : y ||| bit b = z at hcw
        have HSET := Lib.hid (show setW s cur h = (cur.set (idx n h) y).set (idx n h) z by
          rw [List.set_set, setW, HL2.out, msk, HXA.out, HXX.out, HXB.out, ← UInt64.or_assoc, HY.out, hz])
        have HCW := Lib.hid hcw
        have HB1 := Lib.hid hB1
        have HB2 := Lib.hid hB2
        have HB3 := Lib.hid hB3
        have HB := Lib.hid hb
        have HO := Lib.hid ho
        clear hB1 hB2 hB3 hb ho hz hcw
        generalize cur.set (idx n h) y = cur2 at HO HSET
        clear HXA HXX HXB hma hmt hmb
        go_still_tail 14, (by kernel_rfl)
        refine wpStill_step (fun K hK => ?_)
        go_simp
        refine ⟨_, (HSH.out _).mono (fun e w' h => ⟨h.1, h.2.symm⟩), hK _ ?_⟩
        clear hK K
        repeat still_step
        refine wpStill_step (fun K hK => ?_)
        go_simp
        refine ⟨_, HCW.out _, hK _ ?_⟩
        clear hK K
        refine wpStill_nil ?_
        change wpList _ _ _ _ _ w6.drew
        go_wp2
        have e : wds ((cur2).set (idx n h) z) = (wds cur2).set (idx n h) (u64v z) := wds_set _ _ _
        go_roundw
        case rel =>
          refine ⟨k + 1, by omega, by go_num, (HB1.out.setCell (a := ⟨g, idx n h, none⟩) (by show w.heap.size ≠ g; have := HR.out g rfl; omega) (u64v z)).below (drew_below _), (HB2.out.setCell (a := ⟨g, idx n h, none⟩) (by show w.heap.size + 1 ≠ g; have := HR.out g rfl; omega) (u64v z)).below (drew_below _), (HB3.out.setCell (a := ⟨g, idx n h, none⟩) (by show w.heap.size + 1 + 1 ≠ g; have := HR.out g rfl; omega) (u64v z)).below (drew_below _), (HB.out.setCell (p := ⟨g, idx n h, none⟩) (by exact hg1) (u64v z)).drew, ?_⟩
          rw [HS.out, HSET.out, e]
          exact own_below (HO.out.stored (idx n h) (u64v z)).1 (drew_below _)
        case measure => simp [intOf]; omega
    · obtain rfl : k = hs.length := by omega
      rw [List.take_of_length_le (Nat.le_refl _)] at ho
      have k0 := hB3.c0
      have k1 := hB3.c1
      have k2 := hB2.c0
      have k3 := hB2.c1
      have k4 := hB2.f0 0
      have k5 := hB2.f0 1
      have HB2 := Lib.hid hB2
      have HB := Lib.hid hb
      have HO := Lib.hid ho
      clear hB1 hB2 hB3 hb ho
      go_wp2
      have hq := HB2.out.over A' n c' s
      have q0 := hq.c0
      have q1 := hq.c1
      have hrw : ∀ j, (Value.slice A' n c').ownBlock ≠ some (⟨w.heap.size + 1, j, none⟩ : Addr).block := fun j e => by
        rw [row_own] at e
        have := HR.out _ e
        have h' : w.heap.size + 1 + 1 < w.heap.size + 1 := this
        omega
      have how := ownsRow_setCell_other (ownsRow_setCell_other HO.out (hrw 0) (.slice A' n c')) (hrw 1) (.int .i64 s)
      have hbw := (HB.out.setCell (p := ⟨w.heap.size + 1, 0, none⟩) (by show w.heap.size ≤ w.heap.size + 1; omega) (.slice A' n c')).setCell (p := ⟨w.heap.size + 1, 1, none⟩) (by show w.heap.size ≤ w.heap.size + 1; omega) (.int .i64 s)
      generalize (wr.setCell ⟨w.heap.size + 1, 0, none⟩ (.slice A' n c')).setCell ⟨w.heap.size + 1, 1, none⟩ (.int .i64 s) = w3 at q0 q1 how hbw ⊢
      exact bodyPost_ret (v := flt A' n c' s) (by simp [results, Try.results55, go_sem, q0, q1]) rfl ⟨A', c', rfl, how, hbw⟩
end Go.Proofs.Ytpcgedngikpnoaa.Siv
