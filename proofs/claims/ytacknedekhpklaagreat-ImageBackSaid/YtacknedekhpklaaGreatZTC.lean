/-
  The document's own Add, in memory.
  Numbers of buckets and words; a name's bucket.
  The hashes of names that are seen.
  Buckets that are filled: rows of places, each a row of its own.
-/
import Derived.Test.YtacknedekhpklaaGreatZFE
import Derived.StillTailTactics
import Derived.Test.YtacknedekhpklaaGreatZCZa
import Derived.Test.YtacknedekhpklaaGreatZCA
import Derived.Deep.Cut
import Derived.Deep.RegionHeld3
namespace Go.Proofs.YtacknedekhpklaaGreat.Siv
set_option maxRecDepth 100000
set_option linter.unusedSimpArgs false
set_option linter.unusedVariables false
open Go.RowKit

/-- An argument's box, a result's, and a variable's. -/
theorem three_boxes (w : World) (A : Option Addr) (n c : Nat) (s : Int) (A' : Option Addr) (n' c' : Nat) (s' : Int) :
    Bx (((w.alloc (.cells #[.slice A n c, .int .i64 s] 30)).alloc (.cells #[.slice none 0 0, .int .i64 0] 30)).alloc (.cells #[.slice A' n' c', .int .i64 s'] 30)) w.heap.size A n c s ∧
    Bx (((w.alloc (.cells #[.slice A n c, .int .i64 s] 30)).alloc (.cells #[.slice none 0 0, .int .i64 0] 30)).alloc (.cells #[.slice A' n' c', .int .i64 s'] 30)) (w.heap.size + 1) none 0 0 0 ∧
    Bx (((w.alloc (.cells #[.slice A n c, .int .i64 s] 30)).alloc (.cells #[.slice none 0 0, .int .i64 0] 30)).alloc (.cells #[.slice A' n' c', .int .i64 s'] 30)) (w.heap.size + 1 + 1) A' n' c' s' ∧
    Below w.heap.size w (((w.alloc (.cells #[.slice A n c, .int .i64 s] 30)).alloc (.cells #[.slice none 0 0, .int .i64 0] 30)).alloc (.cells #[.slice A' n' c', .int .i64 s'] 30)) ∧
    (((w.alloc (.cells #[.slice A n c, .int .i64 s] 30)).alloc (.cells #[.slice none 0 0, .int .i64 0] 30)).alloc (.cells #[.slice A' n' c', .int .i64 s'] 30)).heap.size = w.heap.size + 3 := by
  obtain ⟨h1, h2, h3, h4⟩ := two_boxes w A n c s
  have hb := (Below.refl ((w.alloc (.cells #[.slice A n c, .int .i64 s] 30)).alloc (.cells #[.slice none 0 0, .int .i64 0] 30)).heap.size ((w.alloc (.cells #[.slice A n c, .int .i64 s] 30)).alloc (.cells #[.slice none 0 0, .int .i64 0] 30))).alloc (Nat.le_refl _) (.cells #[.slice A' n' c', .int .i64 s'] 30)
  refine ⟨h1.below hb, h2.below hb, ?_, h3.trans (hb.mono (by omega)), by simp⟩
  have := Bx.new ((w.alloc (.cells #[.slice A n c, .int .i64 s] 30)).alloc (.cells #[.slice none 0 0, .int .i64 0] 30)) A' n' c' s'
  rw [h4] at this
  exact this

theorem radd_any (P : Nat → Prop) (A : Option Addr) (n c : Nat) (s : Int) (l : List UInt64) (Ah : Option Addr) (ch : Nat) (hs : List UInt32) (w : World) (hx : Src w P A n c (wds l)) (hh : Src w (fun k => k < w.heap.size) Ah hs.length ch (hsh hs)) (hm : hs.length ≤ 4611686018427387904)
    (hn : n * 8 ≤ 140737488355328) (hf : hs = [] ∨ (0 < n ∧ 0 ≤ s ∧ s ≤ 31)) :
    Calls Tryz.prog 22 #[flt A n c s, .slice Ah hs.length ch] w (Copied w n (setAll s.toNat l hs) s) := by
  obtain ⟨i0, hi, hz0, hz1, hz2⟩ := info_parts Tryz.info_word
  have HT := Lib.hid (three_boxes w A n c s none 0 0 s)
  have HX := Lib.hid (hx.lt.below HT.out.2.2.2.1 (fun _ h => h))
  have HH := Lib.hid hh
  have HF := Lib.hid hf
  have HL := Lib.hid (show l.length = n by simpa [wds_len] using hx.len)
  have h1 := wds_one l
  have m1 : 0 + n ≤ maxLen := by simp only [maxLen]; omega
  have m2 : (0 + n) * 8 ≤ 140737488355328 := by omega
  clear hf hx hh
  go_enter Tryz.func22, Tryz.ntmps22
  go_wp2_with (at_builtin; refine wpList_append_src rfl (.tmp 13) (.tmp 15) _ rfl w.heap.size 67 i0 _ 8 Tryz.underlying28 hi hz0 hz1 hz2 rfl (.slice none 0 0) 0 [] rfl (World.ownsRow_nil _ _ _ _) _ A n c (wds l) rfl HX.out h1 m1 m2 (by simp; omega) ?_; intro v' w1 hown hg hat; obtain ⟨A', c', rfl⟩ := own_slice hown; have HB1 := Lib.hid (HT.out.1.grown hg (by simp [Value.ownBlock])); have HB2 := Lib.hid (HT.out.2.1.grown hg (by simp [Value.ownBlock])); have HB3 := Lib.hid (HT.out.2.2.1.grown hg (by simp [Value.ownBlock])); have j0 := HB3.out.c0; have j1 := HB3.out.f0 0; have HBW := Lib.hid (HT.out.2.2.2.1.grown hg (by have := HT.out.2.2.2.1.size; exact this) (by intro k hk; cases hk)); have HO := Lib.hid hown; have HAT := Lib.hid hat; clear hown hg hat)
  have hB3 : Bx (w1.setCell ⟨w.heap.size + 1 + 1, 0, none⟩ (.slice A' n c')) (w.heap.size + 1 + 1) A' n c' s := heap_setCell_same w1 (w.heap.size + 1 + 1) 0 _ _ _ HB3.out
  have hB1 := HB1.out.setCell (a := ⟨w.heap.size + 1 + 1, 0, none⟩) (by show w.heap.size ≠ w.heap.size + 1 + 1; omega) (.slice A' n c')
  have hB2 := HB2.out.setCell (a := ⟨w.heap.size + 1 + 1, 0, none⟩) (by show w.heap.size + 1 ≠ w.heap.size + 1 + 1; omega) (.slice A' n c')
  have hb := HBW.out.setCell (p := ⟨w.heap.size + 1 + 1, 0, none⟩) (by show w.heap.size ≤ w.heap.size + 1 + 1; omega) (.slice A' n c')
  have hrow : ∀ g, row A' = some g → w.heap.size + 1 + 1 < g := by
    intro g hg
    rcases HAT.out with h | h
    · rw [row_own] at h; rw [hg] at h; cases h
    · rw [row_own] at h; rw [hg] at h; injection h with h; have := HT.out.2.2.2.2; omega
  have ho : (w1.setCell ⟨w.heap.size + 1 + 1, 0, none⟩ (.slice A' n c')).ownsRow w.heap.size 67 1 (.slice A' n c') n (wds l) := by
    have h := HO.out
    simp only [Nat.zero_add, List.nil_append] at h
    exact ownsRow_setCell_other h (by rw [row_own]; intro e; have := hrow _ e; exact absurd this (Nat.lt_irrefl _)) _
  have HR := Lib.hid hrow
  generalize w1.setCell ⟨w.heap.size + 1 + 1, 0, none⟩ (.slice A' n c') = w5 at hB1 hB2 hB3 hb ho ⊢
  clear HB1 HB2 HB3 HBW HO HAT HT HX j0 j1 hi hz0 hz1 hz2 h1 m1 m2 hrow
  go_loopw [6] (fun i wr => ∃ k : Nat, k ≤ hs.length ∧ i = .int .i64 k ∧ Bx wr w.heap.size A n c s ∧ Bx wr (w.heap.size + 1) none 0 0 0 ∧ Bx wr (w.heap.size + 1 + 1) A' n c' s ∧ Below w.heap.size w wr ∧ wr.ownsRow w.heap.size 67 1 (.slice A' n c') n (wds (setAll s.toNat l (hs.take k)))) (fun i _ => hs.length - (intOf i).toNat)
  case atStart => exact ⟨0, Nat.zero_le _, rfl, hB1, hB2, hB3, hb, ho⟩
  case round =>
    clear hB1 hB2 hB3 hb ho
    obtain ⟨k, hk, rfl, hB1, hB2, hB3, hb, ho⟩ := hrel
    by_cases hlt : k < hs.length
    · have hne : hs ≠ [] := by intro e; rw [e] at hlt; simp at hlt
      obtain ⟨p0, p1, p2⟩ : 0 < n ∧ 0 ≤ s ∧ s ≤ 31 := HF.out.resolve_left hne
      obtain ⟨g, rfl, hg1, hg2⟩ := own_some ho p0
      obtain ⟨s, rfl⟩ : ∃ k : Nat, s = k := ⟨s.toNat, by omega⟩
      cases Ah with
      | none => have := (HH.out.nil rfl).1; omega
      | some ad =>
        have hc := (HH.out.below hb (fun _ h => h)).at_ ad rfl k _ (hsh_get hs k hlt)
        have HS := Lib.hid (setAll_take s l hs k hlt)
        have HL2 := Lib.hid ((setAll_len s l (hs.take k)).trans HL.out)
        rw [show ((s : Int).toNat) = s by simp] at ho ⊢
        generalize setAll s l (hs.take k) = cur at ho HS HL2
        generalize hs[k] = h at hc HS
        have hi := idx_lt n h p0
        have h32 := h.toNat_lt
        have hma : (h.toNat : Int) % 64 = ((h.toNat % 64 : Nat) : Int) := by simp
        generalize hxa : h.toNat % 64 = a at hma
        have hmt : (h.toNat : Int).tmod 64 = (a : Int) := by rw [Int.tmod_eq_emod_of_nonneg (by omega)]; exact hma
        have ha : a < 64 := by omega
        have hx2 : h.toNat / 2 ^ s ≤ h.toNat := Nat.div_le_self _ _
        generalize hxx : h.toNat / 2 ^ s = x at hx2
        have hmb : (x : Int) % 64 = ((x % 64 : Nat) : Int) := by simp
        generalize hxb : x % 64 = b at hmb
        have hmu : (x : Int).tmod 64 = (b : Int) := by rw [Int.tmod_eq_emod_of_nonneg (by omega)]; exact hmb
        have hbb : b < 64 := by omega
        have HSH := Lib.hid (fun w : World => rshifted_nat h s x w (by omega) hxx)
        have HXX := Lib.hid hxx
        have HXA := Lib.hid hxa
        have HXB := Lib.hid hxb
        have hix : (h.toNat : Int) / 64 % (n : Int) = (idx n h : Nat) := by simp [idx]
        clear hxx hxa hxb
        have k1 := hB1.c0
        have k2 := hB1.c1
        have k3 := hB3.c0
        have k4 := hB3.c1
        have k5 := ho.cellAt (idx n h) (by omega)
        rw [wds_get _ _ (by rw [HL2.out]; exact hi)] at k5
        have k6 := ho.frozenAt (idx n h)
        have HB1 := Lib.hid hB1
        have HB2 := Lib.hid hB2
        have HB3 := Lib.hid hB3
        have HB := Lib.hid hb
        have HO := Lib.hid ho
        clear hB1 hB2 hB3 hb ho
        have hcw : ∀ w : World, Calls Tryz.prog 54 #[u64v (wd cur (idx n h)), u32n a] w fun e w' => e = .returned (u64v (wd cur (idx n h) ||| bit a)) ∧ w' = w := fun w => (rwith_any (wd cur (idx n h)) a w ha).mono (fun e w' h => ⟨h.1, h.2.symm⟩)
        generalize hy : wd cur (idx n h) ||| bit a = y at hcw
        have HY := Lib.hid hy
        have HCW := Lib.hid hcw
        clear hy hcw
        go_wp2
        go_still_tail 11, (by kernel_rfl)
        refine wpStill_step (fun K hK => ?_)
        go_simp
        refine ⟨_, HCW.out _, hK _ ?_⟩
        clear hK K
        refine wpStill_nil ?_
        change wpList _ _ _ _ _ wr.drew
        go_wp2
        have hB1 := (HB1.out.setCell (a := ⟨g, idx n h, none⟩) (by show w.heap.size ≠ g; have := HR.out g rfl; omega) (u64v y)).below (drew_below _)
        have hB2 := (HB2.out.setCell (a := ⟨g, idx n h, none⟩) (by show w.heap.size + 1 ≠ g; have := HR.out g rfl; omega) (u64v y)).below (drew_below _)
        have hB3 := (HB3.out.setCell (a := ⟨g, idx n h, none⟩) (by show w.heap.size + 1 + 1 ≠ g; have := HR.out g rfl; omega) (u64v y)).below (drew_below _)
        have hb := (HB.out.setCell (p := ⟨g, idx n h, none⟩) (by exact hg1) (u64v y)).drew
        have ho := own_below (HO.out.stored (idx n h) (u64v y)).1 (drew_below _)
        generalize (wr.setCell ⟨g, idx n h, none⟩ (u64v y)).drew = w6 at hB1 hB2 hB3 hb ho ⊢
        rw [← wds_set] at ho
        clear HB1 HB2 HB3 HB HO k1 k2 k3 k4 k5 k6 hc HCW
        have k1 := hB1.c0
        have k2 := hB1.c1
        have k3 := hB3.c0
        have k4 := hB3.c1
        have k5 := ho.cellAt (idx n h) (by omega)
        rw [wds_get _ _ (by rw [List.length_set, HL2.out]; exact hi)] at k5
        have hwd : wd (cur.set (idx n h) y) (idx n h) = y := by
          have := HL2.out
          simp [wd, this, hi]
        rw [hwd] at k5
        have k6 := ho.frozenAt (idx n h)
        clear hwd
        have hcw : ∀ w : World, Calls Tryz.prog 54 #[u64v y, u32n b] w fun e w' => e = .returned (u64v (y ||| bit b)) ∧ w' = w := fun w => (rwith_any y b w hbb).mono (fun e w' h => ⟨h.1, h.2.symm⟩)
        generalize hz : y ||| bit b = z at hcw
        have HSET := Lib.hid (show setW s cur h = (cur.set (idx n h) y).set (idx n h) z by
          rw [List.set_set, setW, HL2.out, msk, HXA.out, HXX.out, HXB.out, ← UInt64.or_assoc, HY.out, hz])
        have HCW := Lib.hid hcw
        have HB1 := Lib.hid hB1
        have HB2 := Lib.hid hB2
        have HB3 := Lib.hid hB3
        have HB := Lib.hid hb
        have HO := Lib.hid ho
        clear hB1 hB2 hB3 hb ho hz hcw
        generalize cur.set (idx n h) y = cur2 at HO HSET
        clear HXA HXX HXB hma hmt hmb
        go_still_tail 14, (by kernel_rfl)
        refine wpStill_step (fun K hK => ?_)
        go_simp
        refine ⟨_, (HSH.out _).mono (fun e w' h => ⟨h.1, h.2.symm⟩), hK _ ?_⟩
        clear hK K
        repeat still_step
        refine wpStill_step (fun K hK => ?_)
        go_simp
        refine ⟨_, HCW.out _, hK _ ?_⟩
        clear hK K
        refine wpStill_nil ?_
        change wpList _ _ _ _ _ w6.drew
        go_wp2
        have e : wds ((cur2).set (idx n h) z) = (wds cur2).set (idx n h) (u64v z) := wds_set _ _ _
        go_roundw
        case rel =>
          refine ⟨k + 1, by omega, by go_num, (HB1.out.setCell (a := ⟨g, idx n h, none⟩) (by show w.heap.size ≠ g; have := HR.out g rfl; omega) (u64v z)).below (drew_below _), (HB2.out.setCell (a := ⟨g, idx n h, none⟩) (by show w.heap.size + 1 ≠ g; have := HR.out g rfl; omega) (u64v z)).below (drew_below _), (HB3.out.setCell (a := ⟨g, idx n h, none⟩) (by show w.heap.size + 1 + 1 ≠ g; have := HR.out g rfl; omega) (u64v z)).below (drew_below _), (HB.out.setCell (p := ⟨g, idx n h, none⟩) (by exact hg1) (u64v z)).drew, ?_⟩
          rw [HS.out, HSET.out, e]
          exact own_below (HO.out.stored (idx n h) (u64v z)).1 (drew_below _)
        case measure => simp [intOf]; omega
    · obtain rfl : k = hs.length := by omega
      rw [List.take_of_length_le (Nat.le_refl _)] at ho
      have k0 := hB3.c0
      have k1 := hB3.c1
      have k2 := hB2.c0
      have k3 := hB2.c1
      have k4 := hB2.f0 0
      have k5 := hB2.f0 1
      have HB2 := Lib.hid hB2
      have HB := Lib.hid hb
      have HO := Lib.hid ho
      clear hB1 hB2 hB3 hb ho
      go_wp2
      have hq := HB2.out.over A' n c' s
      have q0 := hq.c0
      have q1 := hq.c1
      have hrw : ∀ j, (Value.slice A' n c').ownBlock ≠ some (⟨w.heap.size + 1, j, none⟩ : Addr).block := fun j e => by
        rw [row_own] at e
        have := HR.out _ e
        have h' : w.heap.size + 1 + 1 < w.heap.size + 1 := this
        omega
      have how := ownsRow_setCell_other (ownsRow_setCell_other HO.out (hrw 0) (.slice A' n c')) (hrw 1) (.int .i64 s)
      have hbw := (HB.out.setCell (p := ⟨w.heap.size + 1, 0, none⟩) (by show w.heap.size ≤ w.heap.size + 1; omega) (.slice A' n c')).setCell (p := ⟨w.heap.size + 1, 1, none⟩) (by show w.heap.size ≤ w.heap.size + 1; omega) (.int .i64 s)
      generalize (wr.setCell ⟨w.heap.size + 1, 0, none⟩ (.slice A' n c')).setCell ⟨w.heap.size + 1, 1, none⟩ (.int .i64 s) = w3 at q0 q1 how hbw ⊢
      exact bodyPost_ret (v := flt A' n c' s) (by simp [results, Tryz.results22, go_sem, q0, q1]) rfl ⟨A', c', rfl, how, hbw⟩
end Go.Proofs.YtacknedekhpklaaGreat.Siv

namespace Go.Proofs.YtacknedekhpklaaGreat
set_option maxRecDepth 100000
set_option linter.unusedSimpArgs false
set_option linter.unusedVariables false
open Go.RowKit

theorem ret_i {x y : Int} (h : x = y) : Ending.returned (.int .i64 x) = .returned (.int .i64 y) := by rw [h]
def cntT (n : Int) : Int := if n ≤ 4 then 1 else (n + 3) / 4
set_option maxRecDepth 100000 in
theorem qcount_any (n : Int) (hn : I64 n) (w : World) : Calls Tryz.prog 142 #[.int .i64 n] w fun e w' => e = .returned (.int .i64 (cntT n)) ∧ w = w' := by
  unfold I64 at hn
  have hc : cntT n = if n ≤ 4 then 1 else (n + 3) / 4 := rfl
  by_cases h1 : n < 1
  · have HM := Lib.hid (show 1 = cntT n by rw [hc]; split <;> omega)
    have hd : decide (n < 1) = true := decide_eq_true h1
    clear hc hn
    go_enter Tryz.func142, Tryz.ntmps142
    go_wp2_with fail
    go_ret
    exact ⟨ret_i HM.out, rfl⟩
  · have hd : decide (n < 1) = false := decide_eq_false h1
    have hq : n.tdiv 4 = n / 4 := Int.tdiv_eq_ediv_of_nonneg (by omega)
    have hr : n.tmod 4 = n % 4 := Int.tmod_eq_emod_of_nonneg (by omega)
    have hw1 : wrap64 (n / 4) = n / 4 := IntWalk.wrap64_in _ (by omega)
    have hw2 : wrap64 (n / 4 + 1) = n / 4 + 1 := IntWalk.wrap64_in _ (by omega)
    by_cases hr0 : n % 4 = 0
    · have hm : cntT n = n / 4 := by rw [hc]; split <;> omega
      have HM := Lib.hid hm
      clear hc hn hm
      go_enter Tryz.func142, Tryz.ntmps142
      go_wp2_with fail
      first | go_ret | skip
      exact ⟨ret_i HM.out.symm, rfl⟩
    · have HM := Lib.hid (show cntT n = n / 4 + 1 by rw [hc]; split <;> omega)
      have hd2 : (n % 4 != 0) = true := by simpa using hr0
      have hd3 : (n % 4 == 0) = false := by simpa using hr0
      clear hc hn
      go_enter Tryz.func142, Tryz.ntmps142
      go_wp2_with fail
      first | go_ret | skip
      exact ⟨ret_i HM.out.symm, rfl⟩
theorem cnt_pos (n : Int) : 1 ≤ cntT n := by unfold cntT; split <;> omega
/-- The bucket of a hash among so many. -/
def bkt (h : UInt32) (k : Nat) : Nat := h.toNat % k
theorem bkt_lt (h : UInt32) {k : Nat} (hk : 0 < k) : bkt h k < k := Nat.mod_lt _ hk
theorem bucket_any (h : UInt32) (k : Nat) (hk : 0 < k) (hk2 : k ≤ 9223372036854775807) (w : World) : Calls Tryz.prog 204 #[.int .u32 (h.toNat : Int), .int .i64 (k : Int)] w fun e w' => e = .returned (.int .i64 (bkt h k : Int)) ∧ w = w' := by
  have hlt := h.toNat_lt
  have hk0 : ((k : Int) == 0) = false := by simp; omega
  have HM := Lib.hid (show ((h.toNat : Int).tmod (k : Int)) = (bkt h k : Int) by rw [Int.tmod_eq_emod_of_nonneg (by omega)]; rfl)
  have hb := bkt_lt h hk
  have hw1 : wrap64 (h.toNat : Int) = (h.toNat : Int) := IntWalk.wrap64_in _ (by omega)
  have HW2 := Lib.hid (show wrap64 (bkt h k : Int) = (bkt h k : Int) from IntWalk.wrap64_in _ (by omega))
  have hm := HM.out
  have hw2 := HW2.out
  clear hlt hb
  generalize h.toNat = hn at *
  go_enter Tryz.func204, Tryz.ntmps204
  go_wp2_with fail
  first | go_ret | skip
  exact ⟨rfl, rfl⟩
/-- A name's hash. -/
def hashS (l : Str) : UInt32 := Siv.hashFrom 5381 l
abbrev hv (h : UInt32) : Value := .int .u32 (h.toNat : Int)
theorem thash_any (l : Str) (w : World) (hl : l.length ≤ 9223372036854775807) : Calls Tryz.prog 160 #[str l] w fun e w' => e = .returned (hv (hashS l)) ∧ w = w' :=
  Siv.hash_any ⟨l.toArray⟩ w (by simpa [ByteArray.size] using hl)
theorem qhash_any (l : Str) (w : World) (hl : l.length ≤ 9223372036854775807) : Calls Tryz.prog 92 #[str l] w fun e w' => e = .returned (hv (hashS l)) ∧ w = w' :=
  Siv.rhash_any ⟨l.toArray⟩ w (by simpa [ByteArray.size] using hl)
theorem home_any (l : Str) (k : Nat) (hk : 0 < k) (hk2 : k ≤ 9223372036854775807) (w : World) (hl : l.length ≤ 9223372036854775807) : Calls Tryz.prog 90 #[str l, .int .i64 (k : Int)] w fun e w' => e = .returned (.int .i64 (bkt (hashS l) k : Int)) ∧ w = w' := by
  have HH := Lib.hid (fun X => qhash_any l X hl)
  generalize hashS l = h at *
  have hlt := h.toNat_lt
  have hb := bkt_lt h hk
  have hw1 : IntKind.u64.wrap (h.toNat : Int) = (h.toNat : Int) := by rw [IntKind.wrap_u64]; omega
  have hw2 : IntKind.u64.wrap (k : Int) = (k : Int) := by rw [IntKind.wrap_u64]; omega
  have hk0 : ((k : Int) == 0) = false := by simp; omega
  have HM := Lib.hid (show ((h.toNat : Int).tmod (k : Int)) = (bkt h k : Int) by rw [Int.tmod_eq_emod_of_nonneg (by omega)]; rfl)
  have hm := HM.out
  have hw3 : wrap64 (bkt h k : Int) = (bkt h k : Int) := IntWalk.wrap64_in _ (by omega)
  have hw4 : IntKind.u64.wrap (bkt h k : Int) = (bkt h k : Int) := by rw [IntKind.wrap_u64]; omega
  clear hlt hb
  go_enter Tryz.func90, Tryz.ntmps90
  go_upto_region 99 with (go_at_call 92; refine (HH.out _).mono ?_; rintro e w' ⟨rfl, rfl⟩)
  first | go_ret | skip
  exact ⟨ret_i hw3, rfl⟩
def wcN (n : Nat) : Nat := if n ≤ 8 then 1 else if n ≤ 16 then 2 else if n ≤ 32 then 4 else if n ≤ 64 then 8 else if n ≤ 128 then 16 else if n ≤ 256 then 32 else 64
def WcAt (n k : Nat) : Prop := k = 1 ∨ (k = 2 ∧ 8 < n) ∨ (k = 4 ∧ 16 < n) ∨ (k = 8 ∧ 32 < n) ∨ (k = 16 ∧ 64 < n) ∨ (k = 32 ∧ 128 < n) ∨ (k = 64 ∧ 256 < n)
theorem WcAt.next {n k : Nat} (h : WcAt n k) (h1 : k < 64) (h2 : k * 8 < n) : WcAt n (k * 2) := by unfold WcAt at *; omega
theorem WcAt.last {n k : Nat} (h : WcAt n k) (h1 : ¬ (k < 64 ∧ k * 8 < n)) : wcN n = k := by
  unfold WcAt at h
  unfold wcN
  repeat' split
  all_goals omega
theorem WcAt.le {n k : Nat} (h : WcAt n k) : k ≤ 64 ∧ 1 ≤ k := by unfold WcAt at h; omega
theorem qwords_any (n : Nat) (w : World) : Calls Tryz.prog 143 #[.int .i64 (n : Int)] w fun e w' => e = .returned (.int .i64 (wcN n : Int)) ∧ w = w' := by
  go_enter Tryz.func143, Tryz.ntmps143
  go_upto_region 2 with (fail)
  go_loopw [3] (fun t wr => ∃ k : Nat, WcAt n k ∧ t = .int .i64 (k : Int) ∧ w = wr) (fun t _ => 64 - (intOf t).toNat)
  case atStart => exact ⟨1, .inl rfl, rfl, rfl⟩
  case round =>
    obtain ⟨k, hk, rfl, rfl⟩ := hrel
    have HK := Lib.hid hk
    obtain ⟨k1, k2⟩ := hk.le
    clear hk
    have hw : wrap64 (8 * (k : Int)) = 8 * (k : Int) := IntWalk.wrap64_in _ (by omega)
    have hw2 : wrap64 (2 * (k : Int)) = 2 * (k : Int) := IntWalk.wrap64_in _ (by omega)
    by_cases h2 : k * 8 < n
    · have d2 : 8 * (k : Int) < (n : Int) := by omega
      by_cases h1 : k < 64
      · have d1 : (k : Int) < 64 := by omega
        have HN := Lib.hid (HK.out.next h1 h2)
        clear h1 h2
        go_wp2_with fail
        go_roundw
        case rel => exact ⟨k * 2, HN.out, by simp; omega, trivial⟩
        case measure => simp [intOf]; omega
      · have d1 : ¬ (k : Int) < 64 := by omega
        have HN := Lib.hid (HK.out.last fun h => h1 h.1)
        clear h1 h2
        go_wp2_with fail
        first | go_ret | skip
        exact ⟨ret_i (by rw [HN.out]), rfl⟩
    · have d2 : ¬ 8 * (k : Int) < (n : Int) := by omega
      have HN := Lib.hid (HK.out.last fun h => h2 h.2)
      clear h2
      go_wp2_with fail
      first | go_ret | skip
      exact ⟨ret_i (by rw [HN.out]), rfl⟩
end Go.Proofs.YtacknedekhpklaaGreat

namespace Go.Proofs.YtacknedekhpklaaGreat
set_option maxRecDepth 100000
set_option linter.unusedSimpArgs false
set_option linter.unusedVariables false
open Go.RowKit

theorem Tryz.info_u32 : (Tryz.prog.info? 107).map (fun i => (i.zero, i.size, i.bytes)) = some (some (.int .u32 0), 1, 4) := by kernel_rfl
theorem Tryz.info_int : (Tryz.prog.info? 3).map (fun i => (i.zero, i.size, i.bytes)) = some (some (.int .i64 0), 1, 8) := by kernel_rfl
theorem Tryz.info_ints : (Tryz.prog.info? 35).map (fun i => (i.zero, i.size, i.bytes)) = some (some (.slice none 0 0), 1, 24) := by kernel_rfl
/-- One value is appended to a row of the call's own. -/
theorem append_one {w : World} {ops : Array Oper} {rest : List Oper} {o : Oper} {a : Act} {Q : Exit → Act → World → Prop} (hgd : o.guard = none) (s x : Operand) (t e : TypeId) (z : Value) (bytes : Nat)
    (ho : o.op = .call { callee := .builtin .append, args := #[s, x], argTypes := #[t, t] }) (ht : Tryz.prog.underlying t = some (.slice e)) (hinfo : (Tryz.prog.info? e).map (fun i => (i.zero, i.size, i.bytes)) = some (some z, 1, bytes)) (hzs : z.cells.size = 1)
    (base : Nat) (A : Option Addr) (n c : Nat) (xs : List Value) (hs : a.eval s = .slice A n c) (hown : w.ownsRow base e 1 (.slice A n c) n xs) (g : Nat) (u : Value)
    (hx : a.eval x = .slice (some ⟨g, 0, none⟩) 1 1) (hc : w.cell? ⟨g, 0, none⟩ = some u) (hu : u.oneCell' = true) (h63 : n + 1 ≤ maxLen) (hb : (n + 1) * bytes ≤ 140737488355328) (hbase : base ≤ w.heap.size)
    (h : ∀ A' c' w', w'.ownsRow base e 1 (.slice A' (n + 1) c') (n + 1) (xs ++ [u]) → w.grownBy w' (Value.slice A n c).ownBlock → wpList Tryz.prog ops Q rest (a.put o.dst (.slice A' (n + 1) c')) w') : wpList Tryz.prog ops Q (o :: rest) a w := by
  obtain ⟨i, hi⟩ : ∃ i, Tryz.prog.info? e = some i := by
    cases hq : Tryz.prog.info? e with
    | none => rw [hq] at hinfo; cases hinfo
    | some i => exact ⟨i, rfl⟩
  rw [hi] at hinfo
  simp only [Option.map_some, Option.some.injEq, Prod.mk.injEq] at hinfo
  obtain ⟨h1, h2, h3⟩ := hinfo
  refine wpList_append_src hgd s x t ho base e i z bytes ht hi h1 h2 h3 hzs (.slice A n c) n xs hs hown (fun _ => True) _ 1 1 [u] hx ⟨rfl, (by intro h; cases h), Nat.le_refl _, (by intro _ _ _; trivial), ?_⟩ (by intro v hv; simp at hv; subst hv; exact hu) h63 hb hbase ?_
  · intro ad h j v hv
    cases h
    obtain rfl : j = 0 := by have := (List.getElem?_eq_some_iff.1 hv).1; simp at this; omega
    rw [plainAdd]
    simp at hv
    subst hv
    exact hc
  · intro v' w' hown' hg _
    obtain ⟨A', c', rfl⟩ := own_slice hown'
    exact h A' c' w' hown' hg
def hashesS (ss : List Sym) : List UInt32 := (ss.filter seenB).map fun s => hashS s.name
theorem hashes_take {ss : List Sym} {k : Nat} (hk : k < ss.length) : hashesS (ss.take (k + 1)) = hashesS (ss.take k) ++ (if seenB ss[k] then [hashS ss[k].name] else []) := by
  unfold hashesS
  rw [List.take_succ_eq_append_getElem hk, List.filter_append, List.map_append]
  congr 1
  by_cases h : seenB ss[k] = true
  · simp [h]
  · simp [h]
theorem hashes_len (ss : List Sym) (k : Nat) : (hashesS (ss.take k)).length ≤ k := by
  unfold hashesS
  rw [List.length_map]
  have h1 := List.length_filter_le seenB (ss.take k)
  have h2 := List.length_take_le k ss
  omega
/-- Names that fit. -/
def Named (ss : List Sym) : Prop := ∀ s ∈ ss, s.name.length ≤ 140737488351232
theorem hsh_app (a : List UInt32) (x : UInt32) : Siv.hsh (a ++ [x]) = Siv.hsh a ++ [hv x] := by simp [Siv.hsh]
theorem own_alloc {w : World} {B : Nat} {e : TypeId} {v : Value} {n : Nat} {xs : List Value} (h : w.ownsRow B e 1 v n xs) (o : Obj) : (w.alloc o).ownsRow B e 1 v n xs := Siv.own_below h ((Below.refl _ _).alloc (Nat.le_refl _) o)
theorem below_grown {w a b : World} {r : Option Nat} (h : Below w.heap.size w a) (hg : a.grownBy b r) (hr : ∀ k, r = some k → w.heap.size ≤ k) : Below w.heap.size w b :=
  h.grown hg h.size hr
set_option maxRecDepth 100000 in
set_option maxHeartbeats 4000000 in
theorem hashesOf_any (A : Option Addr) (n c : Nat) (ss : List Sym) (w : World) (h : Syl w (fun k => k < w.heap.size) A n c ss) (hn : n ≤ 512) (hs : Named ss) :
    Calls Tryz.prog 70 #[.slice A n c] w fun e w' => ∃ A' c', e = .returned (.slice A' (hashesS ss).length c') ∧ w'.ownsRow w.heap.size 107 1 (.slice A' (hashesS ss).length c') (hashesS ss).length (Siv.hsh (hashesS ss)) ∧ Below w.heap.size w w' := by
  have H := Lib.hid h
  have hl := h.len
  have HS := Lib.hid hs
  clear h hs
  go_enter Tryz.func70, Tryz.ntmps70
  go_upto_region 3 with (fail)
  go_loopw [8, 3] (fun t v wr => ∃ (k : Nat) (A' : Option Addr) (m c' : Nat) (hs : List UInt32), k ≤ n ∧ t = .int .i64 k ∧ v = .slice A' m c' ∧ hs = hashesS (ss.take k) ∧ hs.length = m ∧ m ≤ k ∧ wr.ownsRow w.heap.size 107 1 (.slice A' m c') m (Siv.hsh hs) ∧ Below w.heap.size w wr) (fun t _ _ => n - (intOf t).toNat)
  case atStart => exact ⟨0, none, 0, 0, [], Nat.zero_le _, rfl, rfl, rfl, rfl, Nat.le_refl _, World.ownsRow_nil _ _ _ _, Below.refl _ _⟩
  case round =>
    obtain ⟨k, A', m, c', hs, hk, rfl, rfl, hhs, hm, hmk, ho, hb⟩ := hrel
    have HB := Lib.hid hb
    have HO := Lib.hid ho
    have HHS := Lib.hid hhs
    have HM := Lib.hid hm
    clear hb ho hhs hm
    by_cases hkn : k < n
    · have hki : k < ss.length := by omega
      obtain ⟨ad, rfl⟩ : ∃ ad, A = some ad := by
        cases A with
        | none => have := (H.out.nil rfl).1; omega
        | some ad => exact ⟨ad, rfl⟩
      obtain ⟨b, o, rfl⟩ := H.out.plain (by omega)
      have hcap := H.out.cap
      obtain ⟨c0, c1, c2, c3, c4, c5, c6, c7, c8⟩ := (H.out.below HB.out (fun _ h => h)).get k hki
      have HTK := Lib.hid (hashes_take hki)
      have hnm := HS.out ss[k] (List.getElem_mem hki)
      generalize ss[k] = s at *
      have HSE := Lib.hid (fun X => seen_any s X)
      have HBX := Lib.hid (HB.out.trans ((box_below wr s).mono HB.out.size))
      have HSX := Lib.hid (Sx.new wr s)
      have HOX := Lib.hid (own_alloc HO.out (.cells (symA s) 58))
      obtain ⟨x0, x1, x2, x3, x4, x5, x6, x7, x8⟩ := HSX.out.cells
      by_cases hse : seenB s = true
      · rw [hse] at HSE
        rw [if_pos hse] at HTK
        have HHA := Lib.hid (fun X => thash_any s.name X (by omega))
        clear hse
        go_upto_region 6 with (go_at_call 159; refine (HSE.out _).mono ?_; rintro e w2 ⟨rfl, hb2⟩; have HB2 := Lib.hid (HBX.out.trans (hb2.mono HBX.out.size)); have HO2 := Lib.hid (Siv.own_below HOX.out hb2); have HSX2 := Lib.hid (HSX.out.below hb2); clear hb2)
        clear x0 x1 x2 x3 x4 x5 x6 x7 x8 c0 c1 c2 c3 c4 c5 c6 c7 c8 HSE HSX HBX HOX
        obtain ⟨x0, -⟩ := HSX2.out.cells
        generalize hashS s.name = hh at *
        have HCN := Lib.hid ((Bx.new w2 #[hv hh] 107).c 0)
        have HO3 := Lib.hid (own_alloc HO2.out (.cells #[hv hh] 107))
        have HB3 := Lib.hid (HB2.out.alloc HB2.out.size (.cells #[hv hh] 107))
        have m1 : m + 1 ≤ maxLen := by simp only [maxLen]; omega
        have m2 : (m + 1) * 4 ≤ 140737488355328 := by omega
        go_wp2_with (first
          | (go_at_call 160; refine (HHA.out _).mono ?_; rintro e w3 ⟨rfl, rfl⟩)
          | (at_builtin; refine append_one rfl (.tmp 14) (.tmp 18) 106 107 (.int .u32 0) 4 rfl Tryz.underlying106 Tryz.info_u32 rfl w.heap.size A' m c' (Siv.hsh hs) rfl HO3.out w2.heap.size (hv hh) rfl HCN.out rfl m1 m2 HB3.out.size ?_; intro A2 c2 w4 hown hg; have HO4 := Lib.hid hown; have HB4 := Lib.hid (below_grown HB3.out hg (fun q hq => (HO3.out.lt q hq).1)); clear hown hg))
        go_roundw
        case rel => exact ⟨k + 1, A2, m + 1, c2, hs ++ [hh], by omega, by go_num, rfl, by rw [HTK.out, HHS.out], by simp [HM.out], by omega, by rw [hsh_app]; exact HO4.out, HB4.out⟩
        case measure => simp [intOf]; omega
      · have hsf : seenB s = false := by simpa using hse
        rw [hsf] at HSE
        rw [if_neg hse, List.append_nil] at HTK
        clear hse hsf
        go_upto_region 7 with (go_at_call 159; refine (HSE.out _).mono ?_; rintro e w2 ⟨rfl, hb2⟩; have HB2 := Lib.hid (HBX.out.trans (hb2.mono HBX.out.size)); have HO2 := Lib.hid (Siv.own_below HOX.out hb2); clear hb2)
        clear x0 x1 x2 x3 x4 x5 x6 x7 x8 c0 c1 c2 c3 c4 c5 c6 c7 c8 HSE HSX HBX HOX
        go_wp2_with fail
        go_roundw
        case rel => exact ⟨k + 1, A', m, c', hs, by omega, by go_num, rfl, by rw [HTK.out, HHS.out], HM.out, by omega, HO2.out, HB2.out⟩
        case measure => simp [intOf]; omega
    · obtain rfl : k = n := by omega
      have htk : ss.take k = ss := by rw [← hl]; exact List.take_length
      rw [htk] at HHS
      obtain rfl : hs = hashesS ss := HHS.out
      obtain rfl : (hashesS ss).length = m := HM.out
      clear htk
      go_wp2_with fail
      first | go_ret | skip
      exact ⟨A', c', rfl, HO.out, HB.out⟩
end Go.Proofs.YtacknedekhpklaaGreat

namespace Go.Proofs.YtacknedekhpklaaGreat
set_option maxRecDepth 100000
set_option linter.unusedSimpArgs false
set_option linter.unusedVariables false
open Go.RowKit

def il (l : List Int) : List Value := l.map fun i => .int .i64 i
abbrev sl (p : Option Addr × Nat) (r : List Int) : Value := .slice p.1 r.length p.2
theorem sl_app (A : Option Addr) (c : Nat) (l : List Int) (x : Int) : sl (A, c) (l ++ [x]) = .slice A (l.length + 1) c := by simp [sl]
def slvs (n : Nat) (f : Nat → List Int) (s : Nat → Option Addr × Nat) : List Value := (List.range n).map fun k => sl (s k) (f k)
theorem slvs_get {n : Nat} {f : Nat → List Int} {s : Nat → Option Addr × Nat} {k : Nat} (hk : k < n) : (slvs n f s)[k]? = some (sl (s k) (f k)) := by simp [slvs, hk]
theorem own_ne {w : World} {B1 B2 s1 s2 n1 n2 : Nat} {e1 e2 : TypeId} {v1 v2 : Value} {x1 x2 : List Value} (h1 : w.ownsRow B1 e1 s1 v1 n1 x1) (h2 : w.ownsRow B2 e2 s2 v2 n2 x2) (hne : e1 ≠ e2) : ∀ k, v1.ownBlock = some k → v2.ownBlock ≠ some k := by
  intro k hk1 hk2
  rcases h1.2 with ⟨rfl, _⟩ | ⟨g1, c1, cur1, rfl, _, hh1, _⟩
  · cases hk1
  · rcases h2.2 with ⟨rfl, _⟩ | ⟨g2, c2, cur2, rfl, _, hh2, _⟩
    · cases hk2
    · injection hk1 with hk1
      injection hk2 with hk2
      have a1 : g1 = k := hk1
      have a2 : g2 = k := hk2
      subst a1
      subst a2
      rw [hh1] at hh2
      simp at hh2
      exact hne hh2.2
/-- Rows of places, each a block of its own. -/
structure Bks (w : World) (B g n : Nat) (f : Nat → List Int) (s : Nat → Option Addr × Nat) : Prop where
  out : w.ownsRow B 35 1 (.slice (some ⟨g, 0, none⟩) n n) n (slvs n f s)
  own : ∀ k, k < n → w.ownsRow B 3 1 (sl (s k) (f k)) (f k).length (il (f k))
  apart : ∀ i j, i < n → j < n → i ≠ j → ∀ q, (sl (s i) (f i)).ownBlock = some q → (sl (s j) (f j)).ownBlock ≠ some q
section
variable {w w1 w2 : World} {B g n : Nat} {f : Nat → List Int} {s : Nat → Option Addr × Nat}
theorem Bks.grown {r : Option Nat} (h : Bks w B g n f s) (hg : w.grownBy w1 r) (h1 : r ≠ some g) (h2 : ∀ k, k < n → ∀ q, (sl (s k) (f k)).ownBlock = some q → r ≠ some q) : Bks w1 B g n f s :=
  ⟨h.out.kept hg (.inr fun e => h1 e.symm), fun k hk => (h.own k hk).kept hg (by
    cases hq : (sl (s k) (f k)).ownBlock with
    | none => exact .inl rfl
    | some q => exact .inr fun e => h2 k hk q hq e.symm), h.apart⟩
theorem Bks.below (h : Bks w B g n f s) (hb : Below w.heap.size w w1) : Bks w1 B g n f s := h.grown (Siv.grow_below hb none) (by intro h; cases h) (fun _ _ _ _ h => by cases h)
theorem Bks.push (h : Bks w B g n f s) {i : Nat} (hi : i < n) {A' : Option Addr} {c' : Nat} {x : Int} (ho : w2.ownsRow B 3 1 (.slice A' ((f i).length + 1) c') ((f i).length + 1) (il (f i) ++ [.int .i64 x]))
    (hg : w.grownBy w2 (sl (s i) (f i)).ownBlock) (hb : (Value.slice A' ((f i).length + 1) c').ownBlock = (sl (s i) (f i)).ownBlock ∨ (Value.slice A' ((f i).length + 1) c').ownBlock = some w.heap.size) :
    Bks (w2.setCell ⟨g, i, none⟩ (.slice A' ((f i).length + 1) c')) B g n (fun k => if k = i then f i ++ [x] else f k) (fun k => if k = i then (A', c') else s k) := by
  have hne : (Value.slice (some ⟨g, 0, none⟩) n n).ownBlock = none ∨ (Value.slice (some ⟨g, 0, none⟩) n n).ownBlock ≠ (sl (s i) (f i)).ownBlock := .inr fun e => own_ne h.out (h.own i hi) (by decide) g rfl e.symm
  have ho2 := h.out.kept hg hne
  obtain ⟨ho3, hg3⟩ := ho2.stored i (.slice A' ((f i).length + 1) c')
  have hnew : (Value.slice A' ((f i).length + 1) c').ownBlock ≠ some g := fun e => own_ne ho ho2 (by decide) g e rfl
  refine ⟨?_, ?_, ?_⟩
  · have e : (slvs n f s).set i (.slice A' ((f i).length + 1) c') = slvs n (fun k => if k = i then f i ++ [x] else f k) (fun k => if k = i then (A', c') else s k) := by
      apply List.ext_getElem
      · simp [slvs]
      · intro j h1 h2
        simp only [slvs, List.getElem_set, List.getElem_map, List.getElem_range]
        by_cases hj : j = i
        · subst hj
          simp
        · rw [if_neg (fun e => hj e.symm)]
          simp [hj]
    rw [← e]
    exact ho3
  · intro k hk
    by_cases hki : k = i
    · subst hki
      simp only [if_true, List.length_append, List.length_singleton, sl_app]
      have e : il (f k ++ [x]) = il (f k) ++ [.int .i64 x] := by simp [il]
      rw [e]
      refine ho.kept hg3 ?_
      exact .inr hnew
    · simp only [if_neg hki]
      have h1 : w2.ownsRow B 3 1 (sl (s k) (f k)) (f k).length (il (f k)) := (h.own k hk).kept hg (by
        cases hq : (sl (s k) (f k)).ownBlock with
        | none => exact .inl rfl
        | some q => exact .inr fun e => h.apart k i hk hi hki q hq e.symm)
      exact h1.kept hg3 (.inr fun e => own_ne h1 ho2 (by decide) g e rfl)
  · intro a b ha hb' hab q hq
    by_cases hai : a = i
    · subst hai
      have hbi : b ≠ a := fun e => hab e.symm
      simp only [if_neg hbi]
      simp only [if_true, sl_app] at hq
      rcases hb with hb | hb
      · rw [hb] at hq
        exact h.apart a b ha hb' hab q hq
      · rw [hb] at hq
        injection hq with hq
        intro e
        have := ((h.own b hb').lt q e).2
        omega
    · simp only [if_neg hai] at hq
      by_cases hbi : b = i
      · subst hbi
        simp only [if_true, sl_app]
        rcases hb with hb | hb
        · rw [hb]
          exact h.apart a b ha hb' hab q hq
        · rw [hb]
          intro e
          injection e with e
          have := ((h.own a ha).lt q hq).2
          omega
      · simp only [if_neg hbi]
        exact h.apart a b ha hb' hab q hq
end
/-- Which symbols' places stand in a bucket. -/
def inB (ss : List Sym) (cnt b i : Nat) : Bool := match ss[i]? with
  | some s => seenB s && (bkt (hashS s.name) cnt == b)
  | none => false
def fillS (ss : List Sym) (cnt k b : Nat) : List Int := ((List.range k).filter (inB ss cnt b)).map fun (i : Nat) => (i : Int)
theorem fill_succ (ss : List Sym) (cnt k b : Nat) : fillS ss cnt (k + 1) b = fillS ss cnt k b ++ (if inB ss cnt b k = true then [(k : Int)] else []) := by
  unfold fillS
  rw [List.range_succ, List.filter_append, List.map_append]
  congr 1
  by_cases h : inB ss cnt b k = true
  · simp [h]
  · simp [h]
theorem fill_len (ss : List Sym) (cnt k b : Nat) : (fillS ss cnt k b).length ≤ k := by
  unfold fillS
  rw [List.length_map]
  have := List.length_filter_le (inB ss cnt b) (List.range k)
  simpa using this
theorem Bks.same {w : World} {B g n : Nat} {f f' : Nat → List Int} {s : Nat → Option Addr × Nat} (h : Bks w B g n f s) (e : ∀ k, k < n → f' k = f k) : Bks w B g n f' s := by
  have e1 : slvs n f' s = slvs n f s := by
    unfold slvs
    apply List.map_congr_left
    intro k hk
    rw [e k (List.mem_range.1 hk)]
  exact ⟨by rw [e1]; exact h.out, fun k hk => by rw [e k hk]; exact h.own k hk, fun i j hi hj hij q hq => by rw [e i hi] at hq; rw [e j hj]; exact h.apart i j hi hj hij q hq⟩
end Go.Proofs.YtacknedekhpklaaGreat
