/-
  The union of filters.
-/
import Derived.Test.YtmpciigebjiehaaG
namespace Go.Proofs.Ytmpciigebjiehaa
open Go.RowKit

def uni (l m : List UInt64) : List UInt64 := List.zipWith (fun x y => x ||| y) l m
def uniAll (l : List UInt64) (r : List Fi) : List UInt64 := r.foldl (fun l g => uni l g.ws) l
theorem uni_len (l m : List UInt64) (h : m.length = l.length) : (uni l m).length = l.length := by simp [uni, h]
theorem uniAll_len (r : List Fi) : ∀ (l : List UInt64), (∀ g ∈ r, g.ws.length = l.length) → (uniAll l r).length = l.length := by
  induction r with
  | nil => intro l _; rfl
  | cons g r ih =>
    intro l h
    have h1 := uni_len l g.ws (h g (by simp))
    have := ih (uni l g.ws) (fun g' hg => by rw [h1]; exact h g' (by simp [hg]))
    exact this.trans h1
theorem uniAll_take (l : List UInt64) (r : List Fi) (k : Nat) (hk : k < r.length) : uniAll l (r.take (k + 1)) = uni (uniAll l (r.take k)) r[k].ws := by
  unfold uniAll
  rw [List.take_succ_eq_append_getElem hk, List.foldl_append]
  rfl
/-- The first words joined. -/
def upto (l m : List UInt64) (i : Nat) : List UInt64 := (uni l m).take i ++ l.drop i
theorem upto_zero (l m : List UInt64) : upto l m 0 = l := by simp [upto]
theorem upto_all (l m : List UInt64) (h : m.length = l.length) : upto l m l.length = uni l m := by
  unfold upto
  rw [List.take_of_length_le (by rw [uni_len l m h]; exact Nat.le_refl _), List.drop_of_length_le (Nat.le_refl _), List.append_nil]
theorem upto_len (l m : List UInt64) (h : m.length = l.length) (i : Nat) (hi : i ≤ l.length) : (upto l m i).length = l.length := by
  simp [upto, uni_len l m h]
  omega
theorem upto_wd (l m : List UInt64) (h : m.length = l.length) (i : Nat) (hi : i < l.length) : wd (upto l m i) i = wd l i := by
  simp [upto, wd, uni_len l m h, List.getElem?_append, hi, show min i l.length = i by omega]
theorem upto_succ (l m : List UInt64) (h : m.length = l.length) (i : Nat) (hi : i < l.length) : upto l m (i + 1) = (upto l m i).set i (wd l i ||| wd m i) := by
  have h1 := upto_len l m h i (by omega)
  have h2 := upto_len l m h (i + 1) (by omega)
  have hu := uni_len l m h
  apply List.ext_getElem
  · rw [h2, List.length_set, h1]
  · intro j hj1 hj2
    rw [List.getElem_set]
    split
    · rename_i he
      subst he
      have a1 : i < min (i + 1) l.length := by omega
      simp [upto, wd, hi, uni, h, a1]
    · rename_i hne
      simp only [upto, List.getElem_append, List.length_take, hu]
      by_cases hlt : j < i
      · simp [show j < min (i + 1) l.length by omega, show j < min i l.length by omega]
      · have a1 : ¬ j < min (i + 1) l.length := by omega
        have a2 : ¬ j < min i l.length := by omega
        simp only [a1, a2, dif_neg, not_false_eq_true, List.getElem_drop]
        congr 1
        omega

theorem union_no (P : Nat → Prop) (A : Option Addr) (n c : Nat) (fs : List Fi) (w : World) (h : Fls w P A n c fs) (hn : n ≤ 4611686018427387904) (hw : ∀ f ∈ fs, f.ws.length ≤ 4611686018427387904) (ha : alikeB fs = false) :
    Calls Try.prog 27 #[.slice A n c] w (NoF w) := by
  have HA := Lib.hid ha
  have HC := Lib.hid (alike_any _ A n c fs (w.alloc (.cells #[.slice none 0 0, .int .i64 0] 30)) (h.lt.below ((Below.refl _ _).alloc (Nat.le_refl _) _) (fun _ h => h)) hn hw)
  have HB := Lib.hid (Bx.new w none 0 0 0)
  clear h hw ha
  go_enter Try.func27, Try.ntmps27
  go_wp2_with (go_at_call 36; refine HC.out.mono ?_; rw [HA.out]; rintro e w1 ⟨rfl, hb1⟩; have HB1 := Lib.hid hb1; have HBX := Lib.hid (HB.out.below hb1); have k0 := HBX.out.c0; have k1 := HBX.out.c1; have k2 := HBX.out.f0 0; have k3 := HBX.out.f0 1; clear hb1)
  have hq := HBX.out.over none 0 0 0
  have q0 := hq.c0
  have q1 := hq.c1
  have hbw := ((((Below.refl w.heap.size w).alloc (Nat.le_refl _) (.cells #[.slice none 0 0, .int .i64 0] 30)).trans (HB1.out.mono (by simp))).setCell (p := ⟨w.heap.size, 0, none⟩) (Nat.le_refl _) (.slice none 0 0)).setCell (p := ⟨w.heap.size, 1, none⟩) (Nat.le_refl _) (.int .i64 0)
  generalize (w1.setCell ⟨w.heap.size, 0, none⟩ (.slice none 0 0)).setCell ⟨w.heap.size, 1, none⟩ (.int .i64 0) = w3 at q0 q1 hbw ⊢
  exact bodyPost_ret (v := .tuple #[flt none 0 0 0, .int .i64 20]) (by simp [results, Try.results27, go_sem, q0, q1]) rfl ⟨rfl, hbw⟩

theorem union_ok (P : Nat → Prop) (A : Option Addr) (c : Nat) (f : Fi) (r : List Fi) (w : World) (h : Fls w P A (r.length + 1) c (f :: r)) (hn : r.length + 1 ≤ 4611686018427387904) (ha : alikeB (f :: r) = true) :
    Calls Try.prog 27 #[.slice A (r.length + 1) c] w (Made w (uniAll f.ws r) f.s) := by
  have hfm : formB f.ws.length f.s = true ∧ ∀ g ∈ r, g.ws.length = f.ws.length ∧ g.s = f.s := by
    simpa [alikeB, likeB] using ha
  obtain ⟨hf, hlike⟩ := hfm
  obtain ⟨p0, p1, p2, p3⟩ := form_pos hf
  have hw : ∀ g ∈ f :: r, g.ws.length ≤ 4611686018427387904 := by
    intro g hg
    rcases List.mem_cons.1 hg with rfl | hg
    · omega
    · rw [(hlike g hg).1]; omega
  have hcap := h.cap
  cases A with
  | none => have := (h.nil rfl).1; omega
  | some ad =>
    obtain ⟨b, o, rfl⟩ := h.plain (by omega)
    have HA := Lib.hid ha
    have HL := Lib.hid hlike
    have HC := Lib.hid (alike_any _ _ _ c (f :: r) (w.alloc (.cells #[.slice none 0 0, .int .i64 0] 30)) (h.lt.below ((Below.refl _ _).alloc (Nat.le_refl _) _) (fun _ h => h)) hn hw)
    have HB := Lib.hid (Bx.new w none 0 0 0)
    have H := Lib.hid h.lt
    clear h hw ha hlike hf
    go_enter Try.func27, Try.ntmps27
    go_wp2_with (go_at_call 36; refine HC.out.mono ?_; rw [HA.out]; rintro e w1 ⟨rfl, hb1⟩; have HB1 := Lib.hid (((Below.refl w.heap.size w).alloc (Nat.le_refl _) (.cells #[.slice none 0 0, .int .i64 0] 30)).trans (hb1.mono (by simp))); have HBX := Lib.hid (HB.out.below hb1); have H1 := Lib.hid (H.out.below HB1.out (fun _ h => h)); obtain ⟨A0, c0, hs0, k0, k1⟩ := H1.out.get 0 (by simp); simp only [List.getElem_cons_zero, Nat.zero_mul, Nat.add_zero] at hs0 k0 k1; have HS0 := Lib.hid hs0; clear hb1 hs0)
    refine (clone_any _ A0 f.ws.length c0 f.s f.ws _ HS0.out (by omega)).mono ?_
    rintro e w2 ⟨A2, c2, rfl, ho2, hb2⟩
    obtain ⟨g, rfl, hg1, hg2⟩ := own_some ho2 p0
    have hsz1 : w.heap.size + 1 ≤ w1.heap.size := HBX.out.lt
    have hsz2 := hb2.size
    have HBX2 := Lib.hid ((HBX.out.below hb2).below ((Below.refl _ _).alloc (Nat.le_refl _) (.cells #[.slice (some ⟨g, 0, none⟩) f.ws.length c2, .int .i64 f.s] 30)))
    have HBV := Lib.hid (Bx.new w2 (some ⟨g, 0, none⟩) f.ws.length c2 f.s)
    have HO2 := Lib.hid (own_more (ho2.alloc (.cells #[.slice (some ⟨g, 0, none⟩) f.ws.length c2, .int .i64 f.s] 30)) (show w.heap.size ≤ w1.heap.size by omega))
    have HBW := Lib.hid ((HB1.out.trans (hb2.mono (by omega))).alloc (by omega) (.cells #[.slice (some ⟨g, 0, none⟩) f.ws.length c2, .int .i64 f.s] 30))
    clear ho2 hb2 k0 k1
    go_wp2
    all_goals
      generalize w2.alloc (.cells #[.slice (some ⟨g, 0, none⟩) f.ws.length c2, .int .i64 f.s] 30) = w5 at HBX2 HBV HO2 HBW ⊢
      have hgq : g < w2.heap.size := hg2
      have hrq : w.heap.size + 1 ≤ w2.heap.size := by omega
      generalize w2.heap.size = q at HBV hgq hrq ⊢
      clear hsz2 hg2
      go_loopw [20] (fun i wr => ∃ k : Nat, k ≤ r.length ∧ i = .int .i64 k ∧ Below w.heap.size w wr ∧ Bx wr w.heap.size none 0 0 0 ∧ Bx wr q (some ⟨g, 0, none⟩) f.ws.length c2 f.s ∧ wr.ownsRow w.heap.size 53 1 (.slice (some ⟨g, 0, none⟩) f.ws.length c2) f.ws.length (wds (uniAll f.ws (r.take k)))) (fun i _ => r.length - (intOf i).toNat)
      case atStart => exact ⟨0, Nat.zero_le _, rfl, HBW.out, HBX2.out, HBV.out, HO2.out⟩
      clear HBX2 HBV HO2 HBW HBX HB1 HC HB
    · case round =>
        obtain ⟨k, hk, rfl, hb, hbx, hbv, ho⟩ := hrel
        obtain rfl : k = r.length := by omega
        rw [List.take_of_length_le (Nat.le_refl _)] at ho
        have k0 := hbv.c0
        have k1 := hbv.c1
        have k2 := hbx.c0
        have k3 := hbx.c1
        have k4 := hbx.f0 0
        have k5 := hbx.f0 1
        have HN := Lib.hid ((uniAll_len r f.ws (fun g hg => (HL.out g hg).1)))
        have HBX := Lib.hid hbx
        have HB := Lib.hid hb
        have HO := Lib.hid ho
        clear hb hbx hbv ho
        go_wp2
        have hq := HBX.out.over (some ⟨g, 0, none⟩) f.ws.length c2 f.s
        have q0 := hq.c0
        have q1 := hq.c1
        have hrow : ∀ j, (Value.slice (some ⟨g, 0, none⟩) f.ws.length c2).ownBlock ≠ some (⟨w.heap.size, j, none⟩ : Addr).block := fun j e => by
          injection e with e
          have e' : g = w.heap.size := e
          omega
        have how := ownsRow_setCell_other (ownsRow_setCell_other HO.out (hrow 0) (.slice (some ⟨g, 0, none⟩) f.ws.length c2)) (hrow 1) (.int .i64 f.s)
        have hbw := (HB.out.setCell (p := ⟨w.heap.size, 0, none⟩) (Nat.le_refl _) (.slice (some ⟨g, 0, none⟩) f.ws.length c2)).setCell (p := ⟨w.heap.size, 1, none⟩) (Nat.le_refl _) (.int .i64 f.s)
        generalize (wr.setCell ⟨w.heap.size, 0, none⟩ (.slice (some ⟨g, 0, none⟩) f.ws.length c2)).setCell ⟨w.heap.size, 1, none⟩ (.int .i64 f.s) = w3 at q0 q1 how hbw ⊢
        exact bodyPost_ret (v := .tuple #[flt (some ⟨g, 0, none⟩) f.ws.length c2 f.s, .int .i64 0]) (by simp [results, Try.results27, go_sem, q0, q1]) rfl ⟨_, c2, by rw [HN.out], by rw [HN.out]; exact how, hbw⟩
    · case round =>
        obtain ⟨k, hk, rfl, hb, hbx, hbv, ho⟩ := hrel
        by_cases hlt : k < r.length
        · obtain ⟨A1, c1, hs1, e0', e1'⟩ := H.out.get (k + 1) (by simp; omega)
          have e0 := (hb.cell (World.block_lt_of_cell? w _ e0')).trans e0'
          have e1 := (hb.cell (World.block_lt_of_cell? w _ e1')).trans e1'
          clear e0' e1'
          simp only [List.getElem_cons_succ] at e0 e1 hs1
          rw [show o + (k + 1) * 2 = o + 2 + k * 2 by omega] at e0 e1
          obtain ⟨l1, l2⟩ := HL.out r[k] (List.getElem_mem hlt)
          have HT := Lib.hid (uniAll_take f.ws r k hlt)
          have HN := Lib.hid ((uniAll_len (r.take k) f.ws (fun g hg => (HL.out g (List.mem_of_mem_take hg)).1)))
          generalize uniAll f.ws (r.take k) = acc at ho HT HN
          generalize r[k] = gk at hs1 e0 e1 l1 l2 HT
          rw [l1] at hs1 e0
          rw [l2] at e1
          have L1 := Lib.hid l1
          clear l1 l2
          have HS1 := Lib.hid hs1
          have HBX3 := Lib.hid (hbx.below ((Below.refl _ _).alloc (Nat.le_refl _) (.cells #[.slice A1 f.ws.length c1, .int .i64 f.s] 30)))
          have HBV3 := Lib.hid (hbv.below ((Below.refl _ _).alloc (Nat.le_refl _) (.cells #[.slice A1 f.ws.length c1, .int .i64 f.s] 30)))
          have HO3 := Lib.hid (ho.alloc (.cells #[.slice A1 f.ws.length c1, .int .i64 f.s] 30))
          have HB3 := Lib.hid (hb.alloc hb.size (.cells #[.slice A1 f.ws.length c1, .int .i64 f.s] 30))
          clear hs1 hb hbx hbv ho
          go_wp2
          have hzz : w.heap.size ≤ (wr.alloc (.cells #[.slice A1 f.ws.length c1, .int .i64 f.s] 30)).heap.size := HB3.out.size
          generalize wr.alloc (.cells #[.slice A1 f.ws.length c1, .int .i64 f.s] 30) = w7 at HBX3 HBV3 HO3 HB3 hzz ⊢
          clear e0 e1
          go_loopw [27] (fun i wx => ∃ j : Nat, j ≤ f.ws.length ∧ i = .int .i64 j ∧ Below w.heap.size w wx ∧ Bx wx w.heap.size none 0 0 0 ∧ Bx wx q (some ⟨g, 0, none⟩) f.ws.length c2 f.s ∧ wx.ownsRow w.heap.size 53 1 (.slice (some ⟨g, 0, none⟩) f.ws.length c2) f.ws.length (wds (upto acc gk.ws j))) (fun i _ => f.ws.length - (intOf i).toNat)
          case atStart => exact ⟨0, Nat.zero_le _, rfl, HB3.out, HBX3.out, HBV3.out, by rw [upto_zero]; exact HO3.out⟩
          case round =>
            obtain ⟨j, hj, rfl, hb, hbx, hbv, ho⟩ := hrel
            by_cases hjl : j < f.ws.length
            · cases A1 with
              | none => have := (HS1.out.nil rfl).1; omega
              | some ad1 =>
                have f0 := (HS1.out.below hb (fun _ h => h)).at_ ad1 rfl j _ (wds_get gk.ws j (by rw [L1.out]; exact hjl))
                have f1 := hbv.c0
                have f2 := ho.cellAt j (by omega)
                rw [wds_get _ _ (by rw [upto_len acc gk.ws (by rw [L1.out, HN.out]) j (by rw [HN.out]; omega), HN.out]; exact hjl), upto_wd acc gk.ws (by rw [L1.out, HN.out]) j (by rw [HN.out]; omega)] at f2
                have f3 := ho.frozenAt j
                have f4 := or_words (wd acc j) (wd gk.ws j)
                rw [← UInt64.toNat_or] at f4
                have hs := upto_succ acc gk.ws (by rw [L1.out, HN.out]) j (by rw [HN.out]; omega)
                generalize (wd acc j ||| wd gk.ws j) = z at f4 hs
                have HSU := Lib.hid hs
                have HB := Lib.hid hb
                have HBX := Lib.hid hbx
                have HBV := Lib.hid hbv
                have HO := Lib.hid ho
                clear hb hbx hbv ho hs
                go_wp2
                go_roundw
                case rel =>
                  refine ⟨j + 1, by omega, by go_num, HB.out.setCell (p := ⟨g, j, none⟩) (by show w.heap.size ≤ g; omega) _, HBX.out.setCell (by show w.heap.size ≠ g; omega) _, HBV.out.setCell (by show q ≠ g; omega) _, ?_⟩
                  rw [HSU.out, wds_set]
                  exact (HO.out.stored j _).1
                case measure => simp [intOf]; omega
            · obtain rfl : j = f.ws.length := by omega
              have e := upto_all acc gk.ws (by rw [L1.out, HN.out])
              rw [HN.out] at e
              rw [e] at ho
              have HB := Lib.hid hb
              have HBX := Lib.hid hbx
              have HBV := Lib.hid hbv
              have HO := Lib.hid ho
              clear hb hbx hbv ho e
              go_wp2
              go_roundw
              case rel => exact ⟨k + 1, by omega, by go_num, HB.out, HBX.out, HBV.out, by rw [HT.out]; exact HO.out⟩
              case measure => simp [intOf]; omega
        · obtain rfl : k = r.length := by omega
          rw [List.take_of_length_le (Nat.le_refl _)] at ho
          have k0 := hbv.c0
          have k1 := hbv.c1
          have k2 := hbx.c0
          have k3 := hbx.c1
          have k4 := hbx.f0 0
          have k5 := hbx.f0 1
          have HN := Lib.hid ((uniAll_len r f.ws (fun g hg => (HL.out g hg).1)))
          have HBX := Lib.hid hbx
          have HB := Lib.hid hb
          have HO := Lib.hid ho
          clear hb hbx hbv ho
          go_wp2
          have hq := HBX.out.over (some ⟨g, 0, none⟩) f.ws.length c2 f.s
          have q0 := hq.c0
          have q1 := hq.c1
          have hrow : ∀ j, (Value.slice (some ⟨g, 0, none⟩) f.ws.length c2).ownBlock ≠ some (⟨w.heap.size, j, none⟩ : Addr).block := fun j e => by
            injection e with e
            have e' : g = w.heap.size := e
            omega
          have how := ownsRow_setCell_other (ownsRow_setCell_other HO.out (hrow 0) (.slice (some ⟨g, 0, none⟩) f.ws.length c2)) (hrow 1) (.int .i64 f.s)
          have hbw := (HB.out.setCell (p := ⟨w.heap.size, 0, none⟩) (Nat.le_refl _) (.slice (some ⟨g, 0, none⟩) f.ws.length c2)).setCell (p := ⟨w.heap.size, 1, none⟩) (Nat.le_refl _) (.int .i64 f.s)
          generalize (wr.setCell ⟨w.heap.size, 0, none⟩ (.slice (some ⟨g, 0, none⟩) f.ws.length c2)).setCell ⟨w.heap.size, 1, none⟩ (.int .i64 f.s) = w3 at q0 q1 how hbw ⊢
          exact bodyPost_ret (v := .tuple #[flt (some ⟨g, 0, none⟩) f.ws.length c2 f.s, .int .i64 0]) (by simp [results, Try.results27, go_sem, q0, q1]) rfl ⟨_, c2, by rw [HN.out], by rw [HN.out]; exact how, hbw⟩

end Go.Proofs.Ytmpciigebjiehaa
