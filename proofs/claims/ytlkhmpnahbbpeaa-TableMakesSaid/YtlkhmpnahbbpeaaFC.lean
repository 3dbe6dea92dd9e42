/-
  Filters that are written: set, spoil, and what filters are the same.
-/
import Derived.Test.YtlkhmpnahbbpeaaFB
namespace Go.Proofs.Ytlkhmpnahbbpeaa.Siv
open Go.RowKit

def setW (s : Nat) (l : List UInt64) (h : UInt32) : List UInt64 := l.set (idx l.length h) (wd l (idx l.length h) ||| msk s h)
def setAll (s : Nat) (l : List UInt64) (hs : List UInt32) : List UInt64 := hs.foldl (setW s) l
theorem setW_len (s : Nat) (l : List UInt64) (h : UInt32) : (setW s l h).length = l.length := by simp [setW]
theorem setAll_len (s : Nat) (l : List UInt64) (hs : List UInt32) : (setAll s l hs).length = l.length := by
  induction hs generalizing l with
  | nil => rfl
  | cons h hs ih => exact (ih (setW s l h)).trans (setW_len s l h)
theorem setAll_take (s : Nat) (l : List UInt64) (hs : List UInt32) (k : Nat) (hk : k < hs.length) : setAll s l (hs.take (k + 1)) = setW s (setAll s l (hs.take k)) hs[k] := by
  unfold setAll
  rw [List.take_succ_eq_append_getElem hk, List.foldl_append]
  rfl
theorem wds_set (l : List UInt64) (i : Nat) (x : UInt64) : wds (l.set i x) = (wds l).set i (u64v x) := by simp [wds]
theorem or_words (x m : UInt64) : bits .or .u64 (x.toNat : Int) (m.toNat : Int) = ((x.toNat ||| m.toNat : Nat) : Int) := bits_or_u64_nat _ _ x.toNat_lt m.toNat_lt
theorem hsh_get (hs : List UInt32) (k : Nat) (hk : k < hs.length) : (hsh hs)[k]? = some (u32v hs[k]) := by simp [hsh, hk]

theorem own_some {w : World} {B : Nat} {e : TypeId} {A : Option Addr} {n c : Nat} {xs : List Value} (h : w.ownsRow B e 1 (.slice A n c) n xs) (h0 : 0 < n) : ∃ g, A = some ⟨g, 0, none⟩ ∧ B ≤ g ∧ g < w.heap.size := by
  rcases h.2 with ⟨_, hn⟩ | ⟨g, cap, cur, hv, hb, hg, _⟩
  · omega
  · injection hv with h1
    exact ⟨g, h1, hb, (Array.getElem?_eq_some_iff.1 hg).1⟩
theorem own_below {w w' : World} {B : Nat} {e : TypeId} {v : Value} {n : Nat} {xs : List Value} (h : w.ownsRow B e 1 v n xs) (hb : Below w.heap.size w w') : w'.ownsRow B e 1 v n xs :=
  h.kept (row := none) ⟨hb.os, hb.tape, hb.output, hb.size, fun k hk _ => hb.block k hk⟩ (by cases v.ownBlock <;> simp)
theorem Bx.setCell {w : World} {g : Nat} {A : Option Addr} {n c : Nat} {s : Int} (h : Bx w g A n c s) {a : Addr} (ha : g ≠ a.block) (u : Value) : Bx (w.setCell a u) g A n c s := (Below.heap_setCell w a u g ha).trans h

theorem grow_trans {a b c : World} {r : Option Nat} (h : a.grownBy b r) (k : b.grownBy c r) : a.grownBy c r :=
  ⟨k.os.trans h.os, k.tape.trans h.tape, k.output.trans h.output, Nat.le_trans h.size k.size, fun i hi hr => (k.block i (Nat.lt_of_lt_of_le hi h.size) hr).trans (h.block i hi hr)⟩
theorem grow_below {a b : World} (h : Below a.heap.size a b) (r : Option Nat) : a.grownBy b r := ⟨h.os, h.tape, h.output, h.size, fun k hk _ => h.block k hk⟩
theorem set_any (B : Nat) (A : Option Addr) (c s : Nat) (l : List UInt64) (Ah : Option Addr) (ch : Nat) (hs : List UInt32) (w : World) (ho : w.ownsRow B 65 1 (.slice A l.length c) l.length (wds l))
    (h0 : 0 < l.length) (hl : l.length ≤ 9223372036854775807) (h31 : s ≤ 31) (hh : Src w (fun k => some k ≠ row A) Ah hs.length ch (hsh hs)) (hm : hs.length ≤ 4611686018427387904) :
    Calls Try.prog 56 #[flt A l.length c s, .slice Ah hs.length ch] w fun e w' => e = .returned (.tuple #[]) ∧ w.grownBy w' (row A) ∧ w'.ownsRow B 65 1 (.slice A l.length c) l.length (wds (setAll s l hs)) := by
  obtain ⟨g, rfl, _, hg⟩ := own_some ho h0
  have HO := Lib.hid ho
  have HH := Lib.hid hh
  have HBX := Lib.hid (Bx.new w (some ⟨g, 0, none⟩) l.length c s)
  clear ho hh
  go_enter Try.func56, Try.ntmps56
  go_wp2
  go_loopw [10] (fun i wr => ∃ k : Nat, k ≤ hs.length ∧ i = .int .i64 k ∧ w.grownBy wr (some g) ∧ Bx wr w.heap.size (some ⟨g, 0, none⟩) l.length c s ∧ wr.ownsRow B 65 1 (.slice (some ⟨g, 0, none⟩) l.length c) l.length (wds (setAll s l (hs.take k)))) (fun i _ => hs.length - (intOf i).toNat)
  case atStart => exact ⟨0, Nat.zero_le _, rfl, World.grownBy_alloc _ _ _, HBX.out, HO.out.alloc _⟩
  case round =>
    obtain ⟨k, hk, rfl, hb, hbx, hown⟩ := hrel
    by_cases hlt : k < hs.length
    · cases Ah with
      | none => have := (HH.out.nil rfl).1; omega
      | some ad =>
        have hc := (HH.out.keep (fun k hk hlt => hb.block k hlt hk)).at_ ad rfl k _ (hsh_get hs k hlt)
        have HS := Lib.hid (setAll_take s l hs k hlt)
        have HL := Lib.hid (setAll_len s l (hs.take k))
        generalize setAll s l (hs.take k) = cur at hown HS HL
        generalize hs[k] = h at hc HS
        have h1 := hbx.c0
        have h2 := hbx.c1
        have hi := idx_lt l.length h h0
        have HB := Lib.hid hb
        have HX := Lib.hid hbx
        have HW := Lib.hid hown
        clear hb hbx hown
        go_wp2_with (first
          | (go_at_call 65; refine (bitsOf_any (some ⟨g, 0, none⟩) l.length c s h _ h0 hl h31).mono ?_; rintro e w2 ⟨rfl, hb2⟩; have HB2 := Lib.hid hb2; have HX2 := Lib.hid (HX.out.below hb2); have k2 := HX2.out.c0; have k3 := HX2.out.c1; have HW2 := Lib.hid (own_below HW.out hb2); have k4 := HW2.out.cellAt (idx l.length h) (by omega); rw [wds_get _ _ (by rw [HL.out]; exact hi)] at k4; have k5 := HW2.out.frozenAt (idx l.length h); have k6 := or_words (wd cur (idx l.length h)) (msk s h); clear hb2))
        go_roundw
        case rel =>
          refine ⟨k + 1, by omega, by go_num, ?_, HX2.out.setCell (by show w.heap.size ≠ g; omega) _, ?_⟩
          · exact grow_trans (grow_trans HB.out (grow_below HB2.out _)) (HW2.out.stored (idx l.length h) _).2
          · have e : Value.int .u64 (((wd cur (idx l.length h)).toNat ||| (msk s h).toNat : Nat) : Int) = u64v (wd cur (idx l.length h) ||| msk s h) := by rw [u64v, UInt64.toNat_or]
            rw [HS.out, setW, wds_set, HL.out, e]
            exact (HW2.out.stored (idx l.length h) _).1
        case measure => simp [intOf]; omega
    · obtain rfl : k = hs.length := by omega
      rw [List.take_of_length_le (Nat.le_refl _)] at hown
      have HB := Lib.hid hb
      have HW := Lib.hid hown
      clear hb hown
      go_wp2
      go_end0
      exact ⟨rfl, HB.out, HW.out⟩

theorem set_n (B : Nat) (A : Option Addr) (n c s : Nat) (l : List UInt64) (Ah : Option Addr) (ch : Nat) (hs : List UInt32) (w : World) (hln : l.length = n) (ho : w.ownsRow B 65 1 (.slice A n c) n (wds l))
    (h0 : 0 < n) (hl : n ≤ 9223372036854775807) (h31 : s ≤ 31) (hh : Src w (fun k => some k ≠ row A) Ah hs.length ch (hsh hs)) (hm : hs.length ≤ 4611686018427387904) :
    Calls Try.prog 56 #[flt A n c s, .slice Ah hs.length ch] w fun e w' => e = .returned (.tuple #[]) ∧ w.grownBy w' (row A) ∧ w'.ownsRow B 65 1 (.slice A n c) n (wds (setAll s l hs)) := by
  subst hln
  exact set_any B A c s l Ah ch hs w ho h0 hl h31 hh hm
theorem Bx.grown {w w' : World} {g : Nat} {A : Option Addr} {n c : Nat} {s : Int} {r : Option Nat} (h : Bx w g A n c s) (hg : w.grownBy w' r) (hr : some g ≠ r) : Bx w' g A n c s := (hg.block g h.lt hr).trans h
theorem Bx.over {w : World} {g : Nat} {A : Option Addr} {n c : Nat} {s : Int} (h : Bx w g A n c s) (A' : Option Addr) (n' c' : Nat) (s' : Int) : Bx ((w.setCell ⟨g, 0, none⟩ (.slice A' n' c')).setCell ⟨g, 1, none⟩ (.int .i64 s')) g A' n' c' s' := by
  have h1 := heap_setCell_same w g 0 _ _ (.slice A' n' c') h
  exact heap_setCell_same _ g 1 _ _ (.int .i64 s') h1
/-- Are the filters the same? -/
def sameB (l m : List UInt64) (s t : Int) : Bool := decide (s = t ∧ l = m)
theorem same_len (P Q : Nat → Prop) (A A' : Option Addr) (c c' n : Nat) (l m : List UInt64) (s : Int) (w : World) (hx : Src w P A n c (wds l)) (hy : Src w Q A' n c' (wds m)) (hn : n ≤ 4611686018427387904) :
    Calls Try.prog 37 #[flt A n c s, flt A' n c' s] w fun e w' => e = .returned (.bool (sameB l m s s)) ∧ Below w.heap.size w w' := by
  have HX := Lib.hid hx.lt
  have HY := Lib.hid hy.lt
  have HL := Lib.hid (show l.length = n by simpa [wds_len] using hx.len)
  have HM := Lib.hid (show m.length = n by simpa [wds_len] using hy.len)
  clear hx hy
  have hb2 : ∀ x y : Obj, Below w.heap.size w ((w.alloc x).alloc y) := fun x y => ((Below.refl _ _).alloc (Nat.le_refl _) _).alloc (by simp) _
  go_enter Try.func37, Try.ntmps37
  go_wp2
  have hB1 : Bx ((w.alloc (.cells #[.slice A n c, .int .i64 s] 27)).alloc (.cells #[.slice A' n c', .int .i64 s] 27)) w.heap.size A n c s := (Bx.new w A n c s).below ((Below.refl _ _).alloc (Nat.le_refl _) _)
  have hB2 : Bx ((w.alloc (.cells #[.slice A n c, .int .i64 s] 27)).alloc (.cells #[.slice A' n c', .int .i64 s] 27)) (w.heap.size + 1) A' n c' s := by
    have := Bx.new (w.alloc (.cells #[.slice A n c, .int .i64 s] 27)) A' n c' s
    simpa using this
  have hb := hb2 (.cells #[.slice A n c, .int .i64 s] 27) (.cells #[.slice A' n c', .int .i64 s] 27)
  generalize (w.alloc (.cells #[.slice A n c, .int .i64 s] 27)).alloc (.cells #[.slice A' n c', .int .i64 s] 27) = w2 at *
  have hX2 := HX.out.below hb (fun _ h => h)
  have hY2 := HY.out.below hb (fun _ h => h)
  clear HX HY
  have h1 := hB1.c0
  have h2 := hB2.c0
  have HB := Lib.hid hb
  clear hb hb2 hB1 hB2
  have HX := Lib.hid hX2
  have HY := Lib.hid hY2
  clear hX2 hY2
  go_loopw [5] (fun i wr => ∃ k j : Nat, k ≤ n ∧ i = .int .i64 k ∧ wr = w2.drewN j ∧ ∀ z, z < k → wd l z = wd m z) (fun i _ => n - (intOf i).toNat)
  case atStart => exact ⟨0, 0, Nat.zero_le _, rfl, rfl, by intro z hz; omega⟩
  case round =>
    obtain ⟨k, j, hk, rfl, rfl, he⟩ := hrel
    by_cases hlt : k < n
    · cases A with
      | none => have := (HX.out.nil rfl).1; omega
      | some ad =>
        cases A' with
        | none => have := (HY.out.nil rfl).1; omega
        | some ad' =>
          have hx := HX.out.at_ ad rfl k _ (wds_get l k (by rw [HL.out]; exact hlt))
          have hy := HY.out.at_ ad' rfl k _ (wds_get m k (by rw [HM.out]; exact hlt))
          have HE := Lib.hid he
          clear he
          by_cases hkk : wd l k = wd m k
          · rw [hkk] at hx
            go_wp2
            go_quiet (fail)
            go_wp2
            go_roundw
            case rel =>
              refine ⟨k + 1, _, by omega, by go_num, rfl, fun z hz => ?_⟩
              by_cases hzk : z = k
              · subst hzk; exact hkk
              · exact HE.out z (by omega)
            case measure => simp [intOf]; omega
          · have hne : (((wd l k).toNat : Int) != ((wd m k).toNat : Int)) = true := by
              simp only [bne_iff_ne, ne_eq]
              intro e
              exact hkk (UInt64.toNat_inj.1 (by omega))
            have hr : sameB l m s s = false := by
              simp only [sameB, decide_eq_false_iff_not, not_and]
              rintro _ rfl
              exact hkk rfl
            go_wp2
            go_quiet (fail)
            go_wp2
            go_ret
            rw [hr]
            exact ⟨rfl, HB.out.trans ⟨rfl, rfl, rfl, Nat.le_refl _, fun _ _ => rfl⟩⟩
    · obtain rfl : k = n := by omega
      have hr : sameB l m s s = true := by
        simp only [sameB, decide_eq_true_eq, true_and]
        refine List.ext_getElem (HL.out.trans HM.out.symm) fun z h1 h2 => ?_
        have := he z (by have := HL.out; omega)
        simpa [wd, h1, h2] using this
      clear he
      go_wp2
      go_ret
      rw [hr]
      exact ⟨rfl, HB.out.trans ⟨rfl, rfl, rfl, Nat.le_refl _, fun _ _ => rfl⟩⟩
theorem same_any (P Q : Nat → Prop) (A A' : Option Addr) (c c' : Nat) (l m : List UInt64) (s t : Int) (w : World) (hx : Src w P A l.length c (wds l)) (hy : Src w Q A' m.length c' (wds m)) (hm : m.length ≤ 4611686018427387904) :
    Calls Try.prog 37 #[flt A l.length c s, flt A' m.length c' t] w fun e w' => e = .returned (.bool (sameB l m s t)) ∧ Below w.heap.size w w' := by
  have hb2 : ∀ x y : Obj, Below w.heap.size w ((w.alloc x).alloc y) := fun x y => ((Below.refl _ _).alloc (Nat.le_refl _) _).alloc (by simp) _
  by_cases hs : s = t
  · by_cases hlm : l.length = m.length
    · subst hs
      rw [hlm] at hx ⊢
      exact same_len P Q A A' c c' m.length l m s w hx hy hm
    · have hr : sameB l m s t = false := by
        simp only [sameB, decide_eq_false_iff_not, not_and]
        rintro _ rfl
        exact hlm rfl
      have hne : ((l.length : Int) != (m.length : Int)) = true := by
        simp only [bne_iff_ne, ne_eq]
        omega
      go_enter Try.func37, Try.ntmps37
      go_wp2
      go_ret
      rw [hr]
      exact ⟨rfl, hb2 _ _⟩
  · have hr : sameB l m s t = false := by simp [sameB, hs]
    have hne : (s != t) = true := by simpa using hs
    go_enter Try.func37, Try.ntmps37
    go_wp2
    go_ret
    rw [hr]
    exact ⟨rfl, hb2 _ _⟩
end Go.Proofs.Ytlkhmpnahbbpeaa.Siv
