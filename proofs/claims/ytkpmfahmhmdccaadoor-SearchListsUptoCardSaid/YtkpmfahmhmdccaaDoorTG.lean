/-
  What a text becomes: the program's.
-/
import Derived.Test.YtkpmfahmhmdccaaDoorTE
namespace Go.Proofs.YtkpmfahmhmdccaaDoor
open Go.RowKit

theorem strs_app (a b : List Str) : strs (a ++ b) = strs a ++ strs b := by simp [strs]
theorem strs_one (l : List Str) : ∀ u ∈ strs l, u.oneCell' = true := by
  intro u hu
  simp only [strs, List.mem_map] at hu
  obtain ⟨s, _, rfl⟩ := hu
  rfl
theorem below_up {B B' : Nat} {a w : World} (h : Below B a w) (hB : B' ≤ B) : Below B' a w := h.mono hB

/-- What piecesOf hands back. -/
def Pieces (w : World) (o p0 : Str) (ps : List Str) (e : Ending) (w' : World) : Prop :=
  match pcs o ps with
  | none => e = .returned (.tuple #[.slice none 0 0, .int .i64 110]) ∧ Below w.heap.size w w'
  | some acc => ∃ A c, e = .returned (.tuple #[.slice A (acc.length + 1) c, .int .i64 0]) ∧ Src w' (fun k => k < w'.heap.size) A (acc.length + 1) c (strs (p0 :: acc)) ∧ Below w.heap.size w w'

theorem own_fresh (w : World) (l : List Str) (hl : l.length ≤ maxLen) : (w.alloc (.cells (strs l).toArray 9)).ownsRow w.heap.size 9 1 (.slice (some ⟨w.heap.size, 0, none⟩) l.length l.length) l.length (strs l) :=
  ⟨by simp, .inr ⟨_, _, _, rfl, Nat.le_refl _, heap_alloc_new _ _, Nat.le_refl _, hl, by simp, by rw [List.take_of_length_le (by simp)]⟩⟩
theorem cells_new (w : World) (vs : List Value) (t : TypeId) : ∀ j u, vs[j]? = some u → (w.alloc (.cells vs.toArray t)).cell? ((⟨w.heap.size, 0, none⟩ : Addr).add j) = some u := by
  intro j u hu
  have : ((⟨w.heap.size, 0, none⟩ : Addr).add j) = ⟨w.heap.size, j, none⟩ := by
    unfold Addr.add; split <;> simp_all
  rw [this, Lib.cell_of_heap (heap_alloc_new _ _)]
  simpa using hu
/-- All but a slice's first one. -/
theorem slice_rest (b m : Nat) (hm : m + 1 ≤ 9223372036854775807) : ∃ a0, (∀ W, (Instr.slice 22 (.slice (some ⟨b, 0, none⟩) (m + 1) (m + 1)) (some (.int .i64 1)) none none).run Tryd.prog W = .ok (.slice (some a0) m m) W) ∧ (0 < m → a0 = ⟨b, 1, none⟩) := by
  have hs : ∀ W, (sizeOf (Tryd.prog.elem 22)).run Tryd.prog W = .ok 1 W := fun W => Tryd.sizeOf9 W
  refine ⟨if m = 0 then ⟨b, 0, none⟩ else ⟨b, 1, none⟩, fun W => ?_, fun h => if_neg (by omega)⟩
  rw [run_slice_l (w := W) (t := 22) (a := some ⟨b, 0, none⟩) (len := m + 1) (cap := m + 1) (ht := by kernel_rfl) (kl := .i64) (l := 1) (h0 := by omega) (h1 := by omega), hs]
  simp only [Result.andThen, sliced]
  by_cases h : m = 0
  · subst h; rfl
  · rw [if_neg (by simp; omega), if_neg h]
    simp [Addr.add]

set_option maxRecDepth 100000 in
set_option maxHeartbeats 1000000 in
theorem pieces_any (t o p0 : Str) (ps : List Str) (w : World) (ht : t.length ≤ 200) (hm : Ml w) (hsp : spl 36 t = p0 :: ps) :
    Calls Tryd.prog 39 #[str t, str o] w (Pieces w o p0 ps) := by
  have hps : ps.length ≤ 200 := by
    have := spl_length 36 t
    rw [hsp] at this
    simp at this
    omega
  have hi0 : (Tryd.prog.info? 9).map (fun i => (i.zero, i.size, i.bytes)) = some (some (.string ⟨#[]⟩), 1, 16) := by kernel_rfl
  obtain ⟨i0, hi, hz0, hz1, hz2⟩ := info_parts hi0
  have HSP := Lib.hid (split_any 36 t w (by omega) hm)
  rw [hsp] at HSP
  have HN := Lib.hid (pcs_bad o ps)
  have HSN := Lib.hid (pcs_snoc o)
  have HPL := Lib.hid (pcs_len o)
  go_enter Tryd.func39, Tryd.ntmps39
  go_wp2_with fail
  refine HSP.out.mono ?_
  rintro e w1 ⟨rfl, hw1⟩
  have hg1 : w1.heap[w.heap.size]? = some (.cells (strs (p0 :: ps)).toArray 9 (0, 0)) := by rw [hw1]; exact heap_alloc_new _ _
  have hB1 : Below w.heap.size w w1 := by rw [hw1]; exact (Below.refl _ _).alloc (Nat.le_refl _) _
  have hz : w1.heap.size = w.heap.size + 1 := by rw [hw1]; simp
  have hc0 : w1.cell? ⟨w.heap.size, 0, none⟩ = some (str p0) := by rw [Lib.cell_of_heap hg1]; rfl
  have hck : ∀ (k : Nat) (hk : k < ps.length), w1.cell? ⟨w.heap.size, 1 + k, none⟩ = some (str ps[k]) := by
    intro k hk
    rw [Lib.cell_of_heap hg1, Nat.add_comm]
    have e : (strs (p0 :: ps))[k + 1]? = some (str ps[k]) := strs_get (p0 :: ps) (k + 1) (by simp; omega)
    simpa using e
  have H1 := Lib.hid (And.intro hB1 hz)
  have HC := Lib.hid hck
  clear hw1 hB1 hck hg1 hz
  obtain ⟨a0, hsl, ha0⟩ := slice_rest w.heap.size ps.length (by omega)
  have HA0 := Lib.hid ha0
  have HZ := Lib.hid (show (w1.alloc (.cells #[str p0] 9)).heap.size = w1.heap.size + 1 by simp)
  have H2 := Lib.hid ((Below.refl w1.heap.size w1).alloc (Nat.le_refl _) (.cells #[str p0] 9))
  clear ha0
  generalize hR : Pieces w o p0 ps = R at *
  have HR := Lib.hid hR
  clear hR
  go_wp2_with fail
  go_loopw [7, 9, 10, 11, 12, 22] (fun t7 _ _ _ _ t22 wr => ∃ (k : Nat) (acc : List Str) (A : Option Addr) (c : Nat), k ≤ ps.length ∧ t22 = .int .i64 (k : Int) ∧ t7 = .slice A (2 * k + 1) c ∧ pcs o (ps.take k) = some acc ∧ wr.ownsRow w1.heap.size 9 1 (.slice A (2 * k + 1) c) (2 * k + 1) (strs (p0 :: acc)) ∧ Below w1.heap.size w1 wr) (fun _ _ _ _ _ t22 _ => ps.length - (intOf t22).toNat)
  case atStart =>
    refine ⟨0, [], _, 1, Nat.zero_le _, rfl, rfl, by rw [List.take_zero, pcs], own_fresh w1 [p0] (by simp [maxLen]), H2.out⟩
  case round =>
    obtain ⟨k, acc, A, c, hk, rfl, rfl, hac, hown, hbr⟩ := hrel
    have HO := Lib.hid hown
    have HB := Lib.hid hbr
    have HAC := Lib.hid hac
    have HAL := Lib.hid (show acc.length = 2 * k by
      have := HPL.out _ _ hac
      rw [List.length_take] at this
      omega)
    clear hown hbr hac
    by_cases hkn : k < ps.length
    · have hc := (HB.out.cell (p := ⟨w.heap.size, 1 + k, none⟩) (by rw [H1.out.2]; simp)).trans (HC.out k hkn)
      obtain rfl := HA0.out (by omega)
      have HCW := Lib.hid (cutWord_any ps[k] o)
      cases hcw : cutW o ps[k] with
      | none =>
        obtain ⟨v, r, hv⟩ := cutR_no hcw
        rw [hv] at HCW
        have hn := HN.out ps[k] (List.getElem_mem _) hcw
        have HNN := Lib.hid hn
        clear hcw hv hn
        generalize ps[k] = p at *
        go_wp2_with fail
        refine (HCW.out _).mono ?_
        rintro e w2 ⟨rfl, rfl⟩
        go_wp2
        show R (.returned (.tuple #[.slice none 0 0, .int .i64 110])) _
        rw [← HR.out, Pieces, HNN.out]
        exact ⟨rfl, H1.out.1.trans (HB.out.mono (by have := H1.out.2; omega))⟩
      | some x =>
        have hv := cutR_yes hcw
        rw [hv] at HCW
        have hn := HSN.out ps[k] x hcw _ _ HAC.out
        rw [← List.take_succ_eq_append_getElem hkn] at hn
        have HNN := Lib.hid hn
        clear hcw hv hn
        generalize ps[k] = p at *
        generalize x.1 = v at *
        generalize x.2 = r at *
        have HBA := Lib.hid ((Below.refl wr.heap.size wr).alloc (Nat.le_refl _) (.cells #[str v, str r] 9))
        have HOA := Lib.hid (HO.out.alloc (.cells #[str v, str r] 9))
        have HCN := Lib.hid (cells_new wr [str v, str r] 9)
        have HSZ := Lib.hid (show (wr.alloc (.cells #[str v, str r] 9)).heap.size = wr.heap.size + 1 by simp)
        have hs1 := HB.out.size
        go_wp2_with fail
        refine (HCW.out _).mono ?_
        rintro e w2 ⟨rfl, rfl⟩
        go_wp2_with (at_builtin; refine wpList_append_src rfl (.tmp 35) (.tmp 38) 22 rfl w1.heap.size 9 i0 (.string ⟨#[]⟩) 16 Tryd.underlying22 hi hz0 hz1 hz2 rfl (.slice A (2 * k + 1) c) (2 * k + 1) (strs (p0 :: acc)) rfl HOA.out (fun _ => True) _ 2 2 [str v, str r] rfl ⟨rfl, (by intro h; cases h), Nat.le_refl _, (by intro _ _ _; trivial), (by intro ad h; cases h; exact HCN.out)⟩ (by intro u hu; simp at hu; rcases hu with rfl | rfl <;> rfl) (by simp only [maxLen]; omega) (by omega) (by have := HSZ.out; omega) ?_; intro v' w2 hown hg hat; obtain ⟨A', c', rfl⟩ := own_slice hown; have HO2 := Lib.hid hown; have HG2 := Lib.hid hg; clear hown hg hat)
        go_round
        case rel =>
          refine ⟨k + 1, acc ++ [v, r], A', c', by omega, by go_num, by congr 1 <;> omega, HNN.out, ?_, (HB.out.trans (HBA.out.mono hs1)).grown HG2.out (by have := HSZ.out; omega) (fun j hj => (HOA.out.lt j hj).1)⟩
          simpa [strs, show 2 * (k + 1) + 1 = 2 * k + 1 + 2 by omega] using HO2.out
        case measure => simp [intOf]; omega
    · obtain rfl : k = ps.length := by omega
      rw [List.take_of_length_le (Nat.le_refl _)] at HAC
      go_wp2
      show R (.returned (.tuple #[.slice A (2 * ps.length + 1) c, .int .i64 0])) _
      rw [← HR.out, Pieces, HAC.out]
      have hx := (Src.of_own HO.out).lt
      have he := HAL.out
      rw [← he] at hx ⊢
      refine ⟨A, c, rfl, hx, H1.out.1.trans (HB.out.mono (by have := H1.out.2; omega))⟩
end Go.Proofs.YtkpmfahmhmdccaaDoor
