/-
  Tables that are the same.
-/
import Derived.Test.YtlkhmpnahbbpeaaMLoad
import Derived.Test.YtlkhmpnahbbpeaaYTo
namespace Go.Proofs.Ytlkhmpnahbbpeaa
open Go.RowKit

/-- Two boxes of tables. -/
theorem tab_two (w : World) (cs ds : Array Value) : Below w.heap.size w ((w.alloc (.cells cs 29)).alloc (.cells ds 29)) ∧ Tx ((w.alloc (.cells cs 29)).alloc (.cells ds 29)) w.heap.size cs ∧ Tx ((w.alloc (.cells cs 29)).alloc (.cells ds 29)) (w.heap.size + 1) ds := by
  refine ⟨((Below.refl _ _).alloc (Nat.le_refl _) _).alloc (by simp) _, (Below.heap_alloc _ _ _ (by simp)).trans (heap_alloc_new _ _), ?_⟩
  have := heap_alloc_new (w.alloc (.cells cs 29)) (.cells ds 29)
  rw [Tx]
  simpa using this
set_option maxRecDepth 100000 in
set_option maxHeartbeats 4000000 in
theorem same_yes (A : Option Addr) (n c : Nat) (Af : Option Addr) (cf : Nat) (B : Option Addr) (d : Nat) (Bf : Option Addr) (df : Nat) (f : Nat → List Int) (L : List UInt64) (sh : Int) (w : World)
    (hx : TabV w (fun k => k < w.heap.size) A n c Af cf f L) (hy : TabV w (fun k => k < w.heap.size) B n d Bf df f L) (hn : n ≤ 140737488355328) (hL : L.length ≤ 140737488355328) (hf : ∀ k, k < n → (f k).length ≤ 140737488355328) :
    Calls Try.prog 15 #[.agg (tabA A n c Af L.length cf sh), .agg (tabA B n d Bf L.length df sh)] w fun e w' => e = .returned (.bool true) ∧ Below w.heap.size w w' := by
  obtain ⟨hb1, hx1, hy1⟩ := tab_two w (tabA A n c Af L.length cf sh) (tabA B n d Bf L.length df sh)
  have HX := Lib.hid hx
  have HY := Lib.hid hy
  have HFL := Lib.hid hf
  have hxc := hx.rows.cap
  have hyc := hy.rows.cap
  clear hx hy hf
  have hnn : ((n : Int) != (n : Int)) = false := by simp
  go_enter Try.func15, Try.ntmps15
  go_upto_region 1 with (fail)
  change Code.wp _ _ _ _ ((w.alloc (.cells (tabA A n c Af L.length cf sh) 29)).alloc (.cells (tabA B n d Bf L.length df sh) 29))
  generalize (w.alloc (.cells (tabA A n c Af L.length cf sh) 29)).alloc (.cells (tabA B n d Bf L.length df sh) 29) = w1 at *
  have HSM := Lib.hid ((Siv.same_any _ _ Af Bf cf df L L sh sh w1 (HX.out.lt hb1).words (HY.out.lt hb1).words (by omega)).mono fun e w' hh => show e = .returned (.bool true) ∧ Below w1.heap.size w1 w' from ⟨by rw [hh.1]; simp [Siv.sameB], hh.2⟩)
  have HB1 := Lib.hid hb1
  have HX1 := Lib.hid hx1
  have HY1 := Lib.hid hy1
  have t0 := cell_of_row w1 w.heap.size 0 _ _ _ hx1
  have t1 := cell_of_row w1 w.heap.size 1 _ _ _ hx1
  have t2 := cell_of_row w1 w.heap.size 2 _ _ _ hx1
  have u0 := cell_of_row w1 (w.heap.size + 1) 0 _ _ _ hy1
  have u1 := cell_of_row w1 (w.heap.size + 1) 1 _ _ _ hy1
  have u2 := cell_of_row w1 (w.heap.size + 1) 2 _ _ _ hy1
  simp only [List.getElem?_toArray, List.getElem?_cons_succ, List.getElem?_cons_zero] at t0 t1 t2 u0 u1 u2
  clear hb1 hx1 hy1
  generalize L.length = ll at *
  go_upto_region 2 with (go_at_call 37; (with_reducible refine (HSM.out).mono ?_); rintro e w2 ⟨rfl, hb2⟩)
  have HB2 := Lib.hid (HB1.out.trans (hb2.mono HB1.out.size))
  clear t0 t1 t2 u0 u1 u2
  have q0 : w2.cell? ⟨w.heap.size, 0, none⟩ = some (.slice A n c) := cell_of_row w2 w.heap.size 0 _ _ _ (HX1.out.below hb2)
  have q1 : w2.cell? ⟨w.heap.size + 1, 0, none⟩ = some (.slice B n d) := cell_of_row w2 (w.heap.size + 1) 0 _ _ _ (HY1.out.below hb2)
  clear HX1 HY1 HB1 HSM hb2
  go_upto_region 4 with (fail)
  go_loopw [5] (fun t wr => ∃ k j : Nat, k ≤ n ∧ t = .int .i64 k ∧ wr = w2.drewN j) (fun t _ => n - (intOf t).toNat)
  case atStart => exact ⟨0, 0, Nat.zero_le _, rfl, rfl⟩
  case round =>
    obtain ⟨k, j, hk, rfl, rfl⟩ := hrel
    by_cases hki : k < n
    · obtain ⟨ad, rfl⟩ : ∃ ad, A = some ad := by
        cases A with
        | none => have := (HX.out.rows.nil rfl).1; omega
        | some ad => exact ⟨ad, rfl⟩
      obtain ⟨bd, rfl⟩ : ∃ bd, B = some bd := by
        cases B with
        | none => have := (HY.out.rows.nil rfl).1; omega
        | some ad => exact ⟨ad, rfl⟩
      obtain ⟨Ai, ci, x1, x2⟩ := (HX.out.lt HB2.out).rows.at_ ad rfl k hki
      obtain ⟨Bi, di, y1, y2⟩ := (HY.out.lt HB2.out).rows.at_ bd rfl k hki
      have HS1 := Lib.hid x2
      have HS2 := Lib.hid y2
      have z1 := x2.cap
      have z2 := y2.cap
      have hfl := HFL.out k hki
      clear x2 y2
      generalize f k = l at *
      have hll : ((l.length : Int) != (l.length : Int)) = false := by simp
      go_upto_region 6 with (fail)
      go_quiet (fail)
      go_upto_region 9 with (fail)
      go_loopw [6] (fun t wq => ∃ i j : Nat, i ≤ l.length ∧ t = .int .i64 i ∧ wq = w2.drewN j) (fun t _ => l.length - (intOf t).toNat)
      case atStart => exact ⟨0, _, Nat.zero_le _, rfl, by first | rfl | exact (World.drewN_drewN _ _ _)⟩
      case round =>
        obtain ⟨i, j2, hi, rfl, rfl⟩ := hrel
        by_cases hil : i < l.length
        · obtain ⟨ai, rfl⟩ : ∃ ai, Ai = some ai := by
            cases Ai with
            | none => have := (HS1.out.nil rfl).1; omega
            | some ad => exact ⟨ad, rfl⟩
          obtain ⟨bi, rfl⟩ : ∃ bi, Bi = some bi := by
            cases Bi with
            | none => have := (HS2.out.nil rfl).1; omega
            | some ad => exact ⟨ad, rfl⟩
          have v1 : w2.cell? (ai.add i) = some (.int .i64 l[i]) := HS1.out.at_ ai rfl i _ (il_get l i hil)
          have v2 : w2.cell? (bi.add i) = some (.int .i64 l[i]) := HS2.out.at_ bi rfl i _ (il_get l i hil)
          generalize l[i] = z at *
          have hzz : (z != z) = false := by simp
          go_upto_region 11 with (fail)
          go_quiet (fail)
          go_wp2_with fail
          go_roundw
          case rel => exact ⟨i + 1, _, hil, by go_num, by first | rfl | exact (World.drewN_drewN _ _ _)⟩
          case measure => simp [intOf]; omega
        · obtain rfl : i = l.length := by omega
          go_wp2_with fail
          go_roundw
          case rel => exact ⟨k + 1, _, hki, by go_num, rfl⟩
          case measure => simp [intOf]; omega
    · obtain rfl : k = n := by omega
      go_upto_region 99 with (fail)
      first | go_ret | skip
      exact ⟨rfl, below_drewN HB2.out _⟩
end Go.Proofs.Ytlkhmpnahbbpeaa
