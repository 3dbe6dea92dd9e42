/-
  Reading a piece back, on: raw bytes.
-/
import Derived.Test.YtkgkgagnpmhoiaaT
namespace Go.Proofs.Ytkgkgagnpmhoiaa
open Go.RowKit

set_option maxHeartbeats 2000000 in
theorem same_raw (P Q : Nat → Prop) (g : Nat) (s : St) (A : Option Addr) (c : Nat) (p : Pc) (An : Option Addr) (cn : Nat) (As : Option Addr) (cs : Nat) (Ab : Option Addr) (cb : Nat) (w : World) (h : Rd w P g s.1 A c s.2)
    (hp : PcV w Q p An cn As cs Ab cb) (hq : ∀ k, Q k → k ≠ g) (hk : p.kind = 3) (hn : p.b.length ≤ 140737488355328) :
    Calls Try.prog 23 #[.pointer (some ⟨g, 0, none⟩), .agg (pcells p An cn As cs Ab cb)] w (Same w P g (decide ((rTake p.b.length s).1 = p.b), (rTake p.b.length s).2)) := by
  obtain ⟨kind, size, n, ns, ss, b⟩ := p
  simp only at hk hn
  subst hk
  have hblk : (w.alloc (.cells (pcells ⟨3, size, n, ns, ss, b⟩ An cn As cs Ab cb) 34)).heap[w.heap.size]? = some (.cells (pcells ⟨3, size, n, ns, ss, b⟩ An cn As cs Ab cb) 34 (0, 0)) := heap_alloc_new _ _
  have hr := h.below ((Below.refl _ _).alloc (Nat.le_refl _) (.cells (pcells ⟨3, size, n, ns, ss, b⟩ An cn As cs Ab cb) 34))
  have hns := (hp.keep (w' := w.alloc (.cells (pcells ⟨3, size, n, ns, ss, b⟩ An cn As cs Ab cb) 34)) fun k _ hk => Below.heap_alloc _ _ _ hk).b
  have hgl := h.lt
  have hcap := hp.b.cap
  have HB := Lib.hid hblk
  have HR := Lib.hid hr
  have HN := Lib.hid hns
  have HQ := Lib.hid hq
  have HG := Lib.hid (World.grownBy_alloc w (.cells (pcells ⟨3, size, n, ns, ss, b⟩ An cn As cs Ab cb) 34) (some g))
  have hsz : w.heap.size < (w.alloc (.cells (pcells ⟨3, size, n, ns, ss, b⟩ An cn As cs Ab cb) 34)).heap.size := by simp
  have HZ := Lib.hid hsz
  clear h hp hblk hr hns hq hsz
  unfold pcells at *
  go_enter Try.func23, Try.ntmps23
  go_wp2_with fail
  generalize w.alloc (.cells #[.int .i64 3, .int .i64 size, .int .i64 n, .slice An ns.length cn, .slice As ss.length cs, .slice Ab b.length cb] 34) = wx at *
  have facts : ∀ (w' : World) (e : Int) (r : List UInt8), Is wx P g e r w' → w'.cell? ⟨w.heap.size, 5, none⟩ = some (.slice Ab b.length cb) ∧ Src w' Q Ab b.length cb (cells b) := by
    intro w' e r his
    have hb := (his.keepBlock w.heap.size HZ.out (by omega)).trans HB.out
    exact ⟨cell_of_row w' _ 5 _ _ _ hb, HN.out.keep fun j hj hjl => his.keepBlock j hjl (HQ.out j hj)⟩
  have HF := Lib.hid facts
  obtain ⟨c5, hsb⟩ := facts wx _ _ ⟨A, c, HR.out, World.grownBy.refl _ _⟩
  have hcv : ∀ nq, Sem.run Try.prog (convert 27 9 (.slice Ab b.length cb)) (wx.drewN nq) = .ok (.string ⟨b.toArray⟩) (wx.drewN nq) := fun nq => conv_string (w := wx.drewN nq) (hsb.keep fun _ _ _ => rfl)
  have hcv1 : Sem.run Try.prog (convert 27 9 (.slice Ab b.length cb)) wx.drew = .ok (.string ⟨b.toArray⟩) wx.drew := hcv 1
  have CC := Lib.hid (fun nq => (rraw_ok P g s A c b.length (wx.drewN nq) (HR.out.draw nq)).mono (R' := fun en w' => ∃ A c, en = .returned (.slice A (rTake b.length s).1.length c) ∧ Src w' (fun _ => True) A (rTake b.length s).1.length c (cells (rTake b.length s).1) ∧ Is wx P g (rTake b.length s).2.1 (rTake b.length s).2.2 w') fun en w' h => by
    obtain ⟨A', c', h1, h2, h3⟩ := h
    exact ⟨A', c', h1, (Src.of_own h2).weak fun _ _ => trivial, h3.undraw⟩)
  clear facts hsb
  generalize rTake b.length s = t at *
  obtain ⟨v, s2⟩ := t
  by_cases hv : v = b
  · subst hv
    go_region_with (go_at_call 29; refine (CC.out _).mono ?_; rintro en w2 ⟨A2, c2, rfl, hs2, his⟩; obtain ⟨d5, db⟩ := HF.out w2 _ _ his; have e1 := conv_string hs2; have e2 := conv_string db; have HI2 := Lib.hid his; clear his db hs2)
    all_goals
      go_wp2_with fail
      go_ret
      exact ⟨rfl, Is.grown HG.out HI2.out⟩
  · have b1 : (v == b) = false := by simpa using hv
    have b2 : (!(v == b)) = true := by simpa using hv
    have b3 : decide (v = b) = false := by simpa using hv
    have HV := Lib.hid b3
    clear b3 hv
    go_region_with (go_at_call 29; refine (CC.out _).mono ?_; rintro en w2 ⟨A2, c2, rfl, hs2, his⟩; obtain ⟨d5, db⟩ := HF.out w2 _ _ his; have e1 := conv_string hs2; have e2 := conv_string db; have HI2 := Lib.hid his; clear his db hs2)
    all_goals
      go_wp2_with fail
      go_ret
      rw [HV.out]
      exact ⟨rfl, Is.grown HG.out HI2.out⟩
end Go.Proofs.Ytkgkgagnpmhoiaa
