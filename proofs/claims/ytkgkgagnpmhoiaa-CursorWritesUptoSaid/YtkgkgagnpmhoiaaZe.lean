/-
  The laws' helper model: a piece, by the document.
-/
import Derived.Test.YtkgkgagnpmhoiaaZd
namespace Go.Proofs.Ytkgkgagnpmhoiaa
open Go.RowKit

set_option maxHeartbeats 1000000 in
theorem model_any (B g : Nat) (s : St) (A : Option Addr) (c : Nat) (p : Pc) (An : Option Addr) (cn : Nat) (As : Option Addr) (cs : Nat) (Ab : Option Addr) (cb : Nat) (w : World) (h : Wm w B g s.1 A c s.2)
    (hp : PcV w (fun k => k ≠ g ∧ row A ≠ some k) p An cn As cs Ab cb) (hn : s.2.length + cost p ≤ 140737488355328) :
    Calls Try.prog 16 #[.pointer (some ⟨g, 0, none⟩), .agg (pcells p An cn As cs Ab cb)] w (WroteM w B g A (wPut p s).1 (wPut p s).2) := by
  obtain ⟨kind, size, n, ns, ss, b⟩ := p
  have hcost : s.2.length + (8 * ns.length + room ss + b.length + 8) ≤ 140737488355328 := hn
  have hp' := hp.keep (w' := w.alloc (.cells (pcells ⟨kind, size, n, ns, ss, b⟩ An cn As cs Ab cb) 34)) fun k _ hk => Below.heap_alloc _ _ _ hk
  have h' := h.alloc (.cells (pcells ⟨kind, size, n, ns, ss, b⟩ An cn As cs Ab cb) 34)
  have hst := Lib.hid (Step.alloc g w (row A) (.cells (pcells ⟨kind, size, n, ns, ss, b⟩ An cn As cs Ab cb) 34))
  unfold pcells at *
  simp only at *
  by_cases h0 : kind = 0
  · subst h0
    have C := vnum_any B g s A c size An ns.length cn ns _ h' hp'.ns (by omega)
    have e : wPut ⟨0, size, n, ns, ss, b⟩ s = wNumsA size ns s := rfl
    rw [e]
    have HC := Lib.hid C
    clear h hp h' hp' C e hn hcost
    go_enter Try.func16, Try.ntmps16
    go_wp2_with (go_at_call 35; refine HC.out.mono ?_; rintro en w1 ⟨rfl, hat⟩; have HA := Lib.hid hat; clear hat)
    go_end0
    exact ⟨rfl, AtM.trans hst.out HA.out⟩
  have b0 : (kind == 0) = false := by simpa using h0
  by_cases h1 : kind = 1
  · subst h1
    have C := vtext_any B g s A c As ss.length cs ss _ h' hp'.ss (by omega)
    have e : wPut ⟨1, size, n, ns, ss, b⟩ s = wTexts ss s := rfl
    rw [e]
    have HC := Lib.hid C
    clear h hp h' hp' C e hn hcost
    go_enter Try.func16, Try.ntmps16
    go_wp2_with (go_at_call 36; refine HC.out.mono ?_; rintro en w1 ⟨rfl, hat⟩; have HA := Lib.hid hat; clear hat)
    go_end0
    exact ⟨rfl, AtM.trans hst.out HA.out⟩
  have b1 : (kind == 1) = false := by simpa using h1
  by_cases h2 : kind = 2
  · subst h2
    have C := vblock_any B g s A c Ab b.length cb b _ h' hp'.b (by omega)
    have e : wPut ⟨2, size, n, ns, ss, b⟩ s = wMeas 4 1048576 b s := rfl
    rw [e]
    have HC := Lib.hid C
    clear h hp h' hp' C e hn hcost
    go_enter Try.func16, Try.ntmps16
    go_wp2_with (go_at_call 37; refine HC.out.mono ?_; rintro en w1 ⟨rfl, hat⟩; have HA := Lib.hid hat; clear hat)
    go_end0
    exact ⟨rfl, AtM.trans hst.out HA.out⟩
  have b2 : (kind == 2) = false := by simpa using h2
  by_cases h3 : kind = 3
  · subst h3
    have C := vraw_any B g s A c _ Ab b.length cb b _ h' hp'.b (by omega)
    have e : wPut ⟨3, size, n, ns, ss, b⟩ s = (s.1, putIf s.1 s.2 b) := rfl
    rw [e]
    have HC := Lib.hid C
    clear h hp h' hp' C e hn hcost
    go_enter Try.func16, Try.ntmps16
    go_wp2_with (go_at_call 38; refine HC.out.mono ?_; rintro en w1 ⟨rfl, hat⟩; have HA := Lib.hid hat; clear hat)
    go_end0
    exact ⟨rfl, AtM.trans hst.out HA.out⟩
  have b3 : (kind == 3) = false := by simpa using h3
  have e : wPut ⟨kind, size, n, ns, ss, b⟩ s = s := by unfold wPut; simp [h0, h1, h2, h3]
  rw [e]
  have H := Lib.hid h'
  clear h hp h' hp' e hn hcost h0 h1 h2 h3
  go_enter Try.func16, Try.ntmps16
  go_wp2
  go_end0
  exact ⟨rfl, A, c, H.out, hst.out⟩
end Go.Proofs.Ytkgkgagnpmhoiaa
