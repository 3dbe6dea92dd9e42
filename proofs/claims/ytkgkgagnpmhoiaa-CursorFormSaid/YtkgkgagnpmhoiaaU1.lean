/-
  Reading a piece back, on: texts.
-/
import Derived.Test.YtkgkgagnpmhoiaaT
namespace Go.Proofs.Ytkgkgagnpmhoiaa
open Go.RowKit

set_option maxHeartbeats 2000000 in
theorem same_texts (P Q : Nat → Prop) (g : Nat) (s : St) (A : Option Addr) (c : Nat) (p : Pc) (An : Option Addr) (cn : Nat) (As : Option Addr) (cs : Nat) (Ab : Option Addr) (cb : Nat) (w : World) (h : Rd w P g s.1 A c s.2)
    (hp : PcV w Q p An cn As cs Ab cb) (hq : ∀ k, Q k → k ≠ g) (hk : p.kind = 1) (hn : p.ss.length ≤ 140737488355328) :
    Calls Try.prog 23 #[.pointer (some ⟨g, 0, none⟩), .agg (pcells p An cn As cs Ab cb)] w (Same w P g (rTexts p.ss s)) := by
  obtain ⟨kind, size, n, ns, ss, b⟩ := p
  simp only at hk hn
  subst hk
  have hblk : (w.alloc (.cells (pcells ⟨1, size, n, ns, ss, b⟩ An cn As cs Ab cb) 34)).heap[w.heap.size]? = some (.cells (pcells ⟨1, size, n, ns, ss, b⟩ An cn As cs Ab cb) 34 (0, 0)) := heap_alloc_new _ _
  have hr := h.below ((Below.refl _ _).alloc (Nat.le_refl _) (.cells (pcells ⟨1, size, n, ns, ss, b⟩ An cn As cs Ab cb) 34))
  have hns := (hp.keep (w' := w.alloc (.cells (pcells ⟨1, size, n, ns, ss, b⟩ An cn As cs Ab cb) 34)) fun k _ hk => Below.heap_alloc _ _ _ hk).ss
  have hgl := h.lt
  have hcap := hp.ss.cap
  have HB := Lib.hid hblk
  have HR := Lib.hid hr
  have HN := Lib.hid hns
  have HQ := Lib.hid hq
  obtain ⟨k0, k1, k2, k3, k4, k5⟩ := piece_block hblk
  have HG := Lib.hid (World.grownBy_alloc w (.cells (pcells ⟨1, size, n, ns, ss, b⟩ An cn As cs Ab cb) 34) (some g))
  have hsz : w.heap.size < (w.alloc (.cells (pcells ⟨1, size, n, ns, ss, b⟩ An cn As cs Ab cb) 34)).heap.size := by simp
  have HZ := Lib.hid hsz
  clear h hp hblk hr hns hq k0 k1 k2 k3 k4 k5 hsz
  unfold pcells at *
  go_enter Try.func23, Try.ntmps23
  go_wp2_with fail
  generalize w.alloc (.cells #[.int .i64 1, .int .i64 size, .int .i64 n, .slice An ns.length cn, .slice As ss.length cs, .slice Ab b.length cb] 34) = wx at *
  have facts : ∀ (w' : World) (e : Int) (r : List UInt8), Is wx P g e r w' → w'.cell? ⟨w.heap.size, 4, none⟩ = some (.slice As ss.length cs) ∧
      ∀ ad, As = some ad → ∀ k (hk : k < ss.length), w'.cell? (ad.add k) = some (.string ⟨ss[k].toArray⟩) := by
    intro w' e r his
    have hb := (his.keepBlock w.heap.size HZ.out (by omega)).trans HB.out
    refine ⟨cell_of_row w' _ 4 _ _ _ hb, fun ad had k hk => ?_⟩
    exact (HN.out.keep fun j hj hjl => his.keepBlock j hjl (HQ.out j hj)).at_ ad had k _ (by simp [strs, List.getElem?_eq_getElem hk])
  have HF := Lib.hid facts
  clear facts
  obtain ⟨wo, hwo⟩ : ∃ wo : World, wo = wx := ⟨_, rfl⟩
  subst hwo
  go_loopw [6] (fun i wr => ∃ (k : Nat) (sk : St), k ≤ ss.length ∧ i = .int .i64 k ∧ rTexts ss s = rTexts (ss.drop k) sk ∧ Is wo P g sk.1 sk.2 wr) (fun i _ => ss.length - (intOf i).toNat)
  case atStart => exact ⟨0, s, Nat.zero_le _, rfl, rfl, A, c, HR.out, World.grownBy.refl _ _⟩
  case round =>
    obtain ⟨k, sk, hk, rfl, hsk, hisk⟩ := hrel
    have HSK := Lib.hid hsk
    have HIS := Lib.hid hisk
    obtain ⟨c3, ca⟩ := HF.out wr _ _ hisk
    by_cases hlt : k < ss.length
    · obtain ⟨ad, rfl⟩ : ∃ ad, As = some ad := by
        cases As with
        | none => have := (HN.out.nil rfl).1; omega
        | some ad => exact ⟨ad, rfl⟩
      have cn1 := ca ad rfl k hlt
      obtain ⟨Ak, ck, hrk, _⟩ := hisk
      have CC := Lib.hid (fun nq => (rtext_any P g sk Ak ck (wr.drewN nq) (hrk.draw nq)).mono (R' := Said wr P g (rMeas 2 4096 sk)) fun en w' h => ⟨h.1, h.2.undraw⟩)
      have hd : rTexts (ss.drop k) sk = if (rMeas 2 4096 sk).1 = ss[k] then rTexts (ss.drop (k + 1)) (rMeas 2 4096 sk).2 else (false, (rMeas 2 4096 sk).2) := by
        rw [List.drop_eq_getElem_cons hlt]
        rfl
      rw [hd] at hsk
      generalize rMeas 2 4096 sk = t at *
      obtain ⟨v, s2⟩ := t
      clear hd ca hrk
      by_cases hv : v = ss[k]
      · rw [if_pos hv] at hsk
        have HV := Lib.hid hsk
        clear hsk
        subst hv
        go_wp2_with fail
        go_region_with (go_at_call 27; refine (CC.out _).mono ?_; rintro en w2 ⟨rfl, his⟩; obtain ⟨d3, da⟩ := HF.out w2 _ _ (HIS.out.trans his); have e1 := da ad rfl k hlt; have HI2 := Lib.hid his; clear his da)
        all_goals
          go_wp2_with fail
          go_roundw
          case rel => exact ⟨k + 1, s2, by omega, by go_num, HV.out, HIS.out.trans HI2.out⟩
          case measure => simp [intOf]; omega
      · have b1 : (v == ss[k]) = false := by simpa using hv
        have b2 : (!(v == ss[k])) = true := by simpa using hv
        rw [if_neg hv] at hsk
        have HV := Lib.hid hsk
        clear hv hsk
        go_wp2_with fail
        go_region_with (go_at_call 27; refine (CC.out _).mono ?_; rintro en w2 ⟨rfl, his⟩; obtain ⟨d3, da⟩ := HF.out w2 _ _ (HIS.out.trans his); have e1 := da ad rfl k hlt; have HI2 := Lib.hid his; clear his da)
        all_goals
          go_wp2_with fail
          go_ret
          rw [HV.out]
          exact ⟨rfl, Is.grown HG.out (HIS.out.trans HI2.out)⟩
    · obtain rfl : k = ss.length := by omega
      rw [List.drop_length] at hsk
      have HV := Lib.hid hsk
      clear hsk hisk ca
      go_wp2_with fail
      go_ret
      rw [HV.out]
      exact ⟨rfl, Is.grown HG.out HIS.out⟩
end Go.Proofs.Ytkgkgagnpmhoiaa
