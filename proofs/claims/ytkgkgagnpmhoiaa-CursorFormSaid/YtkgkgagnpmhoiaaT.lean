/-
  Reading a piece back: what the laws' helper 'same' answers, for every piece and every reader.
-/
import Derived.Test.YtkgkgagnpmhoiaaS
import Derived.Deep.RegionWith
namespace Go.Proofs.Ytkgkgagnpmhoiaa
open Go.RowKit

def rNums (size : Int) : List Int → St → Bool × St
  | [], s => (true, s)
  | n :: ns, s => if (rNum size s).1 = n then rNums size ns (rNum size s).2 else (false, (rNum size s).2)
def rTexts : List (List UInt8) → St → Bool × St
  | [], s => (true, s)
  | l :: ss, s => if (rMeas 2 4096 s).1 = l then rTexts ss (rMeas 2 4096 s).2 else (false, (rMeas 2 4096 s).2)
def rSame (p : Pc) (s : St) : Bool × St :=
  if p.kind = 0 then rNums p.size p.ns s else if p.kind = 1 then rTexts p.ss s else
    if p.kind = 2 then (decide ((rMeas 4 1048576 s).1 = p.b), (rMeas 4 1048576 s).2) else
      if p.kind = 3 then (decide ((rTake p.b.length s).1 = p.b), (rTake p.b.length s).2) else (true, s)

/-- Behind a comparison. -/
def Same (w : World) (P : Nat → Prop) (g : Nat) (t : Bool × St) (en : Ending) (w' : World) : Prop := en = .returned (.bool t.1) ∧ Is w P g t.2.1 t.2.2 w'

theorem val_i64 (l : List UInt8) : I64 (val l) := by unfold val I64 wrap64; omega
theorem rNum_i64 (size : Int) (s : St) : I64 (rNum size s).1 := by
  unfold rNum
  split
  · exact val_i64 _
  · unfold I64; simp

theorem Is.alloc {w w1 : World} {P : Nat → Prop} {g : Nat} {e : Int} {rest : List UInt8} {o : Obj} (h : Is (w.alloc o) P g e rest w1) : Is w P g e rest w1 :=
  Is.grown (World.grownBy_alloc w o (some g)) h
theorem Is.trans {w w1 w2 : World} {P : Nat → Prop} {g : Nat} {e e' : Int} {rest rest' : List UInt8} (h : Is w P g e rest w1) (k : Is w1 P g e' rest' w2) : Is w P g e' rest' w2 := by
  obtain ⟨_, _, _, h⟩ := h
  exact Is.grown h k
theorem Is.keepBlock {w w1 : World} {P : Nat → Prop} {g : Nat} {e : Int} {rest : List UInt8} (h : Is w P g e rest w1) (k : Nat) (hk : k < w.heap.size) (hg : k ≠ g) : w1.heap[k]? = w.heap[k]? := by
  obtain ⟨_, _, _, h⟩ := h
  exact h.block k hk (fun e => hg (by injection e))

theorem Is.undraw {w w1 : World} {n : Nat} {P : Nat → Prop} {g : Nat} {e : Int} {rest : List UInt8} (h : Is (w.drewN n) P g e rest w1) : Is w P g e rest w1 := by
  obtain ⟨A, c, h1, h2⟩ := h
  exact ⟨A, c, h1, h2.os, h2.tape, h2.output, h2.size, h2.block⟩
theorem Rd.draw {w : World} {P : Nat → Prop} {g : Nat} {e : Int} {A : Option Addr} {c : Nat} {rest : List UInt8} (h : Rd w P g e A c rest) (n : Nat) : Rd (w.drewN n) P g e A c rest :=
  ⟨h.blk, h.src.keep fun _ _ _ => rfl, h.ne, h.lim, h.small⟩

set_option maxHeartbeats 2000000 in
theorem same_nums (P Q : Nat → Prop) (g : Nat) (s : St) (A : Option Addr) (c : Nat) (p : Pc) (An : Option Addr) (cn : Nat) (As : Option Addr) (cs : Nat) (Ab : Option Addr) (cb : Nat) (w : World) (h : Rd w P g s.1 A c s.2)
    (hp : PcV w Q p An cn As cs Ab cb) (hq : ∀ k, Q k → k ≠ g) (hk : p.kind = 0) (hn : p.ns.length ≤ 140737488355328) :
    Calls Try.prog 23 #[.pointer (some ⟨g, 0, none⟩), .agg (pcells p An cn As cs Ab cb)] w (Same w P g (rNums p.size p.ns s)) := by
  obtain ⟨kind, size, n, ns, ss, b⟩ := p
  simp only at hk hn
  subst hk
  have hblk : (w.alloc (.cells (pcells ⟨0, size, n, ns, ss, b⟩ An cn As cs Ab cb) 34)).heap[w.heap.size]? = some (.cells (pcells ⟨0, size, n, ns, ss, b⟩ An cn As cs Ab cb) 34 (0, 0)) := heap_alloc_new _ _
  have hr := h.below ((Below.refl _ _).alloc (Nat.le_refl _) (.cells (pcells ⟨0, size, n, ns, ss, b⟩ An cn As cs Ab cb) 34))
  have hns := (hp.keep (w' := w.alloc (.cells (pcells ⟨0, size, n, ns, ss, b⟩ An cn As cs Ab cb) 34)) fun k _ hk => Below.heap_alloc _ _ _ hk).ns
  have hgl := h.lt
  have hcap := hp.ns.cap
  have HB := Lib.hid hblk
  have HR := Lib.hid hr
  have HN := Lib.hid hns
  have HQ := Lib.hid hq
  have HI := Lib.hid hp.i64
  obtain ⟨k0, k1, k2, k3, k4, k5⟩ := piece_block hblk
  have HK3 := Lib.hid k3
  have HG := Lib.hid (World.grownBy_alloc w (.cells (pcells ⟨0, size, n, ns, ss, b⟩ An cn As cs Ab cb) 34) (some g))
  have hsz : w.heap.size < (w.alloc (.cells (pcells ⟨0, size, n, ns, ss, b⟩ An cn As cs Ab cb) 34)).heap.size := by simp
  have HZ := Lib.hid hsz
  clear h hp hblk hr hns hq k0 k1 k2 k3 k4 k5 hsz
  unfold pcells at *
  go_enter Try.func23, Try.ntmps23
  go_wp2_with fail
  generalize w.alloc (.cells #[.int .i64 0, .int .i64 size, .int .i64 n, .slice An ns.length cn, .slice As ss.length cs, .slice Ab b.length cb] 34) = wx at *
  have facts : ∀ (w' : World) (e : Int) (r : List UInt8), Is wx P g e r w' → w'.cell? ⟨w.heap.size, 1, none⟩ = some (.int .i64 size) ∧ w'.cell? ⟨w.heap.size, 3, none⟩ = some (.slice An ns.length cn) ∧
      ∀ ad, An = some ad → ∀ k (hk : k < ns.length), w'.cell? (ad.add k) = some (.int .i64 ns[k]) := by
    intro w' e r his
    have hb := (his.keepBlock w.heap.size HZ.out (by omega)).trans HB.out
    refine ⟨cell_of_row w' _ 1 _ _ _ hb, cell_of_row w' _ 3 _ _ _ hb, fun ad had k hk => ?_⟩
    exact (HN.out.keep fun j hj hjl => his.keepBlock j hjl (HQ.out j hj)).at_ ad had k _ (by simp [ints, List.getElem?_eq_getElem hk])
  have HF := Lib.hid facts
  clear facts
  obtain ⟨wo, hwo⟩ : ∃ wo : World, wo = wx := ⟨_, rfl⟩
  subst hwo
  go_loopw [5] (fun i wr => ∃ (k : Nat) (sk : St), k ≤ ns.length ∧ i = .int .i64 k ∧ rNums size ns s = rNums size (ns.drop k) sk ∧ Is wo P g sk.1 sk.2 wr) (fun i _ => ns.length - (intOf i).toNat)
  case atStart => exact ⟨0, s, Nat.zero_le _, rfl, rfl, A, c, HR.out, World.grownBy.refl _ _⟩
  case round =>
    obtain ⟨k, sk, hk, rfl, hsk, hisk⟩ := hrel
    have HSK := Lib.hid hsk
    have HIS := Lib.hid hisk
    obtain ⟨c1, c3, ca⟩ := HF.out wr _ _ hisk
    by_cases hlt : k < ns.length
    · obtain ⟨ad, rfl⟩ : ∃ ad, An = some ad := by
        cases An with
        | none => have := (HN.out.nil rfl).1; omega
        | some ad => exact ⟨ad, rfl⟩
      have cn1 := ca ad rfl k hlt
      obtain ⟨Ak, ck, hrk, _⟩ := hisk
      have CC := Lib.hid (fun nq => (rnum_any P g sk Ak ck size (wr.drewN nq) (hrk.draw nq)).mono (R' := Read wr P g (.int .i64 (rNum size sk).1) (rNum size sk).2.1 (rNum size sk).2.2) fun en w' h => ⟨h.1, h.2.undraw⟩)
      have hd : rNums size (ns.drop k) sk = if (rNum size sk).1 = ns[k] then rNums size (ns.drop (k + 1)) (rNum size sk).2 else (false, (rNum size sk).2) := by
        rw [List.drop_eq_getElem_cons hlt]
        rfl
      rw [hd] at hsk
      have hv64 := rNum_i64 size sk
      generalize rNum size sk = t at *
      obtain ⟨v, s2⟩ := t
      clear hd ca hrk
      by_cases hv : v = ns[k]
      · have b1 : (v != ns[k]) = false := by simpa using hv
        have b2 : (v == ns[k]) = true := by simpa using hv
        rw [if_pos hv] at hsk
        have HV := Lib.hid hsk
        clear hv hsk
        go_wp2_with fail
        go_region_with (go_at_call 28; refine (CC.out _).mono ?_; rintro en w2 ⟨rfl, his⟩; obtain ⟨d1, d3, da⟩ := HF.out w2 _ _ (HIS.out.trans his); have e1 := da ad rfl k hlt; have HI2 := Lib.hid his; clear his da)
        all_goals
          go_wp2_with fail
          go_roundw
          case rel => exact ⟨k + 1, s2, by omega, by go_num, HV.out, HIS.out.trans HI2.out⟩
          case measure => simp [intOf]; omega
      · have b1 : (v != ns[k]) = true := by simpa using hv
        have b2 : (v == ns[k]) = false := by simpa using hv
        rw [if_neg hv] at hsk
        have HV := Lib.hid hsk
        clear hv hsk
        go_wp2_with fail
        go_region_with (go_at_call 28; refine (CC.out _).mono ?_; rintro en w2 ⟨rfl, his⟩; obtain ⟨d1, d3, da⟩ := HF.out w2 _ _ (HIS.out.trans his); have e1 := da ad rfl k hlt; have HI2 := Lib.hid his; clear his da)
        all_goals
          go_wp2_with fail
          go_ret
          rw [HV.out]
          exact ⟨rfl, Is.grown HG.out (HIS.out.trans HI2.out)⟩
    · obtain rfl : k = ns.length := by omega
      rw [List.drop_length] at hsk
      have HV := Lib.hid hsk
      clear hsk hisk ca
      go_wp2_with fail
      go_ret
      rw [HV.out]
      exact ⟨rfl, Is.grown HG.out HIS.out⟩
end Go.Proofs.Ytkgkgagnpmhoiaa
