/- A part of the proof. -/
import Derived.Test.YtfljignkjmabpaaGreatZGA
set_option linter.unusedSimpArgs false
set_option linter.unusedVariables false
namespace Go.Proofs.YtfljignkjmabpaaGreat
set_option maxRecDepth 100000
open Go.RowKit
structure Kr (G g : Nat) (w w' : World) : Prop where
 os : w'.os = w.os
 tape : w'.tape = w.tape
 output : w'.output = w.output
 size : w.heap.size ≤ w'.heap.size
 block : ∀ k, k < w.heap.size → k ≠ g → k ≠ G → w'.heap[k]? = w.heap[k]?
structure Ri (w : World) (G g : Nat) (bad : Bool) (s : St) : Prop where
 rd : ∃ A c, Rd w (fun k => k < g) g s.1 A c s.2
 blk : Bx w G #[.pointer (some ⟨g, 0, none⟩), .bool bad] 66
 lt : g < G
def Rb (w : World) (G g : Nat) (bad : Bool) (s : St) (v : Value) (en : Ending) (w' : World) : Prop := en = .returned v ∧ Ri w' G g bad s ∧ Kr G g w w'
section
variable {w w' w2 : World} {G g : Nat} {bad : Bool} {s : St}
theorem Kr.refl (G g : Nat) (w : World) : Kr G g w w := ⟨rfl, rfl, rfl, Nat.le_refl _, fun _ _ _ _ => rfl⟩
theorem Kr.trans (h : Kr G g w w') (k : Kr G g w' w2) : Kr G g w w2 :=
 ⟨k.os.trans h.os, k.tape.trans h.tape, k.output.trans h.output, Nat.le_trans h.size k.size, fun i hi h1 h2 => (k.block i (Nat.lt_of_lt_of_le hi h.size) h1 h2).trans (h.block i hi h1 h2)⟩
theorem Kr.of_below (h : Below w.heap.size w w') : Kr G g w w' := ⟨h.os, h.tape, h.output, h.size, fun i hi _ _ => h.block i hi⟩
theorem Kr.to_below {B : Nat} (h : Kr G g w w') (hB : B ≤ w.heap.size) (hg : B ≤ g) (hG : B ≤ G) : Below B w w' := ⟨h.os, h.tape, h.output, h.size, fun i hi => h.block i (by omega) (by omega) (by omega)⟩
theorem Kr.bx {b : Nat} {cs : Array Value} {t : TypeId} (h : Kr G g w w') (hb : Bx w b cs t) (hg : b ≠ g) (hG : b ≠ G) : Bx w' b cs t := (h.block b hb.lt hg hG).trans hb
theorem Ri.gt (h : Ri w G g bad s) : G < w.heap.size := h.blk.lt
theorem Ri.c0 (h : Ri w G g bad s) : w.cell? ⟨G, 0, none⟩ = some (.pointer (some ⟨g, 0, none⟩)) := h.blk.c 0
theorem Ri.c1 (h : Ri w G g bad s) : w.cell? ⟨G, 1, none⟩ = some (.bool bad) := h.blk.c 1
theorem Ri.f1 (h : Ri w G g bad s) : w.frozen? ⟨G, 1, none⟩ = false := h.blk.f 1
theorem Ri.keep (h : Ri w G g bad s) (hg : ∀ k, k ≤ g → w'.heap[k]? = w.heap[k]?) (hG : w'.heap[G]? = w.heap[G]?) : Ri w' G g bad s := by
 obtain ⟨⟨A, c, h1⟩, h2, h3⟩ := h
 exact ⟨⟨A, c, ⟨(hg g (Nat.le_refl _)).trans h1.blk, h1.src.keep fun k hk _ => hg k (Nat.le_of_lt hk), h1.ne, h1.lim, h1.small⟩⟩, hG.trans h2, h3⟩
theorem Ri.below (h : Ri w G g bad s) (hb : Below w.heap.size w w') : Ri w' G g bad s :=
 h.keep (fun k hk => hb.block k (by have := h.gt; have := h.lt; omega)) (hb.block G h.gt)
theorem Ri.is {s' : St} (h2 : Bx w G #[.pointer (some ⟨g, 0, none⟩), .bool bad] 66) (h3 : g < G) (hi : Is w (fun k => k < g) g s'.1 s'.2 w') : Ri w' G g bad s' ∧ Kr G g w w' := by
 obtain ⟨A, c, h4, h5⟩ := hi
 have hk : Kr G g w w' := ⟨h5.os, h5.tape, h5.output, h5.size, fun k hk hg _ => h5.block k hk (by intro e; injection e with e; exact hg (by omega))⟩
 exact ⟨⟨⟨A, c, h4⟩, (h5.block G h2.lt (by intro e; injection e with e; omega)).trans h2, h3⟩, hk⟩
theorem Ri.num (h : Ri w G g bad s) (size : Int) : Calls Tryz.prog 39 #[.pointer (some ⟨g, 0, none⟩), .int .i64 size] w (Rb w G g bad (rNum size s).2 (.int .i64 (rNum size s).1)) := by
 obtain ⟨⟨A, c, h1⟩, h2, h3⟩ := h
 exact (rnum_any _ g s A c size w h1).mono fun en w' k => ⟨k.1, Ri.is h2 h3 k.2⟩
theorem Ri.text (h : Ri w G g bad s) : Calls Tryz.prog 38 #[.pointer (some ⟨g, 0, none⟩)] w (Rb w G g bad (rMeas 2 4096 s).2 (str (rMeas 2 4096 s).1)) := by
 obtain ⟨⟨A, c, h1⟩, h2, h3⟩ := h
 exact (rtext_any _ g s A c w h1).mono fun en w' k => ⟨k.1, Ri.is h2 h3 k.2⟩
theorem Ri.block (h : Ri w G g bad s) : Calls Tryz.prog 53 #[.pointer (some ⟨g, 0, none⟩)] w fun en w' => ∃ A c, en = .returned (.slice A (rMeas 4 1048576 s).1.length c) ∧ w'.ownsRow w.heap.size 5 1 (.slice A (rMeas 4 1048576 s).1.length c) (rMeas 4 1048576 s).1.length (cells (rMeas 4 1048576 s).1) ∧ Ri w' G g bad (rMeas 4 1048576 s).2 ∧ Kr G g w w' := by
 obtain ⟨⟨A, c, h1⟩, h2, h3⟩ := h
 exact (rblock_any _ g s A c w h1).mono fun en w' ⟨A', c', k1, k2, k3⟩ => ⟨A', c', k1, k2, Ri.is h2 h3 k3⟩
theorem Ri.fault (h : Ri w G g bad s) : Calls Tryz.prog 130 #[.pointer (some ⟨g, 0, none⟩)] w fun en w' => en = .returned (.int .i64 s.1) ∧ w = w' := by
 obtain ⟨⟨A, c, h1⟩, h2, h3⟩ := h
 exact rfault_any _ g s.1 A c s.2 w h1
theorem Ri.end_ (h : Ri w G g bad s) : Calls Tryz.prog 18 #[.pointer (some ⟨g, 0, none⟩)] w fun en w' => en = .returned (.int .i64 (rEnd s)) ∧ w = w' := by
 obtain ⟨⟨A, c, h1⟩, h2, h3⟩ := h
 exact rend_any _ g s A c w h1
theorem Ri.setBad (h : Ri w G g bad s) : Ri (w.setCell ⟨G, 1, none⟩ (.bool true)) G g true s ∧ Kr G g w (w.setCell ⟨G, 1, none⟩ (.bool true)) := by
 obtain ⟨⟨A, c, h1⟩, h2, h3⟩ := h
 have ho : ∀ k, k ≠ G → (w.setCell ⟨G, 1, none⟩ (.bool true)).heap[k]? = w.heap[k]? := fun k hk => heap_setCell_other _ _ _ _ hk
 refine ⟨⟨⟨A, c, ⟨(ho g (by omega)).trans h1.blk, h1.src.keep fun k hk _ => ho k (by have : k < g := hk; omega), h1.ne, h1.lim, h1.small⟩⟩, ?_, h3⟩, rfl, rfl, rfl, by simp [World.setCell], fun k _ _ hk => ho k hk⟩
 have := heap_setCell_same w G 1 _ _ (.bool true) h2
 unfold Bx
 rw [this]
 rfl
end
set_option maxHeartbeats 400000 in
theorem rmark_any {G g : Nat} {bad : Bool} {s : St} (w : World) (h : Ri w G g bad s) :
  Calls Tryz.prog 37 #[.pointer (some ⟨G, 0, none⟩)] w (Rb w G g (bad || (rdMark s).2.1) (rdMark s).2.2 (.tuple #[])) := by
 have hc := h.c0
 have HT := hD h.text
 have HB := hD (show (rdMark s).2.1 = !decide ((rMeas 2 4096 s).1 = mark) from rfl)
 have HS := hD (show (rdMark s).2.2 = (rMeas 2 4096 s).2 from rfl)
 generalize (rdMark s).2.1 = b at *
 generalize (rdMark s).2.2 = s2 at *
 obtain rfl := HS.out
 clear HS h
 generalize rMeas 2 4096 s = t at *
 obtain ⟨l, s'⟩ := t
 simp only at HT HB
 by_cases hl : l = mark
 ·
  have HV := hD (show (bad || b) = bad by rw [HB.out, hl]; simp)
  subst hl
  go_enter Tryz.func37, Tryz.ntmps37
  go_wp2_with (go_at_call 38; (with_reducible refine (HT.out).mono ?_); rintro en w1 ⟨rfl, h1, h2⟩; have H1 := hD h1; have H2 := hD h2; clear h1 h2)
  first | go_end0 | skip
  exact ⟨rfl, by rw [HV.out]; exact H1.out, H2.out⟩
 ·
  have HV := hD (show (bad || b) = true by rw [HB.out]; simp [hl])
  have hlb : (!l == [99, 108, 101, 118, 105, 115, 49]) = true := by simpa using hl
  clear hl
  go_enter Tryz.func37, Tryz.ntmps37
  go_upto_region 1 with (go_at_call 38; (with_reducible refine (HT.out).mono ?_); rintro en w1 ⟨rfl, h1, h2⟩; have H1 := hD h1; have H2 := hD h2; clear h1 h2)
  have hc1 := H1.out.c1
  have hf := H1.out.f1
  go_wp2_with fail
  first | go_end0 | skip
  exact ⟨rfl, by rw [HV.out]; exact H1.out.setBad.1, H2.out.trans H1.out.setBad.2⟩
set_option maxHeartbeats 400000 in
theorem rbit_any {G g : Nat} {bad : Bool} {s : St} (w : World) (h : Ri w G g bad s) :
  Calls Tryz.prog 132 #[.pointer (some ⟨G, 0, none⟩)] w (Rb w G g (bad || (rdBit s).2.1) (rdBit s).2.2 (.bool (rdBit s).1)) := by
 rw [rdBit_eq]
 have hc := h.c0
 have HT := hD (h.num 1)
 clear h
 generalize rNum 1 s = t at *
 obtain ⟨n, s'⟩ := t
 rw [mkBit_bad, mkBit_st, mkBit_val]
 simp only at HT ⊢
 by_cases hn : 1 < n
 ·
  have HV := hD (show (bad || bitBad n) = true by unfold bitBad; rw [decide_eq_true hn]; simp)
  have HW := hD (show bitOf n = false by unfold bitOf; simp; omega)
  have hne : (n == 1) = false := by simp; omega
  go_enter Tryz.func132, Tryz.ntmps132
  go_upto_region 3 with (go_at_call 39; (with_reducible refine (HT.out).mono ?_); rintro en w1 ⟨rfl, h1, h2⟩; have H1 := hD h1; have H2 := hD h2; clear h1 h2)
  have hc1 := H1.out.c1
  have hf := H1.out.f1
  go_wp2_with fail
  go_ret
  exact ⟨by rw [HW.out]; rfl, by rw [HV.out]; exact H1.out.setBad.1, H2.out.trans H1.out.setBad.2⟩
 ·
  have HV := hD (show (bad || bitBad n) = bad by unfold bitBad; rw [decide_eq_false hn]; simp)
  have HW := hD (show bitOf n = (n == 1) from rfl)
  go_enter Tryz.func132, Tryz.ntmps132
  go_wp2_with (go_at_call 39; (with_reducible refine (HT.out).mono ?_); rintro en w1 ⟨rfl, h1, h2⟩; have H1 := hD h1; have H2 := hD h2; clear h1 h2)
  go_ret
  exact ⟨by rw [HW.out]; rfl, by rw [HV.out]; exact H1.out, H2.out⟩
set_option maxHeartbeats 400000 in
theorem rword_any {G g : Nat} {bad : Bool} {s : St} (w : World) (h : Ri w G g bad s) :
  Calls Tryz.prog 189 #[.pointer (some ⟨G, 0, none⟩)] w (Rb w G g bad (rdWd s).2.2 (Siv.u64v (rdWd s).1)) := by
 have hc := h.c0
 have HT := hD (h.num 8)
 have HW := hD (show (rdWd s).2.2 = (rNum 8 s).2 ∧ (rdWd s).1 = toU (rNum 8 s).1 from ⟨rfl, rfl⟩)
 rw [HW.out.1, HW.out.2]
 clear h HW
 generalize rNum 8 s = t at *
 obtain ⟨n, s'⟩ := t
 simp only at HT ⊢
 have HV := hD (show Siv.u64v (toU n) = .int .u64 (IntKind.u64.wrap n) by unfold Siv.u64v; rw [toU_nat, IntKind.wrap_u64])
 go_enter Tryz.func189, Tryz.ntmps189
 go_wp2_with (go_at_call 39; (with_reducible refine (HT.out).mono ?_); rintro en w1 ⟨rfl, h1, h2⟩; have H1 := hD h1; have H2 := hD h2; clear h1 h2)
 go_ret
 exact ⟨by rw [HV.out, IntKind.wrap_u64]; rfl, H1.out, H2.out⟩
theorem rnum1_any {G g b : Nat} {bad : Bool} {s : St} (w : World) (h : Ri w G g bad s) (hb : w.cell? ⟨b, 0, none⟩ = some (.pointer (some ⟨G, 0, none⟩))) :
  Calls Tryz.prog 137 #[.pointer (some ⟨b, 0, none⟩)] w (Rb w G g bad (rNum 4 s).2 (.int .i64 (rNum 4 s).1)) ∧
  Calls Tryz.prog 187 #[.pointer (some ⟨b, 0, none⟩)] w (Rb w G g bad (rNum 2 s).2 (.int .i64 (rNum 2 s).1)) := by
 have hc := h.c0
 have HT := hD (h.num 4)
 have HU := hD (h.num 2)
 clear h
 refine ⟨?_, ?_⟩
 ·
  generalize rNum 4 s = t at *
  go_enter Tryz.func137, Tryz.ntmps137
  go_wp2_with (go_at_call 39; (with_reducible refine (HT.out).mono ?_); rintro en w1 ⟨rfl, h1, h2⟩; have H1 := hD h1; have H2 := hD h2; clear h1 h2)
  go_ret
  exact ⟨rfl, H1.out, H2.out⟩
 ·
  generalize rNum 2 s = t at *
  go_enter Tryz.func187, Tryz.ntmps187
  go_wp2_with (go_at_call 39; (with_reducible refine (HU.out).mono ?_); rintro en w1 ⟨rfl, h1, h2⟩; have H1 := hD h1; have H2 := hD h2; clear h1 h2)
  go_ret
  exact ⟨rfl, H1.out, H2.out⟩
end Go.Proofs.YtfljignkjmabpaaGreat
