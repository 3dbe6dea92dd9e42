/-
  May: what is wrong first with an image (written by mk4.py).
  Plain facts: how many stand in all buckets; what is found first; what is made is right.
  Contracts over all worlds behind one.
  The document's first one.
  The document's seen, and stands.
  Plain facts: when a table is right, by the document's conditions.
  What an image that may be keeps.
-/
import Derived.Test.YtacknedekhpklaaGreatZL
import Derived.Test.YtacknedekhpklaaGreatZTI
import Derived.Test.YtacknedekhpklaaGreatZCZa
import Derived.Deep.RegionHeld3
import Derived.Test.YtacknedekhpklaaGreatZWE
namespace Go.Proofs.YtacknedekhpklaaGreat
set_option maxRecDepth 100000
set_option linter.unusedSimpArgs false
set_option linter.unusedVariables false
open Go.RowKit

def tabB (x : Im) : Bool := rightT x.rows.length (rowF x.rows) x.words x.shift x.syms
def mayE (x : Im) : Int := if headB x = false then 90 else if segsB x.segs = false then 91 else if tlsB x = false then 96 else if symsB x = false then 92 else if tabB x = false then 93 else if relocsB x = false then 94 else if slotsB x = false then 95 else if runsB x x.init = false then 97 else if runsB x x.fini = false then 97 else 0
def MS (w : World) (p : Pl) (x : Im) (X : World) : Prop := Below w.heap.size w X ∧ Ix X w.heap.size p x
theorem MS.on {w X Y : World} {p : Pl} {x : Im} (h : MS w p x X) (hb : Below X.heap.size X Y) : MS w p x Y := ⟨h.1.trans (hb.mono h.1.size), h.2.below hb⟩
theorem MS.b {w X : World} {p : Pl} {x : Im} (h : MS w p x X) : Below w.heap.size w X := h.1
theorem tls_range {x : Im} (h : tlsB x = true) : 0 ≤ x.tlsSize ∧ x.tlsSize ≤ 4096 := by
  unfold tlsB withB at h
  simp only [Bool.and_eq_true, decide_eq_true_eq] at h
  omega
theorem row_len {x : Im} (hf : Fit x) (k : Nat) (hk : k < x.rows.length) : (rowF x.rows k).length ≤ 140737488351232 := (hf.row _ (getD_mem hk)).1
set_option maxHeartbeats 8000000 in
theorem may_im_any (p : Pl) (x : Im) (w : World) (h : ImIn w (fun k => k < w.heap.size) p x) (hf : Fit x) :
    Calls Tryz.prog 11 #[imV p x] w fun e w' => e = .returned (.int .i64 (mayE x)) ∧ Below w.heap.size w w' := by
  have hS0 : MS w p x (w.alloc (.cells (imA p x) 38)) := ⟨ibox_below w p x, Ix.new w p x⟩
  have HS0 := Lib.hid hS0
  have HH := Lib.hid (fun (X : World) (hX : Below w.heap.size w X) => head_any p x X (h.lt hX) hf)
  have HG := Lib.hid (fun (X : World) (hX : Below w.heap.size w X) => segs_any p.sg.1 p.sg.2 x.segs X (h.lt hX).segs hf.segs hf.seg)
  have HT := Lib.hid (fun (X : World) (_ : Below w.heap.size w X) => tls_any p x X hf.tls)
  have HY := Lib.hid (fun (hs : segsB x.segs = true) (ht : tlsB x = true) (X : World) (hX : Below w.heap.size w X) => syms_any p x X (h.lt hX) hf (segs_ok hs) (tls_range ht))
  have HR := Lib.hid (fun (X : World) (hX : Below w.heap.size w X) => tright_any p.bk.1 x.rows.length p.bk.2 p.fw.1 p.fw.2 (rowF x.rows) x.words x.shift p.sy.1 p.sy.2 x.syms X (h.lt hX).tab (h.lt hX).syms (fun s hs => (hf.sym s hs).1) (by have := hf.rows; unfold Long at this; omega) (by have := hf.words; unfold Long at this; omega) (by have := hf.syms; unfold Long at this; omega) (fun k hk => by have := row_len hf k hk; omega))
  have HL := Lib.hid (fun (hs : segsB x.segs = true) (X : World) (hX : Below w.heap.size w X) => relocs_any p x X (h.lt hX) hf (segs_ok hs))
  have HO := Lib.hid (fun (hs : segsB x.segs = true) (hr : relocsB x = true) (X : World) (hX : Below w.heap.size w X) => slots_any p x X (h.lt hX) hf (segs_ok hs) (relocs_all hr))
  have HI := Lib.hid (fun (hs : segsB x.segs = true) (X : World) (hX : Below w.heap.size w X) => runs_any p x p.ini.1 p.ini.2 x.init X (h.lt hX) (h.lt hX).init hf (segs_ok hs) hf.init)
  have HJ := Lib.hid (fun (hs : segsB x.segs = true) (X : World) (hX : Below w.heap.size w X) => runs_any p x p.fin.1 p.fin.2 x.fini X (h.lt hX) (h.lt hX).fini hf (segs_ok hs) hf.fini)
  generalize hbb : mayE x = bb
  have HF := Lib.hid (hbb.symm.trans (show mayE x = (if headB x = false then 90 else if segsB x.segs = false then 91 else if tlsB x = false then 96 else if symsB x = false then 92 else if tabB x = false then 93 else if relocsB x = false then 94 else if slotsB x = false then 95 else if runsB x x.init = false then 97 else if runsB x x.fini = false then 97 else 0) from rfl))
  clear h hf hbb
  go_enter Tryz.func11, Tryz.ntmps11
  go_upto_region 1 with (fail)
  change Code.wp _ _ _ _ (w.alloc (.cells (imA p x) 38))
  generalize w.alloc (.cells (imA p x) 38) = w0 at *
  obtain ⟨c0, c1, c2, c3, c4, c5, c6, c7, c8, c9, c10, c11, c12, c13, c14⟩ := HS0.out.2.cells
  have H0 := Lib.hid (HH.out)
  cases hp0 : headB x
  · have HV := Lib.hid (show bb = 90 by rw [HF.out, if_pos hp0])
    rw [hp0] at H0
    go_wp2_with (go_at_call 26; (with_reducible refine (H0.out _ HS0.out.b).mono ?_); rintro e w1 ⟨rfl, hb1⟩; have HS1 := Lib.hid (HS0.out.on hb1); clear hb1)
    first | go_ret | skip
    exact ⟨by rw [HV.out]; rfl, HS1.out.1⟩
  rw [hp0] at H0
  go_upto_region 3 with (go_at_call 26; (with_reducible refine (H0.out _ HS0.out.b).mono ?_); rintro e w1 ⟨rfl, hb1⟩; have HS1 := Lib.hid (HS0.out.on hb1); clear hb1)
  clear H0 HS0 c0 c1 c2 c3 c4 c5 c6 c7 c8 c9 c10 c11 c12 c13 c14
  obtain ⟨c0, c1, c2, c3, c4, c5, c6, c7, c8, c9, c10, c11, c12, c13, c14⟩ := HS1.out.2.cells
  have H1 := Lib.hid (HG.out)
  cases hp1 : segsB x.segs
  · have HV := Lib.hid (show bb = 91 by rw [HF.out, if_neg (by rw [hp0]; simp), if_pos hp1])
    rw [hp1] at H1
    go_wp2_with (go_at_call 27; (with_reducible refine (H1.out _ HS1.out.b).mono ?_); rintro e w2 ⟨rfl, hb2⟩; have HS2 := Lib.hid (HS1.out.on hb2); clear hb2)
    first | go_ret | skip
    exact ⟨by rw [HV.out]; rfl, HS2.out.1⟩
  rw [hp1] at H1
  go_upto_region 5 with (go_at_call 27; (with_reducible refine (H1.out _ HS1.out.b).mono ?_); rintro e w2 ⟨rfl, hb2⟩; have HS2 := Lib.hid (HS1.out.on hb2); clear hb2)
  clear H1 HS1 c0 c1 c2 c3 c4 c5 c6 c7 c8 c9 c10 c11 c12 c13 c14
  obtain ⟨c0, c1, c2, c3, c4, c5, c6, c7, c8, c9, c10, c11, c12, c13, c14⟩ := HS2.out.2.cells
  have H2 := Lib.hid (HT.out)
  cases hp2 : tlsB x
  · have HV := Lib.hid (show bb = 96 by rw [HF.out, if_neg (by rw [hp0]; simp), if_neg (by rw [hp1]; simp), if_pos hp2])
    rw [hp2] at H2
    go_wp2_with (go_at_call 28; (with_reducible refine (H2.out _ HS2.out.b).mono ?_); rintro e w3 ⟨rfl, hb3⟩; have HS3 := Lib.hid (HS2.out.on hb3); clear hb3)
    first | go_ret | skip
    exact ⟨by rw [HV.out]; rfl, HS3.out.1⟩
  rw [hp2] at H2
  go_upto_region 7 with (go_at_call 28; (with_reducible refine (H2.out _ HS2.out.b).mono ?_); rintro e w3 ⟨rfl, hb3⟩; have HS3 := Lib.hid (HS2.out.on hb3); clear hb3)
  clear H2 HS2 c0 c1 c2 c3 c4 c5 c6 c7 c8 c9 c10 c11 c12 c13 c14
  obtain ⟨c0, c1, c2, c3, c4, c5, c6, c7, c8, c9, c10, c11, c12, c13, c14⟩ := HS3.out.2.cells
  have H3 := Lib.hid ((HY.out hp1 hp2))
  cases hp3 : symsB x
  · have HV := Lib.hid (show bb = 92 by rw [HF.out, if_neg (by rw [hp0]; simp), if_neg (by rw [hp1]; simp), if_neg (by rw [hp2]; simp), if_pos hp3])
    rw [hp3] at H3
    go_wp2_with (go_at_call 29; (with_reducible refine (H3.out _ HS3.out.b).mono ?_); rintro e w4 ⟨rfl, hb4⟩; have HS4 := Lib.hid (HS3.out.on hb4); clear hb4)
    first | go_ret | skip
    exact ⟨by rw [HV.out]; rfl, HS4.out.1⟩
  rw [hp3] at H3
  go_upto_region 9 with (go_at_call 29; (with_reducible refine (H3.out _ HS3.out.b).mono ?_); rintro e w4 ⟨rfl, hb4⟩; have HS4 := Lib.hid (HS3.out.on hb4); clear hb4)
  clear H3 HS3 c0 c1 c2 c3 c4 c5 c6 c7 c8 c9 c10 c11 c12 c13 c14
  obtain ⟨c0, c1, c2, c3, c4, c5, c6, c7, c8, c9, c10, c11, c12, c13, c14⟩ := HS4.out.2.cells
  have H4 := Lib.hid (HR.out)
  rw [show rightT x.rows.length (rowF x.rows) x.words x.shift x.syms = tabB x from rfl] at H4
  cases hp4 : tabB x
  · have HV := Lib.hid (show bb = 93 by rw [HF.out, if_neg (by rw [hp0]; simp), if_neg (by rw [hp1]; simp), if_neg (by rw [hp2]; simp), if_neg (by rw [hp3]; simp), if_pos hp4])
    rw [hp4] at H4
    rw [show errT false = .int .i64 80 from rfl] at H4
    go_wp2_with (go_at_call 30; (with_reducible refine (H4.out _ HS4.out.b).mono ?_); rintro e w5 ⟨rfl, hb5⟩; have HS5 := Lib.hid (HS4.out.on hb5); clear hb5)
    first | go_ret | skip
    exact ⟨by rw [HV.out]; rfl, HS5.out.1⟩
  rw [hp4] at H4
  rw [show errT true = .int .i64 0 from rfl] at H4
  go_upto_region 11 with (go_at_call 30; (with_reducible refine (H4.out _ HS4.out.b).mono ?_); rintro e w5 ⟨rfl, hb5⟩; have HS5 := Lib.hid (HS4.out.on hb5); clear hb5)
  clear H4 HS4 c0 c1 c2 c3 c4 c5 c6 c7 c8 c9 c10 c11 c12 c13 c14
  obtain ⟨c0, c1, c2, c3, c4, c5, c6, c7, c8, c9, c10, c11, c12, c13, c14⟩ := HS5.out.2.cells
  have H5 := Lib.hid ((HL.out hp1))
  cases hp5 : relocsB x
  · have HV := Lib.hid (show bb = 94 by rw [HF.out, if_neg (by rw [hp0]; simp), if_neg (by rw [hp1]; simp), if_neg (by rw [hp2]; simp), if_neg (by rw [hp3]; simp), if_neg (by rw [hp4]; simp), if_pos hp5])
    rw [hp5] at H5
    go_wp2_with (go_at_call 31; (with_reducible refine (H5.out _ HS5.out.b).mono ?_); rintro e w6 ⟨rfl, hb6⟩; have HS6 := Lib.hid (HS5.out.on hb6); clear hb6)
    first | go_ret | skip
    exact ⟨by rw [HV.out]; rfl, HS6.out.1⟩
  rw [hp5] at H5
  go_upto_region 13 with (go_at_call 31; (with_reducible refine (H5.out _ HS5.out.b).mono ?_); rintro e w6 ⟨rfl, hb6⟩; have HS6 := Lib.hid (HS5.out.on hb6); clear hb6)
  clear H5 HS5 c0 c1 c2 c3 c4 c5 c6 c7 c8 c9 c10 c11 c12 c13 c14
  obtain ⟨c0, c1, c2, c3, c4, c5, c6, c7, c8, c9, c10, c11, c12, c13, c14⟩ := HS6.out.2.cells
  have H6 := Lib.hid ((HO.out hp1 hp5))
  cases hp6 : slotsB x
  · have HV := Lib.hid (show bb = 95 by rw [HF.out, if_neg (by rw [hp0]; simp), if_neg (by rw [hp1]; simp), if_neg (by rw [hp2]; simp), if_neg (by rw [hp3]; simp), if_neg (by rw [hp4]; simp), if_neg (by rw [hp5]; simp), if_pos hp6])
    rw [hp6] at H6
    go_wp2_with (go_at_call 32; (with_reducible refine (H6.out _ HS6.out.b).mono ?_); rintro e w7 ⟨rfl, hb7⟩; have HS7 := Lib.hid (HS6.out.on hb7); clear hb7)
    first | go_ret | skip
    exact ⟨by rw [HV.out]; rfl, HS7.out.1⟩
  rw [hp6] at H6
  go_upto_region 15 with (go_at_call 32; (with_reducible refine (H6.out _ HS6.out.b).mono ?_); rintro e w7 ⟨rfl, hb7⟩; have HS7 := Lib.hid (HS6.out.on hb7); clear hb7)
  clear H6 HS6 c0 c1 c2 c3 c4 c5 c6 c7 c8 c9 c10 c11 c12 c13 c14
  obtain ⟨c0, c1, c2, c3, c4, c5, c6, c7, c8, c9, c10, c11, c12, c13, c14⟩ := HS7.out.2.cells
  have H7 := Lib.hid ((HI.out hp1))
  cases hp7 : runsB x x.init
  · have HV := Lib.hid (show bb = 97 by rw [HF.out, if_neg (by rw [hp0]; simp), if_neg (by rw [hp1]; simp), if_neg (by rw [hp2]; simp), if_neg (by rw [hp3]; simp), if_neg (by rw [hp4]; simp), if_neg (by rw [hp5]; simp), if_neg (by rw [hp6]; simp), if_pos hp7])
    rw [hp7] at H7
    go_wp2_with (go_at_call 33; (with_reducible refine (H7.out _ HS7.out.b).mono ?_); rintro e w8 ⟨rfl, hb8⟩; have HS8 := Lib.hid (HS7.out.on hb8); clear hb8)
    first | go_ret | skip
    exact ⟨by rw [HV.out]; rfl, HS8.out.1⟩
  rw [hp7] at H7
  go_upto_region 16 with (go_at_call 33; (with_reducible refine (H7.out _ HS7.out.b).mono ?_); rintro e w8 ⟨rfl, hb8⟩; have HS8 := Lib.hid (HS7.out.on hb8); clear hb8)
  clear H7 HS7 c0 c1 c2 c3 c4 c5 c6 c7 c8 c9 c10 c11 c12 c13 c14
  obtain ⟨c0, c1, c2, c3, c4, c5, c6, c7, c8, c9, c10, c11, c12, c13, c14⟩ := HS8.out.2.cells
  have H8 := Lib.hid ((HJ.out hp1))
  cases hp8 : runsB x x.fini
  · have HV := Lib.hid (show bb = 97 by rw [HF.out, if_neg (by rw [hp0]; simp), if_neg (by rw [hp1]; simp), if_neg (by rw [hp2]; simp), if_neg (by rw [hp3]; simp), if_neg (by rw [hp4]; simp), if_neg (by rw [hp5]; simp), if_neg (by rw [hp6]; simp), if_neg (by rw [hp7]; simp), if_pos hp8])
    rw [hp8] at H8
    go_wp2_with (go_at_call 33; (with_reducible refine (H8.out _ HS8.out.b).mono ?_); rintro e w9 ⟨rfl, hb9⟩; have HS9 := Lib.hid (HS8.out.on hb9); clear hb9)
    first | go_ret | skip
    exact ⟨by rw [HV.out]; rfl, HS9.out.1⟩
  rw [hp8] at H8
  have HV := Lib.hid (show bb = 0 by rw [HF.out, if_neg (by rw [hp0]; simp), if_neg (by rw [hp1]; simp), if_neg (by rw [hp2]; simp), if_neg (by rw [hp3]; simp), if_neg (by rw [hp4]; simp), if_neg (by rw [hp5]; simp), if_neg (by rw [hp6]; simp), if_neg (by rw [hp7]; simp), if_neg (by rw [hp8]; simp)])
  go_wp2_with (go_at_call 33; (with_reducible refine (H8.out _ HS8.out.b).mono ?_); rintro e w9 ⟨rfl, hb9⟩; have HS9 := Lib.hid (HS8.out.on hb9); clear hb9)
  first | go_ret | skip
  exact ⟨by rw [HV.out]; rfl, HS9.out.1⟩
end Go.Proofs.YtacknedekhpklaaGreat

namespace Go.Proofs.YtacknedekhpklaaGreat.Siv
set_option maxRecDepth 100000
set_option linter.unusedSimpArgs false
set_option linter.unusedVariables false
open Go.RowKit

def hit (s n : Nat) (hs : List UInt32) (i t : Nat) : Bool := hs.any fun h => idx n h == i && (msk s h).toNat.testBit t
end Go.Proofs.YtacknedekhpklaaGreat.Siv
namespace Go.Proofs.YtacknedekhpklaaGreat
open Go.RowKit

def sumF (f : Nat → List Int) : Nat → Nat
  | 0 => 0
  | m + 1 => sumF f m + (f m).length
theorem inB_at {ss : List Sym} {cnt b k : Nat} (hk : k < ss.length) : inB ss cnt b k = (seenB ss[k] && (bkt (hashS ss[k].name) cnt == b)) := by simp [inB, hk]
theorem sum_succ (ss : List Sym) (cnt k : Nat) (hk : k < ss.length) : ∀ m, sumF (fillS ss cnt (k + 1)) m = sumF (fillS ss cnt k) m + (if seenB ss[k] = true ∧ bkt (hashS ss[k].name) cnt < m then 1 else 0)
  | 0 => by simp [sumF]
  | m + 1 => by
    rw [sumF, sumF, sum_succ ss cnt k hk m, fill_succ, List.length_append, inB_at hk]
    generalize bkt (hashS ss[k].name) cnt = b
    cases hs : seenB ss[k]
    · simp
    · simp only [Bool.true_and, true_and, beq_iff_eq]
      by_cases h1 : b = m
      · subst h1
        simp
        omega
      · by_cases h2 : b < m
        · rw [if_pos h2, if_neg h1, if_pos (by omega)]
          simp
          omega
        · rw [if_neg h2, if_neg h1, if_neg (by omega)]
          simp
theorem sum_all (ss : List Sym) (cnt : Nat) (h0 : 0 < cnt) : ∀ k, k ≤ ss.length → sumF (fillS ss cnt k) cnt = (hashesS (ss.take k)).length
  | 0, _ => by
    have : ∀ m, sumF (fillS ss cnt 0) m = 0 := by
      intro m
      induction m with
      | zero => rfl
      | succ m ih => rw [sumF, ih]; rfl
    rw [this]
    rfl
  | k + 1, hk => by
    have hkl : k < ss.length := by omega
    rw [sum_succ ss cnt k hkl, sum_all ss cnt h0 k (by omega), hashes_take hkl, List.length_append]
    have hb := bkt_lt (hashS ss[k].name) h0
    cases hs : seenB ss[k]
    · simp
    · simp [hb]
def mAt (r : Sym) (ss : List Sym) (v : Bool) (x : Int) : Bool := match ss[x.toNat]? with
  | some d => matchB r d v
  | none => false
theorem fill_mem {ss : List Sym} {cnt k b : Nat} {x : Int} : x ∈ fillS ss cnt k b ↔ ∃ j : Nat, x = (j : Int) ∧ j < k ∧ inB ss cnt b j = true := by
  unfold fillS
  simp only [List.mem_map, List.mem_filter, List.mem_range]
  constructor
  · rintro ⟨j, ⟨h1, h2⟩, rfl⟩
    exact ⟨j, rfl, h1, h2⟩
  · rintro ⟨j, rfl, h1, h2⟩
    exact ⟨j, ⟨h1, h2⟩, rfl⟩
theorem fill_sorted (ss : List Sym) (cnt k b : Nat) : (fillS ss cnt k b).Pairwise (· < ·) := by
  unfold fillS
  rw [List.pairwise_map]
  refine List.Pairwise.imp ?_ (List.pairwise_lt_range.filter (inB ss cnt b))
  intro a b h
  omega
/-- The first one of all symbols that matches. -/
def firstS (r : Sym) (ss : List Sym) : Int := match ss.findIdx? (fun d => matchB r d (ss.any vdB)) with
  | some i => (i : Int)
  | none => -1
theorem hash_mem {ss : List Sym} {j : Nat} (hj : j < ss.length) (h : seenB ss[j] = true) : hashS ss[j].name ∈ hashesS ss := by
  unfold hashesS
  exact List.mem_map.2 ⟨ss[j], List.mem_filter.2 ⟨List.getElem_mem hj, h⟩, rfl⟩
end Go.Proofs.YtacknedekhpklaaGreat

namespace Go.Proofs.YtacknedekhpklaaGreat
set_option maxRecDepth 100000
set_option linter.unusedSimpArgs false
set_option linter.unusedVariables false
open Go.RowKit

end Go.Proofs.YtacknedekhpklaaGreat

namespace Go.Proofs.YtacknedekhpklaaGreat
set_option maxRecDepth 100000
set_option linter.unusedSimpArgs false
set_option linter.unusedVariables false
open Go.RowKit

end Go.Proofs.YtacknedekhpklaaGreat

namespace Go.Proofs.YtacknedekhpklaaGreat
set_option maxRecDepth 100000
set_option linter.unusedSimpArgs false
set_option linter.unusedVariables false
open Go.RowKit

def seenAt (ss : List Sym) (i : Nat) : Bool := match ss[i]? with
  | some s => seenB s
  | none => false
theorem seenAt_at {ss : List Sym} {k : Nat} (hk : k < ss.length) : seenAt ss k = seenB ss[k] := by simp [seenAt, hk]
/-- The places of those that are seen, among the first k. -/
def seenL (ss : List Sym) (k : Nat) : List Int := ((List.range k).filter (seenAt ss)).map fun (i : Nat) => (i : Int)
theorem seen_succ (ss : List Sym) (k : Nat) : seenL ss (k + 1) = seenL ss k ++ (if seenAt ss k = true then [(k : Int)] else []) := by
  unfold seenL
  rw [List.range_succ, List.filter_append, List.map_append]
  congr 1
  by_cases h : seenAt ss k = true
  · simp [h]
  · simp [h]
theorem seen_len (ss : List Sym) (k : Nat) : (seenL ss k).length ≤ k := by
  unfold seenL
  rw [List.length_map]
  have := List.length_filter_le (seenAt ss) (List.range k)
  simpa using this
theorem seen_hashes (ss : List Sym) : ∀ k, k ≤ ss.length → (seenL ss k).length = (hashesS (ss.take k)).length
  | 0, _ => rfl
  | k + 1, hk => by
    have hkl : k < ss.length := by omega
    rw [seen_succ, hashes_take hkl, List.length_append, List.length_append, seen_hashes ss k (by omega), seenAt_at hkl]
    cases seenB ss[k] <;> simp
set_option maxRecDepth 100000 in
set_option maxHeartbeats 4000000 in
theorem qseen_any (A : Option Addr) (n c : Nat) (ss : List Sym) (w : World) (h : Syl w (fun k => k < w.heap.size) A n c ss) (hn : n ≤ 512) :
    Calls Tryz.prog 88 #[.slice A n c] w fun e w' => ∃ A' c', e = .returned (.slice A' (seenL ss n).length c') ∧ w'.ownsRow w.heap.size 3 1 (.slice A' (seenL ss n).length c') (seenL ss n).length (il (seenL ss n)) ∧ Below w.heap.size w w' := by
  obtain rfl := h.len
  have H := Lib.hid h
  clear h
  go_enter Tryz.func88, Tryz.ntmps88
  go_upto_region 3 with (fail)
  go_loopw [3, 4] (fun v t wr => ∃ (k : Nat) (A' : Option Addr) (m c' : Nat) (l : List Int), k ≤ ss.length ∧ t = .int .i64 k ∧ v = .slice A' m c' ∧ l = seenL ss k ∧ l.length = m ∧ m ≤ k ∧ wr.ownsRow w.heap.size 3 1 (.slice A' m c') m (il l) ∧ Below w.heap.size w wr) (fun _ t _ => ss.length - (intOf t).toNat)
  case atStart => exact ⟨0, none, 0, 0, [], Nat.zero_le _, rfl, rfl, rfl, rfl, Nat.le_refl _, World.ownsRow_nil _ _ _ _, Below.refl _ _⟩
  case round =>
    obtain ⟨k, A', m, c', l, hk, rfl, rfl, hl, hm, hmk, ho, hb⟩ := hrel
    have HB := Lib.hid hb
    have HO := Lib.hid ho
    have HL := Lib.hid hl
    have HM := Lib.hid hm
    clear hb ho hl hm
    by_cases hki : k < ss.length
    · obtain ⟨ad, rfl⟩ : ∃ ad, A = some ad := by
        cases A with
        | none => have := (H.out.nil rfl).1; omega
        | some ad => exact ⟨ad, rfl⟩
      obtain ⟨b, o, rfl⟩ := H.out.plain (by omega)
      have hcap := H.out.cap
      obtain ⟨c0, c1, c2, c3, c4, c5, c6, c7, c8⟩ := (H.out.below HB.out (fun _ h => h)).get k hki
      have HSU := Lib.hid (show seenL ss (k + 1) = seenL ss k ++ (if seenB ss[k] = true then [(k : Int)] else []) by rw [seen_succ, seenAt_at hki])
      generalize ss[k] = s at *
      have HSE := Lib.hid (fun X => rseen_any s X)
      generalize seenB s = se at *
      cases se
      · have HN := Lib.hid (show l = seenL ss (k + 1) by rw [HSU.out, HL.out]; simp)
        go_upto_region 6 with (go_at_call 170; refine (HSE.out _).mono ?_; rintro e w2 ⟨rfl, hb2⟩; have HB2 := Lib.hid (HB.out.trans (hb2.mono HB.out.size)); have HO2 := Lib.hid (Siv.own_below HO.out hb2); clear hb2)
        clear c0 c1 c2 c3 c4 c5 c6 c7 c8 HSE
        go_wp2_with fail
        go_roundw
        case rel => exact ⟨k + 1, A', m, c', l, by omega, by go_num, rfl, HN.out, HM.out, by omega, HO2.out, HB2.out⟩
        case measure => simp [intOf]; omega
      · have HN := Lib.hid (show l ++ [(k : Int)] = seenL ss (k + 1) by rw [HSU.out, HL.out]; simp)
        go_upto_region 6 with (go_at_call 170; refine (HSE.out _).mono ?_; rintro e w2 ⟨rfl, hb2⟩; have HB2 := Lib.hid (HB.out.trans (hb2.mono HB.out.size)); have HO2 := Lib.hid (Siv.own_below HO.out hb2); clear hb2)
        clear c0 c1 c2 c3 c4 c5 c6 c7 c8 HSE
        have HCN := Lib.hid ((Bx.new w2 #[.int .i64 (k : Int)] 3).c 0)
        have HO3 := Lib.hid (own_alloc HO2.out (.cells #[.int .i64 (k : Int)] 3))
        have HB3 := Lib.hid (HB2.out.alloc HB2.out.size (.cells #[.int .i64 (k : Int)] 3))
        have m1 : m + 1 ≤ maxLen := by simp only [maxLen]; omega
        have m2 : (m + 1) * 8 ≤ 140737488355328 := by omega
        have hil : il l ++ [.int .i64 (k : Int)] = il (l ++ [(k : Int)]) := by simp [il]
        have HIL := Lib.hid hil
        clear hil
        go_wp2_with (at_builtin; refine append_one rfl (.tmp 16) (.tmp 18) 35 3 (.int .i64 0) 8 rfl Tryz.underlying35 Tryz.info_int rfl w.heap.size A' m c' (il l) rfl HO3.out w2.heap.size (.int .i64 (k : Int)) rfl HCN.out rfl m1 m2 HB3.out.size ?_; intro A2 c2 w4 hown hg; have HO4 := Lib.hid hown; have HB4 := Lib.hid (below_grown HB3.out hg (fun q hq => (HO3.out.lt q hq).1)); clear hown hg)
        go_roundw
        case rel => exact ⟨k + 1, A2, m + 1, c2, l ++ [(k : Int)], by omega, by go_num, rfl, HN.out, by simp [HM.out], by omega, by rw [← HIL.out]; exact HO4.out, HB4.out⟩
        case measure => simp [intOf]; omega
    · obtain rfl : k = ss.length := by omega
      obtain rfl : l = seenL ss ss.length := HL.out
      obtain rfl : (seenL ss ss.length).length = m := HM.out
      go_wp2_with fail
      first | go_ret | skip
      exact ⟨A', c', rfl, HO.out, HB.out⟩
/-- How often a number stands in a row. -/
def cntL (l : List Int) (x : Int) : Nat := (l.filter (· == x)).length
theorem cntL_take {l : List Int} {x : Int} {k : Nat} (hk : k < l.length) : cntL (l.take (k + 1)) x = cntL (l.take k) x + (if l[k] = x then 1 else 0) := by
  unfold cntL
  rw [List.take_succ_eq_append_getElem hk, List.filter_append, List.length_append]
  congr 1
  by_cases h : l[k] = x
  · simp [h]
  · simp [h]
set_option maxRecDepth 100000 in
theorem qstands_any {P : Nat → Prop} (A : Option Addr) (c : Nat) (l : List Int) (x : Int) (w : World) (h : Src w P A l.length c (il l)) (hn : l.length ≤ 4611686018427387904) :
    Calls Tryz.prog 89 #[.slice A l.length c, .int .i64 x] w fun e w' => e = .returned (.int .i64 (cntL l x : Int)) ∧ w = w' := by
  have H := Lib.hid h
  have hcap := h.cap
  clear h
  go_enter Tryz.func89, Tryz.ntmps89
  go_upto_region 3 with (fail)
  go_loopw [5, 6] (fun v t wr => ∃ k m : Nat, k ≤ l.length ∧ t = .int .i64 k ∧ v = .int .i64 m ∧ m = cntL (l.take k) x ∧ m ≤ k ∧ w = wr) (fun _ t _ => l.length - (intOf t).toNat)
  case atStart => exact ⟨0, 0, Nat.zero_le _, rfl, rfl, rfl, Nat.le_refl _, rfl⟩
  case round =>
    obtain ⟨k, m, hk, rfl, rfl, hm, hmk, rfl⟩ := hrel
    have HM := Lib.hid hm
    clear hm
    by_cases hki : k < l.length
    · obtain ⟨ad, rfl⟩ : ∃ ad, A = some ad := by
        cases A with
        | none => have := (H.out.nil rfl).1; omega
        | some ad => exact ⟨ad, rfl⟩
      have hc : w.cell? (ad.add k) = some (.int .i64 l[k]) := H.out.at_ ad rfl k _ (il_get l k hki)
      have HT := Lib.hid (cntL_take (x := x) hki)
      generalize l[k] = y at *
      by_cases hyx : y = x
      · have HN := Lib.hid (show m + 1 = cntL (l.take (k + 1)) x by rw [HT.out, HM.out, if_pos hyx])
        subst hyx
        clear HT
        go_wp2_with fail
        go_roundw
        case rel => exact ⟨k + 1, m + 1, by omega, by go_num, by go_num, HN.out, by omega, trivial⟩
        case measure => simp [intOf]; omega
      · have HN := Lib.hid (show m = cntL (l.take (k + 1)) x by rw [HT.out, HM.out, if_neg hyx]; rfl)
        have hne : (y == x) = false := beq_eq_false_iff_ne.2 hyx
        clear HT
        go_wp2_with fail
        go_roundw
        case rel => exact ⟨k + 1, m, by omega, by go_num, rfl, HN.out, by omega, trivial⟩
        case measure => simp [intOf]; omega
    · obtain rfl : k = l.length := by omega
      have HN := Lib.hid (show (m : Int) = (cntL l x : Int) by rw [HM.out, List.take_length])
      go_wp2_with fail
      first | go_ret | skip
      exact ⟨ret_i HN.out, rfl⟩
end Go.Proofs.YtacknedekhpklaaGreat

namespace Go.Proofs.YtacknedekhpklaaGreat
set_option maxRecDepth 100000
set_option linter.unusedSimpArgs false
set_option linter.unusedVariables false
open Go.RowKit

theorem sorted_sub : ∀ (m l : List Int), l.Pairwise (· < ·) → m.Pairwise (· < ·) → (∀ x ∈ l, x ∈ m) → l.Sublist m
  | [], l, _, _, h => by
    cases l with
    | nil => exact List.Sublist.slnil
    | cons x l => exact absurd (h x (by simp)) (by simp)
  | y :: m, [], _, _, _ => List.nil_sublist _
  | y :: m, x :: l, hl, hm, h => by
    rw [List.pairwise_cons] at hl hm
    by_cases hxy : x = y
    · subst hxy
      refine List.Sublist.cons_cons x (sorted_sub m l hl.2 hm.2 fun z hz => ?_)
      rcases List.mem_cons.1 (h z (by simp [hz])) with rfl | hz'
      · exact absurd (hl.1 _ hz) (by omega)
      · exact hz'
    · have hxm : x ∈ m := by
        rcases List.mem_cons.1 (h x (by simp)) with e | e
        · exact absurd e hxy
        · exact e
      have hyx := hm.1 x hxm
      refine List.Sublist.cons y (sorted_sub m (x :: l) (List.pairwise_cons.2 hl) hm.2 fun z hz => ?_)
      rcases List.mem_cons.1 (h z hz) with e | e
      · subst e
        rcases List.mem_cons.1 hz with e | e
        · omega
        · have := hl.1 _ e
          omega
      · exact e
theorem sum_eq {f g : Nat → List Int} : ∀ n, (∀ k, k < n → (f k).length ≤ (g k).length) → sumF g n ≤ sumF f n → ∀ k, k < n → (f k).length = (g k).length
  | 0, _, _, k, hk => absurd hk (Nat.not_lt_zero _)
  | n + 1, h, hs, k, hk => by
    have hle : ∀ m, (∀ k, k < m → (f k).length ≤ (g k).length) → sumF f m ≤ sumF g m := by
      intro m
      induction m with
      | zero => intro _; exact Nat.le_refl _
      | succ m ih =>
        intro h
        have h1 := ih fun k hk => h k (by omega)
        have h2 := h m (by omega)
        rw [sumF, sumF]
        omega
    have h1 := hle n fun k hk => h k (by omega)
    have h2 := h n (by omega)
    rw [sumF, sumF] at hs
    by_cases hkn : k = n
    · subst hkn
      omega
    · exact sum_eq n (fun k hk => h k (by omega)) (by omega) k (by omega)
theorem sum_mono (f : Nat → List Int) {m n : Nat} (h : m ≤ n) : sumF f m ≤ sumF f n := by
  induction n with
  | zero => obtain rfl : m = 0 := by omega
            exact Nat.le_refl _
  | succ n ih =>
    by_cases e : m = n + 1
    · subst e; exact Nat.le_refl _
    · have := ih (by omega)
      rw [sumF]
      omega
theorem sum_same {f g : Nat → List Int} : ∀ n, (∀ k, k < n → f k = g k) → sumF f n = sumF g n
  | 0, _ => rfl
  | n + 1, h => by rw [sumF, sumF, sum_same n (fun k hk => h k (by omega)), h n (by omega)]
theorem cnt_mem {l : List Int} {x : Int} (h : cntL l x = 1) : x ∈ l := by
  unfold cntL at h
  have : (l.filter (· == x)) ≠ [] := by
    intro e
    rw [e] at h
    simp at h
  obtain ⟨y, hy⟩ := List.exists_mem_of_ne_nil _ this
  rw [List.mem_filter] at hy
  have : y = x := by simpa using hy.2
  rw [← this]
  exact hy.1
theorem cnt_one : ∀ {l : List Int} {x : Int}, l.Pairwise (· < ·) → x ∈ l → cntL l x = 1
  | y :: l, x, hl, hx => by
    rw [List.pairwise_cons] at hl
    by_cases e : y = x
    · subst e
      have : l.filter (· == y) = [] := by
        rw [List.filter_eq_nil_iff]
        intro z hz
        have := hl.1 z hz
        simp
        omega
      simp [cntL, this]
    · have hxl : x ∈ l := by
        rcases List.mem_cons.1 hx with h | h
        · exact absurd h.symm e
        · exact h
      have := cnt_one hl.2 hxl
      unfold cntL at *
      simp [e, this]
theorem seen_at {ss : List Sym} {k : Nat} (hk : k < (seenL ss ss.length).length) : ∃ j, ∃ hj : j < ss.length, (seenL ss ss.length)[k] = (j : Int) ∧ seenB ss[j] = true := by
  have hm := List.getElem_mem hk
  unfold seenL at hm
  simp only [List.mem_map, List.mem_filter, List.mem_range] at hm
  obtain ⟨j, ⟨h1, h2⟩, h3⟩ := hm
  exact ⟨j, h1, by unfold seenL; exact h3.symm, by rw [← seenAt_at h1]; exact h2⟩
theorem seen_has {ss : List Sym} {j : Nat} (hj : j < ss.length) (h : seenB ss[j] = true) : ∃ k, ∃ hk : k < (seenL ss ss.length).length, (seenL ss ss.length)[k] = (j : Int) := by
  have : (j : Int) ∈ seenL ss ss.length := by
    unfold seenL
    simp only [List.mem_map, List.mem_filter, List.mem_range]
    exact ⟨j, ⟨hj, by rw [seenAt_at hj]; exact h⟩, rfl⟩
  obtain ⟨k, hk, e⟩ := List.getElem_of_mem this
  exact ⟨k, hk, e⟩
section
variable {n : Nat} {f : Nat → List Int} {L : List UInt64} {sh : Int} {ss : List Sym}
/-- What a right table's rows are. -/
theorem of_right (h : rightT n f L sh ss = true) : 0 < n ∧ (∀ k, k < n → f k = fillS ss n ss.length k) ∧ ∀ h ∈ hashesS ss, Siv.lacksB L sh h = false := by
  unfold rightT formT rowsB at h
  simp only [Bool.and_eq_true, decide_eq_true_eq, Bool.not_eq_true', true_and] at h
  obtain ⟨⟨⟨_, h1, _⟩, _⟩, h2, h3⟩ := h
  exact ⟨by omega, h2, fun x hx => by
    rw [List.any_eq_false] at h3
    simpa using h3 x hx⟩
theorem right_no (h : rightT n f L sh ss = true → False) : rightT n f L sh ss = false := by
  cases e : rightT n f L sh ss
  · rfl
  · exact (h e).elim
theorem right_sum (h : rightT n f L sh ss = true) : sumF f n = (seenL ss ss.length).length := by
  obtain ⟨h0, h1, _⟩ := of_right h
  rw [sum_same n h1, sum_all ss n h0 ss.length (Nat.le_refl _), seen_hashes ss ss.length (Nat.le_refl _)]
theorem right_sorted (h : rightT n f L sh ss = true) {b : Nat} (hb : b < n) : (f b).Pairwise (· < ·) := by
  obtain ⟨_, h1, _⟩ := of_right h
  rw [h1 b hb]
  exact fill_sorted _ _ _ _
theorem right_one (h : rightT n f L sh ss = true) {j : Nat} (hj : j < ss.length) (hs : seenB ss[j] = true) : cntL (f (bkt (hashS ss[j].name) n)) (j : Int) = 1 ∧ Siv.lacksB L sh (hashS ss[j].name) = false := by
  obtain ⟨h0, h1, h2⟩ := of_right h
  refine ⟨?_, h2 _ (hash_mem hj hs)⟩
  rw [h1 _ (bkt_lt _ h0)]
  exact cnt_one (fill_sorted _ _ _ _) (fill_mem.2 ⟨j, rfl, hj, by rw [inB_at hj, hs]; simp⟩)
theorem right_of (hf : formT n L.length sh ss.length = true) (hs : ∀ z, z < n → (f z).Pairwise (· < ·)) (ho : ∀ j (hj : j < ss.length), seenB ss[j] = true → cntL (f (bkt (hashS ss[j].name) n)) (j : Int) = 1 ∧ Siv.lacksB L sh (hashS ss[j].name) = false) (hm : sumF f n = (seenL ss ss.length).length) : rightT n f L sh ss = true := by
  have h0 : 0 < n := by
    unfold formT at hf
    simp only [Bool.and_eq_true, decide_eq_true_eq] at hf
    omega
  have hsub : ∀ b, b < n → (fillS ss n ss.length b).Sublist (f b) := fun b hb => sorted_sub _ _ (fill_sorted _ _ _ _) (hs b hb) fun x hx => by
    obtain ⟨j, rfl, hj, hin⟩ := fill_mem.1 hx
    rw [inB_at hj] at hin
    simp only [Bool.and_eq_true, beq_iff_eq] at hin
    have := (ho j hj hin.1).1
    rw [hin.2] at this
    exact cnt_mem this
  have hsum : sumF f n ≤ sumF (fillS ss n ss.length) n := by
    rw [hm, sum_all ss n h0 ss.length (Nat.le_refl _), seen_hashes ss ss.length (Nat.le_refl _)]
    exact Nat.le_refl _
  have hlen := sum_eq n (fun k hk => (hsub k hk).length_le) hsum
  unfold rightT
  rw [hf, Bool.true_and, rows_yes (fun k hk => ((hsub k hk).eq_of_length (hlen k hk)).symm), Bool.true_and, Bool.not_eq_true']
  rw [List.any_eq_false]
  intro h hh
  unfold hashesS at hh
  obtain ⟨s, hs', rfl⟩ := List.mem_map.1 hh
  rw [List.mem_filter] at hs'
  obtain ⟨j, hj, rfl⟩ := List.getElem_of_mem hs'.1
  have := (ho j hj hs'.2).2
  simp [this]
end
theorem sorted_take {l : List Int} {k : Nat} (hk : k + 1 < l.length) (h : (l.take (k + 1)).Pairwise (· < ·)) (hlt : l[k] < l[k + 1]) : (l.take (k + 2)).Pairwise (· < ·) := by
  rw [List.take_succ_eq_append_getElem hk, List.pairwise_append]
  refine ⟨h, by simp, fun x hx y hy => ?_⟩
  obtain rfl : y = l[k + 1] := by simpa using hy
  rw [List.take_succ_eq_append_getElem (by omega : k < l.length)] at h hx
  rcases List.mem_append.1 hx with hx | hx
  · rw [List.pairwise_append] at h
    have := h.2.2 x hx l[k] (by simp)
    omega
  · obtain rfl : x = l[k] := by simpa using hx
    exact hlt
theorem sorted_at {l : List Int} {k : Nat} (hk : k + 1 < l.length) (h : l.Pairwise (· < ·)) : l[k] < l[k + 1] := List.pairwise_iff_getElem.1 h k (k + 1) (by omega) hk (by omega)
end Go.Proofs.YtacknedekhpklaaGreat

namespace Go.Proofs.YtacknedekhpklaaGreat
set_option maxRecDepth 100000
set_option linter.unusedSimpArgs false
set_option linter.unusedVariables false
open Go.RowKit

structure ImOk (x : Im) : Prop where
  head : headB x = true
  segs : segsB x.segs = true
  tls : tlsB x = true
  syms : symsB x = true
  tab : tabB x = true
  relocs : relocsB x = true
  slots : slotsB x = true
  init : runsB x x.init = true
  fini : runsB x x.fini = true
theorem may_ok {x : Im} (h : mayE x = 0) : ImOk x := by
  unfold mayE at h
  split at h
  · cases h
  rename_i h1
  split at h
  · cases h
  rename_i h2
  split at h
  · cases h
  rename_i h3
  split at h
  · cases h
  rename_i h4
  split at h
  · cases h
  rename_i h5
  split at h
  · cases h
  rename_i h6
  split at h
  · cases h
  rename_i h7
  split at h
  · cases h
  rename_i h8
  split at h
  · cases h
  rename_i h9
  simp only [Bool.not_eq_false] at h1 h2 h3 h4 h5 h6 h7 h8 h9
  exact ⟨h1, h2, h3, h4, h5, h6, h7, h8, h9⟩
theorem name_len {l : Str} (h : nameB l = true) : l.length ≤ 64 := by
  unfold nameB at h
  simp only [Bool.and_eq_true, decide_eq_true_eq] at h
  exact h.1.2
/-- The ranges of an image's numbers, and the lengths of its lists. -/
structure Rg (x : Im) : Prop where
  name : x.name.length ≤ 64
  flags : 0 ≤ x.flags ∧ x.flags ≤ 15
  segs : x.segs.length ≤ 8
  seg : ∀ s ∈ x.segs, (0 ≤ s.at_ ∧ s.at_ ≤ 65536) ∧ (0 ≤ s.size ∧ s.size ≤ 65536) ∧ (0 ≤ s.perm ∧ s.perm ≤ 7) ∧ s.bs.length ≤ 65536
  needed : x.needed.length ≤ 16
  need : ∀ s ∈ x.needed, s.name.length ≤ 200 ∧ s.vers.length ≤ 16 ∧ ∀ v ∈ s.vers, v.length ≤ 64
  run : x.run.length ≤ 16
  runs : ∀ s ∈ x.run, s.length ≤ 200
  syms : x.syms.length ≤ 512
  sym : ∀ s ∈ x.syms, s.name.length ≤ 64 ∧ s.ver.length ≤ 64 ∧ (0 ≤ s.kind ∧ s.kind ≤ 3) ∧ (0 ≤ s.vis ∧ s.vis ≤ 3)
  rows : x.rows.length ≤ 512
  row : ∀ r ∈ x.rows, r.length ≤ 512 ∧ ∀ i ∈ r, 0 ≤ i ∧ i < 512
  words : x.words.length ≤ 64
  shift : 0 ≤ x.shift ∧ x.shift ≤ 31
  relocs : x.relocs.length ≤ 512
  reloc : ∀ r ∈ x.relocs, 0 ≤ r.kind ∧ r.kind ≤ 7
  slots : x.slots.length ≤ 128
  slot : ∀ s ∈ x.slots, (0 ≤ s.at_ ∧ s.at_ ≤ 65536) ∧ (0 ≤ s.sym ∧ s.sym ≤ 512) ∧ (0 ≤ s.stub ∧ s.stub ≤ 65536)
  init : x.init.length ≤ 8
  inits : ∀ i ∈ x.init, 0 ≤ i ∧ i ≤ 65536
  fini : x.fini.length ≤ 8
  finis : ∀ i ∈ x.fini, 0 ≤ i ∧ i ≤ 65536
  tlsSize : 0 ≤ x.tlsSize ∧ x.tlsSize ≤ 4096
  tls : x.tls.length ≤ 4096
theorem runs_rg {x : Im} {l : List Int} (hs : ∀ s ∈ x.segs, SegOk s) (h : runsB x l = true) : l.length ≤ 8 ∧ ∀ i ∈ l, 0 ≤ i ∧ i ≤ 65536 := by
  unfold runsB at h
  simp only [Bool.and_eq_true, decide_eq_true_eq, List.all_eq_true] at h
  refine ⟨h.1, fun i hi => ?_⟩
  have := stand_range (h.2 i hi) hs
  omega
theorem fill_rg {ss : List Sym} {cnt k b : Nat} : (fillS ss cnt k b).length ≤ k ∧ ∀ i ∈ fillS ss cnt k b, 0 ≤ i ∧ i < (k : Int) := by
  unfold fillS
  refine ⟨by rw [List.length_map]; exact Nat.le_trans (List.length_filter_le _ _) (by rw [List.length_range]; exact Nat.le_refl _), fun i hi => ?_⟩
  simp only [List.mem_map, List.mem_filter, List.mem_range] at hi
  obtain ⟨j, ⟨hj, _⟩, rfl⟩ := hi
  omega
theorem ok_rg {x : Im} (h : ImOk x) : Rg x := by
  obtain ⟨h1, h2, h3, h4, h5, h6, h7, h8, h9⟩ := h
  have hs := segs_ok h2
  have ht := tls_range h3
  have hr := relocs_all h6
  have g8 := runs_rg hs h8
  have g9 := runs_rg hs h9
  unfold headB neededB runPathB at h1
  simp only [Bool.and_eq_true, Bool.or_eq_true, decide_eq_true_eq, List.all_eq_true] at h1
  obtain ⟨⟨⟨a1, a2⟩, a3, a4⟩, a5, a6⟩ := h1
  unfold withB at a2
  simp only [Bool.and_eq_true, decide_eq_true_eq] at a2
  have b2 := h2
  unfold segsB at b2
  rw [Bool.and_eq_true] at b2
  obtain ⟨b0, b1⟩ := b2
  unfold withB at b0
  simp only [Bool.and_eq_true, decide_eq_true_eq] at b0
  rw [apart_of] at b1
  unfold tlsB at h3
  simp only [Bool.and_eq_true, decide_eq_true_eq] at h3
  unfold symsB at h4
  simp only [Bool.and_eq_true, decide_eq_true_eq, List.all_eq_true, List.mem_range] at h4
  unfold tabB at h5
  have c5 := of_right h5
  unfold rightT formT Siv.formB at h5
  simp only [Bool.and_eq_true, decide_eq_true_eq] at h5
  unfold relocsB at h6
  simp only [Bool.and_eq_true, decide_eq_true_eq] at h6
  unfold slotsB at h7
  rw [Bool.and_eq_true, apart_of] at h7
  simp only [decide_eq_true_eq] at h7
  refine ⟨?_, a2, by omega, ?_, a3, ?_, a5, ?_, h4.1, ?_, h5.1.1.2.2, ?_, ?_, by omega, h6.1, ?_, h7.1, ?_, g8.1, g8.2, g9.1, g9.2, ht, by omega⟩
  · rcases a1 with a1 | a1
    · rw [List.isEmpty_iff.1 a1]; exact Nat.zero_le _
    · exact name_len a1
  · intro s hm
    obtain ⟨k, hk, rfl⟩ := List.getElem_of_mem hm
    have := (b1 k hk).1
    simp only [List.getD_eq_getElem?_getD, List.getElem?_eq_getElem hk, Option.getD_some] at this
    unfold segB withB at this
    simp only [Bool.and_eq_true, decide_eq_true_eq] at this
    omega
  · intro s hm
    have := a4 s hm
    unfold needB pathB withB at this
    simp only [Bool.and_eq_true, decide_eq_true_eq, List.all_eq_true] at this
    exact ⟨by omega, this.1.2, fun v hv => name_len (this.2 v hv)⟩
  · intro s hm
    have := a6 s hm
    unfold pathB withB at this
    simp only [Bool.and_eq_true, decide_eq_true_eq] at this
    omega
  · intro s hm
    obtain ⟨k, hk, rfl⟩ := List.getElem_of_mem hm
    have := h4.2 k hk
    unfold symAt symB at this
    simp only [Bool.and_eq_true, List.getD_eq_getElem?_getD, List.getElem?_eq_getElem hk, Option.getD_some] at this
    have := this.1.1
    unfold rightB fieldsB at this
    simp only [Bool.and_eq_true, decide_eq_true_eq] at this
    obtain ⟨⟨q1, q2⟩, _⟩ := this
    have q3 : x.syms[k].name.length ≤ 64 ∧ x.syms[k].ver.length ≤ 64 := by
      unfold textB at q1
      split at q1
      · rename_i hv
        simp only [Bool.and_eq_true] at q1
        exact ⟨name_len q1.1, by rw [List.isEmpty_iff.1 hv]; exact Nat.zero_le _⟩
      · simp only [Bool.and_eq_true] at q1
        exact ⟨name_len q1.1, name_len q1.2⟩
    exact ⟨q3.1, q3.2, by omega, by omega⟩
  · intro r hm
    obtain ⟨k, hk, rfl⟩ := List.getElem_of_mem hm
    have hc := c5.2.1 k hk
    unfold rowF at hc
    rw [List.getD_eq_getElem?_getD, List.getElem?_eq_getElem hk, Option.getD_some] at hc
    rw [hc]
    have := fill_rg (ss := x.syms) (cnt := x.rows.length) (k := x.syms.length) (b := k)
    exact ⟨by omega, fun i hi => by have := this.2 i hi; omega⟩
  · have := h5.1.2.1
    unfold Siv.pow7 at this
    simp only [decide_eq_true_eq] at this
    omega
  · intro r hm
    have := rel_kind (hr r hm)
    unfold kindRB at this
    repeat' split at this
    all_goals first | omega | simp at this
  · intro s hm
    obtain ⟨k, hk, rfl⟩ := List.getElem_of_mem hm
    have := (h7.2 k hk).1
    simp only [List.getD_eq_getElem?_getD, List.getElem?_eq_getElem hk, Option.getD_some] at this
    have q := slot_range hs this
    unfold slotB idxB withB at this
    simp only [Bool.and_eq_true, decide_eq_true_eq] at this
    have q2 := stand_range this.1.1.2 hs
    omega
end Go.Proofs.YtacknedekhpklaaGreat
