/-
  May: what is wrong first with an image (written by mk4.py).
  Plain facts: how many stand in all buckets; what is found first; what is made is right.
  Contracts over all worlds behind one.
  The document's first one.
  The document's seen, and stands.
  Plain facts: when a table is right, by the document's conditions.
  What an image that may be keeps.
  The image's bytes, and the image of bytes: plain words.
  Encode.
-/
import Derived.Test.YtfljignkjmabpaaGreatZL
import Derived.Test.YtfljignkjmabpaaGreatZTI
import Derived.Test.YtfljignkjmabpaaGreatZCZb
import Derived.Deep.RegionHeld3
import Derived.Test.YtfljignkjmabpaaGreatZWE
import Derived.Test.YtfljignkjmabpaaGreatZPB
namespace Go.Proofs.YtfljignkjmabpaaGreat
set_option maxRecDepth 100000
set_option linter.unusedSimpArgs false
set_option linter.unusedVariables false
open Go.RowKit

def tabB (x : Im) : Bool := rightT x.rows.length (rowF x.rows) x.words x.shift x.syms
def mayE (x : Im) : Int := if headB x = false then 90 else if segsB x.segs = false then 91 else if tlsB x = false then 96 else if symsB x = false then 92 else if tabB x = false then 93 else if relocsB x = false then 94 else if slotsB x = false then 95 else if runsB x x.init = false then 97 else if runsB x x.fini = false then 97 else 0
def MS (w : World) (p : Pl) (x : Im) (X : World) : Prop := Below w.heap.size w X ∧ Ix X w.heap.size p x
theorem MS.on {w X Y : World} {p : Pl} {x : Im} (h : MS w p x X) (hb : Below X.heap.size X Y) : MS w p x Y := ⟨h.1.trans (hb.mono h.1.size), h.2.below hb⟩
theorem MS.b {w X : World} {p : Pl} {x : Im} (h : MS w p x X) : Below w.heap.size w X := h.1
theorem tls_range {x : Im} (h : tlsB x = true) : 0 ≤ x.tlsSize ∧ x.tlsSize ≤ 4096 := by
  unfold tlsB withB at h
  simp only [Bool.and_eq_true, decide_eq_true_eq] at h
  omega
theorem row_len {x : Im} (hf : Fit x) (k : Nat) (hk : k < x.rows.length) : (rowF x.rows k).length ≤ 140737488351232 := (hf.row _ (getD_mem hk)).1
set_option maxHeartbeats 8000000 in
theorem may_im_any (p : Pl) (x : Im) (w : World) (h : ImIn w (fun k => k < w.heap.size) p x) (hf : Fit x) :
    Calls Tryz.prog 15 #[imV p x] w fun e w' => e = .returned (.int .i64 (mayE x)) ∧ Below w.heap.size w w' := by
  have hS0 : MS w p x (w.alloc (.cells (imA p x) 40)) := ⟨ibox_below w p x, Ix.new w p x⟩
  have HS0 := Lib.hid hS0
  have HH := Lib.hid (fun (X : World) (hX : Below w.heap.size w X) => head_any p x X (h.lt hX) hf)
  have HG := Lib.hid (fun (X : World) (hX : Below w.heap.size w X) => segs_any p.sg.1 p.sg.2 x.segs X (h.lt hX).segs hf.segs hf.seg)
  have HT := Lib.hid (fun (X : World) (_ : Below w.heap.size w X) => tls_any p x X hf.tls)
  have HY := Lib.hid (fun (hs : segsB x.segs = true) (ht : tlsB x = true) (X : World) (hX : Below w.heap.size w X) => syms_any p x X (h.lt hX) hf (segs_ok hs) (tls_range ht))
  have HR := Lib.hid (fun (X : World) (hX : Below w.heap.size w X) => tright_any p.bk.1 x.rows.length p.bk.2 p.fw.1 p.fw.2 (rowF x.rows) x.words x.shift p.sy.1 p.sy.2 x.syms X (h.lt hX).tab (h.lt hX).syms (fun s hs => (hf.sym s hs).1) (by have := hf.rows; unfold Long at this; omega) (by have := hf.words; unfold Long at this; omega) (by have := hf.syms; unfold Long at this; omega) (fun k hk => by have := row_len hf k hk; omega))
  have HL := Lib.hid (fun (hs : segsB x.segs = true) (X : World) (hX : Below w.heap.size w X) => relocs_any p x X (h.lt hX) hf (segs_ok hs))
  have HO := Lib.hid (fun (hs : segsB x.segs = true) (hr : relocsB x = true) (X : World) (hX : Below w.heap.size w X) => slots_any p x X (h.lt hX) hf (segs_ok hs) (relocs_all hr))
  have HI := Lib.hid (fun (hs : segsB x.segs = true) (X : World) (hX : Below w.heap.size w X) => runs_any p x p.ini.1 p.ini.2 x.init X (h.lt hX) (h.lt hX).init hf (segs_ok hs) hf.init)
  have HJ := Lib.hid (fun (hs : segsB x.segs = true) (X : World) (hX : Below w.heap.size w X) => runs_any p x p.fin.1 p.fin.2 x.fini X (h.lt hX) (h.lt hX).fini hf (segs_ok hs) hf.fini)
  generalize hbb : mayE x = bb
  have HF := Lib.hid (hbb.symm.trans (show mayE x = (if headB x = false then 90 else if segsB x.segs = false then 91 else if tlsB x = false then 96 else if symsB x = false then 92 else if tabB x = false then 93 else if relocsB x = false then 94 else if slotsB x = false then 95 else if runsB x x.init = false then 97 else if runsB x x.fini = false then 97 else 0) from rfl))
  clear h hf hbb
  go_enter Tryz.func15, Tryz.ntmps15
  go_upto_region 1 with (fail)
  change Code.wp _ _ _ _ (w.alloc (.cells (imA p x) 40))
  generalize w.alloc (.cells (imA p x) 40) = w0 at *
  obtain ⟨c0, c1, c2, c3, c4, c5, c6, c7, c8, c9, c10, c11, c12, c13, c14⟩ := HS0.out.2.cells
  have H0 := Lib.hid (HH.out)
  cases hp0 : headB x
  · have HV := Lib.hid (show bb = 90 by rw [HF.out, if_pos hp0])
    rw [hp0] at H0
    go_wp2_with (go_at_call 28; (with_reducible refine (H0.out _ HS0.out.b).mono ?_); rintro e w1 ⟨rfl, hb1⟩; have HS1 := Lib.hid (HS0.out.on hb1); clear hb1)
    first | go_ret | skip
    exact ⟨by rw [HV.out]; rfl, HS1.out.1⟩
  rw [hp0] at H0
  go_upto_region 3 with (go_at_call 28; (with_reducible refine (H0.out _ HS0.out.b).mono ?_); rintro e w1 ⟨rfl, hb1⟩; have HS1 := Lib.hid (HS0.out.on hb1); clear hb1)
  clear H0 HS0 c0 c1 c2 c3 c4 c5 c6 c7 c8 c9 c10 c11 c12 c13 c14
  obtain ⟨c0, c1, c2, c3, c4, c5, c6, c7, c8, c9, c10, c11, c12, c13, c14⟩ := HS1.out.2.cells
  have H1 := Lib.hid (HG.out)
  cases hp1 : segsB x.segs
  · have HV := Lib.hid (show bb = 91 by rw [HF.out, if_neg (by rw [hp0]; simp), if_pos hp1])
    rw [hp1] at H1
    go_wp2_with (go_at_call 29; (with_reducible refine (H1.out _ HS1.out.b).mono ?_); rintro e w2 ⟨rfl, hb2⟩; have HS2 := Lib.hid (HS1.out.on hb2); clear hb2)
    first | go_ret | skip
    exact ⟨by rw [HV.out]; rfl, HS2.out.1⟩
  rw [hp1] at H1
  go_upto_region 5 with (go_at_call 29; (with_reducible refine (H1.out _ HS1.out.b).mono ?_); rintro e w2 ⟨rfl, hb2⟩; have HS2 := Lib.hid (HS1.out.on hb2); clear hb2)
  clear H1 HS1 c0 c1 c2 c3 c4 c5 c6 c7 c8 c9 c10 c11 c12 c13 c14
  obtain ⟨c0, c1, c2, c3, c4, c5, c6, c7, c8, c9, c10, c11, c12, c13, c14⟩ := HS2.out.2.cells
  have H2 := Lib.hid (HT.out)
  cases hp2 : tlsB x
  · have HV := Lib.hid (show bb = 96 by rw [HF.out, if_neg (by rw [hp0]; simp), if_neg (by rw [hp1]; simp), if_pos hp2])
    rw [hp2] at H2
    go_wp2_with (go_at_call 30; (with_reducible refine (H2.out _ HS2.out.b).mono ?_); rintro e w3 ⟨rfl, hb3⟩; have HS3 := Lib.hid (HS2.out.on hb3); clear hb3)
    first | go_ret | skip
    exact ⟨by rw [HV.out]; rfl, HS3.out.1⟩
  rw [hp2] at H2
  go_upto_region 7 with (go_at_call 30; (with_reducible refine (H2.out _ HS2.out.b).mono ?_); rintro e w3 ⟨rfl, hb3⟩; have HS3 := Lib.hid (HS2.out.on hb3); clear hb3)
  clear H2 HS2 c0 c1 c2 c3 c4 c5 c6 c7 c8 c9 c10 c11 c12 c13 c14
  obtain ⟨c0, c1, c2, c3, c4, c5, c6, c7, c8, c9, c10, c11, c12, c13, c14⟩ := HS3.out.2.cells
  have H3 := Lib.hid ((HY.out hp1 hp2))
  cases hp3 : symsB x
  · have HV := Lib.hid (show bb = 92 by rw [HF.out, if_neg (by rw [hp0]; simp), if_neg (by rw [hp1]; simp), if_neg (by rw [hp2]; simp), if_pos hp3])
    rw [hp3] at H3
    go_wp2_with (go_at_call 31; (with_reducible refine (H3.out _ HS3.out.b).mono ?_); rintro e w4 ⟨rfl, hb4⟩; have HS4 := Lib.hid (HS3.out.on hb4); clear hb4)
    first | go_ret | skip
    exact ⟨by rw [HV.out]; rfl, HS4.out.1⟩
  rw [hp3] at H3
  go_upto_region 9 with (go_at_call 31; (with_reducible refine (H3.out _ HS3.out.b).mono ?_); rintro e w4 ⟨rfl, hb4⟩; have HS4 := Lib.hid (HS3.out.on hb4); clear hb4)
  clear H3 HS3 c0 c1 c2 c3 c4 c5 c6 c7 c8 c9 c10 c11 c12 c13 c14
  obtain ⟨c0, c1, c2, c3, c4, c5, c6, c7, c8, c9, c10, c11, c12, c13, c14⟩ := HS4.out.2.cells
  have H4 := Lib.hid (HR.out)
  rw [show rightT x.rows.length (rowF x.rows) x.words x.shift x.syms = tabB x from rfl] at H4
  cases hp4 : tabB x
  · have HV := Lib.hid (show bb = 93 by rw [HF.out, if_neg (by rw [hp0]; simp), if_neg (by rw [hp1]; simp), if_neg (by rw [hp2]; simp), if_neg (by rw [hp3]; simp), if_pos hp4])
    rw [hp4] at H4
    rw [show errT false = .int .i64 80 from rfl] at H4
    go_wp2_with (go_at_call 32; (with_reducible refine (H4.out _ HS4.out.b).mono ?_); rintro e w5 ⟨rfl, hb5⟩; have HS5 := Lib.hid (HS4.out.on hb5); clear hb5)
    first | go_ret | skip
    exact ⟨by rw [HV.out]; rfl, HS5.out.1⟩
  rw [hp4] at H4
  rw [show errT true = .int .i64 0 from rfl] at H4
  go_upto_region 11 with (go_at_call 32; (with_reducible refine (H4.out _ HS4.out.b).mono ?_); rintro e w5 ⟨rfl, hb5⟩; have HS5 := Lib.hid (HS4.out.on hb5); clear hb5)
  clear H4 HS4 c0 c1 c2 c3 c4 c5 c6 c7 c8 c9 c10 c11 c12 c13 c14
  obtain ⟨c0, c1, c2, c3, c4, c5, c6, c7, c8, c9, c10, c11, c12, c13, c14⟩ := HS5.out.2.cells
  have H5 := Lib.hid ((HL.out hp1))
  cases hp5 : relocsB x
  · have HV := Lib.hid (show bb = 94 by rw [HF.out, if_neg (by rw [hp0]; simp), if_neg (by rw [hp1]; simp), if_neg (by rw [hp2]; simp), if_neg (by rw [hp3]; simp), if_neg (by rw [hp4]; simp), if_pos hp5])
    rw [hp5] at H5
    go_wp2_with (go_at_call 33; (with_reducible refine (H5.out _ HS5.out.b).mono ?_); rintro e w6 ⟨rfl, hb6⟩; have HS6 := Lib.hid (HS5.out.on hb6); clear hb6)
    first | go_ret | skip
    exact ⟨by rw [HV.out]; rfl, HS6.out.1⟩
  rw [hp5] at H5
  go_upto_region 13 with (go_at_call 33; (with_reducible refine (H5.out _ HS5.out.b).mono ?_); rintro e w6 ⟨rfl, hb6⟩; have HS6 := Lib.hid (HS5.out.on hb6); clear hb6)
  clear H5 HS5 c0 c1 c2 c3 c4 c5 c6 c7 c8 c9 c10 c11 c12 c13 c14
  obtain ⟨c0, c1, c2, c3, c4, c5, c6, c7, c8, c9, c10, c11, c12, c13, c14⟩ := HS6.out.2.cells
  have H6 := Lib.hid ((HO.out hp1 hp5))
  cases hp6 : slotsB x
  · have HV := Lib.hid (show bb = 95 by rw [HF.out, if_neg (by rw [hp0]; simp), if_neg (by rw [hp1]; simp), if_neg (by rw [hp2]; simp), if_neg (by rw [hp3]; simp), if_neg (by rw [hp4]; simp), if_neg (by rw [hp5]; simp), if_pos hp6])
    rw [hp6] at H6
    go_wp2_with (go_at_call 34; (with_reducible refine (H6.out _ HS6.out.b).mono ?_); rintro e w7 ⟨rfl, hb7⟩; have HS7 := Lib.hid (HS6.out.on hb7); clear hb7)
    first | go_ret | skip
    exact ⟨by rw [HV.out]; rfl, HS7.out.1⟩
  rw [hp6] at H6
  go_upto_region 15 with (go_at_call 34; (with_reducible refine (H6.out _ HS6.out.b).mono ?_); rintro e w7 ⟨rfl, hb7⟩; have HS7 := Lib.hid (HS6.out.on hb7); clear hb7)
  clear H6 HS6 c0 c1 c2 c3 c4 c5 c6 c7 c8 c9 c10 c11 c12 c13 c14
  obtain ⟨c0, c1, c2, c3, c4, c5, c6, c7, c8, c9, c10, c11, c12, c13, c14⟩ := HS7.out.2.cells
  have H7 := Lib.hid ((HI.out hp1))
  cases hp7 : runsB x x.init
  · have HV := Lib.hid (show bb = 97 by rw [HF.out, if_neg (by rw [hp0]; simp), if_neg (by rw [hp1]; simp), if_neg (by rw [hp2]; simp), if_neg (by rw [hp3]; simp), if_neg (by rw [hp4]; simp), if_neg (by rw [hp5]; simp), if_neg (by rw [hp6]; simp), if_pos hp7])
    rw [hp7] at H7
    go_wp2_with (go_at_call 35; (with_reducible refine (H7.out _ HS7.out.b).mono ?_); rintro e w8 ⟨rfl, hb8⟩; have HS8 := Lib.hid (HS7.out.on hb8); clear hb8)
    first | go_ret | skip
    exact ⟨by rw [HV.out]; rfl, HS8.out.1⟩
  rw [hp7] at H7
  go_upto_region 16 with (go_at_call 35; (with_reducible refine (H7.out _ HS7.out.b).mono ?_); rintro e w8 ⟨rfl, hb8⟩; have HS8 := Lib.hid (HS7.out.on hb8); clear hb8)
  clear H7 HS7 c0 c1 c2 c3 c4 c5 c6 c7 c8 c9 c10 c11 c12 c13 c14
  obtain ⟨c0, c1, c2, c3, c4, c5, c6, c7, c8, c9, c10, c11, c12, c13, c14⟩ := HS8.out.2.cells
  have H8 := Lib.hid ((HJ.out hp1))
  cases hp8 : runsB x x.fini
  · have HV := Lib.hid (show bb = 97 by rw [HF.out, if_neg (by rw [hp0]; simp), if_neg (by rw [hp1]; simp), if_neg (by rw [hp2]; simp), if_neg (by rw [hp3]; simp), if_neg (by rw [hp4]; simp), if_neg (by rw [hp5]; simp), if_neg (by rw [hp6]; simp), if_neg (by rw [hp7]; simp), if_pos hp8])
    rw [hp8] at H8
    go_wp2_with (go_at_call 35; (with_reducible refine (H8.out _ HS8.out.b).mono ?_); rintro e w9 ⟨rfl, hb9⟩; have HS9 := Lib.hid (HS8.out.on hb9); clear hb9)
    first | go_ret | skip
    exact ⟨by rw [HV.out]; rfl, HS9.out.1⟩
  rw [hp8] at H8
  have HV := Lib.hid (show bb = 0 by rw [HF.out, if_neg (by rw [hp0]; simp), if_neg (by rw [hp1]; simp), if_neg (by rw [hp2]; simp), if_neg (by rw [hp3]; simp), if_neg (by rw [hp4]; simp), if_neg (by rw [hp5]; simp), if_neg (by rw [hp6]; simp), if_neg (by rw [hp7]; simp), if_neg (by rw [hp8]; simp)])
  go_wp2_with (go_at_call 35; (with_reducible refine (H8.out _ HS8.out.b).mono ?_); rintro e w9 ⟨rfl, hb9⟩; have HS9 := Lib.hid (HS8.out.on hb9); clear hb9)
  first | go_ret | skip
  exact ⟨by rw [HV.out]; rfl, HS9.out.1⟩
end Go.Proofs.YtfljignkjmabpaaGreat

namespace Go.Proofs.YtfljignkjmabpaaGreat.Siv
set_option maxRecDepth 100000
set_option linter.unusedSimpArgs false
set_option linter.unusedVariables false
open Go.RowKit

def hit (s n : Nat) (hs : List UInt32) (i t : Nat) : Bool := hs.any fun h => idx n h == i && (msk s h).toNat.testBit t
end Go.Proofs.YtfljignkjmabpaaGreat.Siv
namespace Go.Proofs.YtfljignkjmabpaaGreat
open Go.RowKit

def sumF (f : Nat → List Int) : Nat → Nat
  | 0 => 0
  | m + 1 => sumF f m + (f m).length
def mAt (r : Sym) (ss : List Sym) (v : Bool) (x : Int) : Bool := match ss[x.toNat]? with
  | some d => matchB r d v
  | none => false
/-- The first one of all symbols that matches. -/
def firstS (r : Sym) (ss : List Sym) : Int := match ss.findIdx? (fun d => matchB r d (ss.any vdB)) with
  | some i => (i : Int)
  | none => -1
end Go.Proofs.YtfljignkjmabpaaGreat

namespace Go.Proofs.YtfljignkjmabpaaGreat
set_option maxRecDepth 100000
set_option linter.unusedSimpArgs false
set_option linter.unusedVariables false
open Go.RowKit

end Go.Proofs.YtfljignkjmabpaaGreat

namespace Go.Proofs.YtfljignkjmabpaaGreat
set_option maxRecDepth 100000
set_option linter.unusedSimpArgs false
set_option linter.unusedVariables false
open Go.RowKit

end Go.Proofs.YtfljignkjmabpaaGreat

namespace Go.Proofs.YtfljignkjmabpaaGreat
set_option maxRecDepth 100000
set_option linter.unusedSimpArgs false
set_option linter.unusedVariables false
open Go.RowKit

def seenAt (ss : List Sym) (i : Nat) : Bool := match ss[i]? with
  | some s => seenB s
  | none => false
theorem seenAt_at {ss : List Sym} {k : Nat} (hk : k < ss.length) : seenAt ss k = seenB ss[k] := by simp [seenAt, hk]
/-- The places of those that are seen, among the first k. -/
def seenL (ss : List Sym) (k : Nat) : List Int := ((List.range k).filter (seenAt ss)).map fun (i : Nat) => (i : Int)
theorem seen_succ (ss : List Sym) (k : Nat) : seenL ss (k + 1) = seenL ss k ++ (if seenAt ss k = true then [(k : Int)] else []) := by
  unfold seenL
  rw [List.range_succ, List.filter_append, List.map_append]
  congr 1
  by_cases h : seenAt ss k = true
  · simp [h]
  · simp [h]
theorem seen_len (ss : List Sym) (k : Nat) : (seenL ss k).length ≤ k := by
  unfold seenL
  rw [List.length_map]
  have := List.length_filter_le (seenAt ss) (List.range k)
  simpa using this
theorem seen_hashes (ss : List Sym) : ∀ k, k ≤ ss.length → (seenL ss k).length = (hashesS (ss.take k)).length
  | 0, _ => rfl
  | k + 1, hk => by
    have hkl : k < ss.length := by omega
    rw [seen_succ, hashes_take hkl, List.length_append, List.length_append, seen_hashes ss k (by omega), seenAt_at hkl]
    cases seenB ss[k] <;> simp
set_option maxRecDepth 100000 in
set_option maxHeartbeats 4000000 in
theorem qseen_any (A : Option Addr) (n c : Nat) (ss : List Sym) (w : World) (h : Syl w (fun k => k < w.heap.size) A n c ss) (hn : n ≤ 512) :
    Calls Tryz.prog 94 #[.slice A n c] w fun e w' => ∃ A' c', e = .returned (.slice A' (seenL ss n).length c') ∧ w'.ownsRow w.heap.size 3 1 (.slice A' (seenL ss n).length c') (seenL ss n).length (il (seenL ss n)) ∧ Below w.heap.size w w' := by
  obtain rfl := h.len
  have H := Lib.hid h
  clear h
  go_enter Tryz.func94, Tryz.ntmps94
  go_upto_region 3 with (fail)
  go_loopw [3, 4] (fun v t wr => ∃ (k : Nat) (A' : Option Addr) (m c' : Nat) (l : List Int), k ≤ ss.length ∧ t = .int .i64 k ∧ v = .slice A' m c' ∧ l = seenL ss k ∧ l.length = m ∧ m ≤ k ∧ wr.ownsRow w.heap.size 3 1 (.slice A' m c') m (il l) ∧ Below w.heap.size w wr) (fun _ t _ => ss.length - (intOf t).toNat)
  case atStart => exact ⟨0, none, 0, 0, [], Nat.zero_le _, rfl, rfl, rfl, rfl, Nat.le_refl _, World.ownsRow_nil _ _ _ _, Below.refl _ _⟩
  case round =>
    obtain ⟨k, A', m, c', l, hk, rfl, rfl, hl, hm, hmk, ho, hb⟩ := hrel
    have HB := Lib.hid hb
    have HO := Lib.hid ho
    have HL := Lib.hid hl
    have HM := Lib.hid hm
    clear hb ho hl hm
    by_cases hki : k < ss.length
    · obtain ⟨ad, rfl⟩ : ∃ ad, A = some ad := by
        cases A with
        | none => have := (H.out.nil rfl).1; omega
        | some ad => exact ⟨ad, rfl⟩
      obtain ⟨b, o, rfl⟩ := H.out.plain (by omega)
      have hcap := H.out.cap
      obtain ⟨c0, c1, c2, c3, c4, c5, c6, c7, c8⟩ := (H.out.below HB.out (fun _ h => h)).get k hki
      have HSU := Lib.hid (show seenL ss (k + 1) = seenL ss k ++ (if seenB ss[k] = true then [(k : Int)] else []) by rw [seen_succ, seenAt_at hki])
      generalize ss[k] = s at *
      have HSE := Lib.hid (fun X => rseen_any s X)
      generalize seenB s = se at *
      cases se
      · have HN := Lib.hid (show l = seenL ss (k + 1) by rw [HSU.out, HL.out]; simp)
        go_upto_region 6 with (go_at_call 160; refine (HSE.out _).mono ?_; rintro e w2 ⟨rfl, hb2⟩; have HB2 := Lib.hid (HB.out.trans (hb2.mono HB.out.size)); have HO2 := Lib.hid (Siv.own_below HO.out hb2); clear hb2)
        clear c0 c1 c2 c3 c4 c5 c6 c7 c8 HSE
        go_wp2_with fail
        go_roundw
        case rel => exact ⟨k + 1, A', m, c', l, by omega, by go_num, rfl, HN.out, HM.out, by omega, HO2.out, HB2.out⟩
        case measure => simp [intOf]; omega
      · have HN := Lib.hid (show l ++ [(k : Int)] = seenL ss (k + 1) by rw [HSU.out, HL.out]; simp)
        go_upto_region 6 with (go_at_call 160; refine (HSE.out _).mono ?_; rintro e w2 ⟨rfl, hb2⟩; have HB2 := Lib.hid (HB.out.trans (hb2.mono HB.out.size)); have HO2 := Lib.hid (Siv.own_below HO.out hb2); clear hb2)
        clear c0 c1 c2 c3 c4 c5 c6 c7 c8 HSE
        have HCN := Lib.hid ((Bx.new w2 #[.int .i64 (k : Int)] 3).c 0)
        have HO3 := Lib.hid (own_alloc HO2.out (.cells #[.int .i64 (k : Int)] 3))
        have HB3 := Lib.hid (HB2.out.alloc HB2.out.size (.cells #[.int .i64 (k : Int)] 3))
        have m1 : m + 1 ≤ maxLen := by simp only [maxLen]; omega
        have m2 : (m + 1) * 8 ≤ 140737488355328 := by omega
        have hil : il l ++ [.int .i64 (k : Int)] = il (l ++ [(k : Int)]) := by simp [il]
        have HIL := Lib.hid hil
        clear hil
        go_wp2_with (at_builtin; refine append_one rfl (.tmp 16) (.tmp 18) 38 3 (.int .i64 0) 8 rfl Tryz.underlying38 Tryz.info_int rfl w.heap.size A' m c' (il l) rfl HO3.out w2.heap.size (.int .i64 (k : Int)) rfl HCN.out rfl m1 m2 HB3.out.size ?_; intro A2 c2 w4 hown hg; have HO4 := Lib.hid hown; have HB4 := Lib.hid (below_grown HB3.out hg (fun q hq => (HO3.out.lt q hq).1)); clear hown hg)
        go_roundw
        case rel => exact ⟨k + 1, A2, m + 1, c2, l ++ [(k : Int)], by omega, by go_num, rfl, HN.out, by simp [HM.out], by omega, by rw [← HIL.out]; exact HO4.out, HB4.out⟩
        case measure => simp [intOf]; omega
    · obtain rfl : k = ss.length := by omega
      obtain rfl : l = seenL ss ss.length := HL.out
      obtain rfl : (seenL ss ss.length).length = m := HM.out
      go_wp2_with fail
      first | go_ret | skip
      exact ⟨A', c', rfl, HO.out, HB.out⟩
/-- How often a number stands in a row. -/
def cntL (l : List Int) (x : Int) : Nat := (l.filter (· == x)).length
end Go.Proofs.YtfljignkjmabpaaGreat

namespace Go.Proofs.YtfljignkjmabpaaGreat
set_option maxRecDepth 100000
set_option linter.unusedSimpArgs false
set_option linter.unusedVariables false
open Go.RowKit

section
variable {n : Nat} {f : Nat → List Int} {L : List UInt64} {sh : Int} {ss : List Sym}
/-- What a right table's rows are. -/
theorem of_right (h : rightT n f L sh ss = true) : 0 < n ∧ (∀ k, k < n → f k = fillS ss n ss.length k) ∧ ∀ h ∈ hashesS ss, Siv.lacksB L sh h = false := by
  unfold rightT formT rowsB at h
  simp only [Bool.and_eq_true, decide_eq_true_eq, Bool.not_eq_true', true_and] at h
  obtain ⟨⟨⟨_, h1, _⟩, _⟩, h2, h3⟩ := h
  exact ⟨by omega, h2, fun x hx => by
    rw [List.any_eq_false] at h3
    simpa using h3 x hx⟩
end
end Go.Proofs.YtfljignkjmabpaaGreat

namespace Go.Proofs.YtfljignkjmabpaaGreat
set_option maxRecDepth 100000
set_option linter.unusedSimpArgs false
set_option linter.unusedVariables false
open Go.RowKit

structure ImOk (x : Im) : Prop where
  head : headB x = true
  segs : segsB x.segs = true
  tls : tlsB x = true
  syms : symsB x = true
  tab : tabB x = true
  relocs : relocsB x = true
  slots : slotsB x = true
  init : runsB x x.init = true
  fini : runsB x x.fini = true
theorem may_ok {x : Im} (h : mayE x = 0) : ImOk x := by
  unfold mayE at h
  split at h
  · cases h
  rename_i h1
  split at h
  · cases h
  rename_i h2
  split at h
  · cases h
  rename_i h3
  split at h
  · cases h
  rename_i h4
  split at h
  · cases h
  rename_i h5
  split at h
  · cases h
  rename_i h6
  split at h
  · cases h
  rename_i h7
  split at h
  · cases h
  rename_i h8
  split at h
  · cases h
  rename_i h9
  simp only [Bool.not_eq_false] at h1 h2 h3 h4 h5 h6 h7 h8 h9
  exact ⟨h1, h2, h3, h4, h5, h6, h7, h8, h9⟩
theorem name_len {l : Str} (h : nameB l = true) : l.length ≤ 64 := by
  unfold nameB at h
  simp only [Bool.and_eq_true, decide_eq_true_eq] at h
  exact h.1.2
/-- The ranges of an image's numbers, and the lengths of its lists. -/
structure Rg (x : Im) : Prop where
  name : x.name.length ≤ 64
  flags : 0 ≤ x.flags ∧ x.flags ≤ 15
  segs : x.segs.length ≤ 8
  seg : ∀ s ∈ x.segs, (0 ≤ s.at_ ∧ s.at_ ≤ 65536) ∧ (0 ≤ s.size ∧ s.size ≤ 65536) ∧ (0 ≤ s.perm ∧ s.perm ≤ 7) ∧ s.bs.length ≤ 65536
  needed : x.needed.length ≤ 16
  need : ∀ s ∈ x.needed, s.name.length ≤ 200 ∧ s.vers.length ≤ 16 ∧ ∀ v ∈ s.vers, v.length ≤ 64
  run : x.run.length ≤ 16
  runs : ∀ s ∈ x.run, s.length ≤ 200
  syms : x.syms.length ≤ 512
  sym : ∀ s ∈ x.syms, s.name.length ≤ 64 ∧ s.ver.length ≤ 64 ∧ (0 ≤ s.kind ∧ s.kind ≤ 3) ∧ (0 ≤ s.vis ∧ s.vis ≤ 3)
  rows : x.rows.length ≤ 512
  row : ∀ r ∈ x.rows, r.length ≤ 512 ∧ ∀ i ∈ r, 0 ≤ i ∧ i < 512
  words : x.words.length ≤ 64
  shift : 0 ≤ x.shift ∧ x.shift ≤ 31
  relocs : x.relocs.length ≤ 512
  reloc : ∀ r ∈ x.relocs, 0 ≤ r.kind ∧ r.kind ≤ 7
  slots : x.slots.length ≤ 128
  slot : ∀ s ∈ x.slots, (0 ≤ s.at_ ∧ s.at_ ≤ 65536) ∧ (0 ≤ s.sym ∧ s.sym ≤ 512) ∧ (0 ≤ s.stub ∧ s.stub ≤ 65536)
  init : x.init.length ≤ 8
  inits : ∀ i ∈ x.init, 0 ≤ i ∧ i ≤ 65536
  fini : x.fini.length ≤ 8
  finis : ∀ i ∈ x.fini, 0 ≤ i ∧ i ≤ 65536
  tlsSize : 0 ≤ x.tlsSize ∧ x.tlsSize ≤ 4096
  tls : x.tls.length ≤ 4096
theorem runs_rg {x : Im} {l : List Int} (hs : ∀ s ∈ x.segs, SegOk s) (h : runsB x l = true) : l.length ≤ 8 ∧ ∀ i ∈ l, 0 ≤ i ∧ i ≤ 65536 := by
  unfold runsB at h
  simp only [Bool.and_eq_true, decide_eq_true_eq, List.all_eq_true] at h
  refine ⟨h.1, fun i hi => ?_⟩
  have := stand_range (h.2 i hi) hs
  omega
theorem fill_rg {ss : List Sym} {cnt k b : Nat} : (fillS ss cnt k b).length ≤ k ∧ ∀ i ∈ fillS ss cnt k b, 0 ≤ i ∧ i < (k : Int) := by
  unfold fillS
  refine ⟨by rw [List.length_map]; exact Nat.le_trans (List.length_filter_le _ _) (by rw [List.length_range]; exact Nat.le_refl _), fun i hi => ?_⟩
  simp only [List.mem_map, List.mem_filter, List.mem_range] at hi
  obtain ⟨j, ⟨hj, _⟩, rfl⟩ := hi
  omega
theorem ok_rg {x : Im} (h : ImOk x) : Rg x := by
  obtain ⟨h1, h2, h3, h4, h5, h6, h7, h8, h9⟩ := h
  have hs := segs_ok h2
  have ht := tls_range h3
  have hr := relocs_all h6
  have g8 := runs_rg hs h8
  have g9 := runs_rg hs h9
  unfold headB neededB runPathB at h1
  simp only [Bool.and_eq_true, Bool.or_eq_true, decide_eq_true_eq, List.all_eq_true] at h1
  obtain ⟨⟨⟨a1, a2⟩, a3, a4⟩, a5, a6⟩ := h1
  unfold withB at a2
  simp only [Bool.and_eq_true, decide_eq_true_eq] at a2
  have b2 := h2
  unfold segsB at b2
  rw [Bool.and_eq_true] at b2
  obtain ⟨b0, b1⟩ := b2
  unfold withB at b0
  simp only [Bool.and_eq_true, decide_eq_true_eq] at b0
  rw [apart_of] at b1
  unfold tlsB at h3
  simp only [Bool.and_eq_true, decide_eq_true_eq] at h3
  unfold symsB at h4
  simp only [Bool.and_eq_true, decide_eq_true_eq, List.all_eq_true, List.mem_range] at h4
  unfold tabB at h5
  have c5 := of_right h5
  unfold rightT formT Siv.formB at h5
  simp only [Bool.and_eq_true, decide_eq_true_eq] at h5
  unfold relocsB at h6
  simp only [Bool.and_eq_true, decide_eq_true_eq] at h6
  unfold slotsB at h7
  rw [Bool.and_eq_true, apart_of] at h7
  simp only [decide_eq_true_eq] at h7
  refine ⟨?_, a2, by omega, ?_, a3, ?_, a5, ?_, h4.1, ?_, h5.1.1.2.2, ?_, ?_, by omega, h6.1, ?_, h7.1, ?_, g8.1, g8.2, g9.1, g9.2, ht, by omega⟩
  · rcases a1 with a1 | a1
    · rw [List.isEmpty_iff.1 a1]; exact Nat.zero_le _
    · exact name_len a1
  · intro s hm
    obtain ⟨k, hk, rfl⟩ := List.getElem_of_mem hm
    have := (b1 k hk).1
    simp only [List.getD_eq_getElem?_getD, List.getElem?_eq_getElem hk, Option.getD_some] at this
    unfold segB withB at this
    simp only [Bool.and_eq_true, decide_eq_true_eq] at this
    omega
  · intro s hm
    have := a4 s hm
    unfold needB pathB withB at this
    simp only [Bool.and_eq_true, decide_eq_true_eq, List.all_eq_true] at this
    exact ⟨by omega, this.1.2, fun v hv => name_len (this.2 v hv)⟩
  · intro s hm
    have := a6 s hm
    unfold pathB withB at this
    simp only [Bool.and_eq_true, decide_eq_true_eq] at this
    omega
  · intro s hm
    obtain ⟨k, hk, rfl⟩ := List.getElem_of_mem hm
    have := h4.2 k hk
    unfold symAt symB at this
    simp only [Bool.and_eq_true, List.getD_eq_getElem?_getD, List.getElem?_eq_getElem hk, Option.getD_some] at this
    have := this.1.1
    unfold rightB fieldsB at this
    simp only [Bool.and_eq_true, decide_eq_true_eq] at this
    obtain ⟨⟨q1, q2⟩, _⟩ := this
    have q3 : x.syms[k].name.length ≤ 64 ∧ x.syms[k].ver.length ≤ 64 := by
      unfold textB at q1
      split at q1
      · rename_i hv
        simp only [Bool.and_eq_true] at q1
        exact ⟨name_len q1.1, by rw [List.isEmpty_iff.1 hv]; exact Nat.zero_le _⟩
      · simp only [Bool.and_eq_true] at q1
        exact ⟨name_len q1.1, name_len q1.2⟩
    exact ⟨q3.1, q3.2, by omega, by omega⟩
  · intro r hm
    obtain ⟨k, hk, rfl⟩ := List.getElem_of_mem hm
    have hc := c5.2.1 k hk
    unfold rowF at hc
    rw [List.getD_eq_getElem?_getD, List.getElem?_eq_getElem hk, Option.getD_some] at hc
    rw [hc]
    have := fill_rg (ss := x.syms) (cnt := x.rows.length) (k := x.syms.length) (b := k)
    exact ⟨by omega, fun i hi => by have := this.2 i hi; omega⟩
  · have := h5.1.2.1
    unfold Siv.pow7 at this
    simp only [decide_eq_true_eq] at this
    omega
  · intro r hm
    have := rel_kind (hr r hm)
    unfold kindRB at this
    repeat' split at this
    all_goals first | omega | simp at this
  · intro s hm
    obtain ⟨k, hk, rfl⟩ := List.getElem_of_mem hm
    have := (h7.2 k hk).1
    simp only [List.getD_eq_getElem?_getD, List.getElem?_eq_getElem hk, Option.getD_some] at this
    have q := slot_range hs this
    unfold slotB idxB withB at this
    simp only [Bool.and_eq_true, decide_eq_true_eq] at this
    have q2 := stand_range this.1.1.2 hs
    omega
end Go.Proofs.YtfljignkjmabpaaGreat

namespace Go.Proofs.YtfljignkjmabpaaGreat
set_option maxRecDepth 100000
set_option linter.unusedSimpArgs false
set_option linter.unusedVariables false
open Go.RowKit

theorem wNumsA_cons {size : Int} (hs : sized size = true) (n : Int) (ns : List Int) (s : St) : wNumsA size (n :: ns) s = wNumsA size ns (wNumsA size [n] s) := by
  unfold wNumsA
  rw [if_pos hs, if_pos hs, if_pos hs]
  rfl
theorem wNumsA_fold {size : Int} (hs : sized size = true) : ∀ (ns : List Int) (s : St), wNumsA size ns s = ns.foldl (fun t n => wNumsA size [n] t) s
  | [], s => by unfold wNumsA; rw [if_pos hs]; rfl
  | n :: ns, s => by rw [wNumsA_cons hs, wNumsA_fold hs ns, List.foldl_cons]
theorem wTexts_fold : ∀ (ss : List Str) (s : St), wTexts ss s = ss.foldl (fun t l => wTexts [l] t) s
  | [], _ => rfl
  | l :: ss, s => by
    rw [List.foldl_cons, ← wTexts_fold ss]
    rfl
theorem Cd.list1 {α : Type} {O : α → Prop} {f : α → St → St} {r : St → α × Bool × St} (h : Cd O f r) : Cd (fun l : List α => (fitB 1 (l.length : Int) = true ∧ I64 (l.length : Int)) ∧ ∀ x ∈ l, O x) (fun l => wList 1 f l) (rdList 1 r) := h.list' (size := 1) 1 rfl (by decide) (by decide)
theorem Cd.list2 {α : Type} {O : α → Prop} {f : α → St → St} {r : St → α × Bool × St} (h : Cd O f r) : Cd (fun l : List α => (fitB 2 (l.length : Int) = true ∧ I64 (l.length : Int)) ∧ ∀ x ∈ l, O x) (fun l => wList 2 f l) (rdList 2 r) := h.list' (size := 2) 2 rfl (by decide) (by decide)
def mkSg (p : Int × Int × Int × Str) : Sg := ⟨p.1, p.2.1, p.2.2.2, p.2.2.1⟩
def unSg (x : Sg) : Int × Int × Int × Str := (x.at_, x.size, x.perm, x.bs)
theorem etaSg (p : Int × Int × Int × Str) : unSg (mkSg p) = p := rfl
def rdSg (s : St) : Sg × Bool × St := (mkSg (rdPair (rdNum 4) (rdPair (rdNum 4) (rdPair (rdNum 1) rdBlock)) s).1, (rdPair (rdNum 4) (rdPair (rdNum 4) (rdPair (rdNum 1) rdBlock)) s).2)
def OkSg (x : Sg) : Prop := (0 ≤ x.at_ ∧ x.at_ ≤ 65536) ∧ (0 ≤ x.size ∧ x.size ≤ 65536) ∧ (0 ≤ x.perm ∧ x.perm ≤ 7) ∧ x.bs.length ≤ 65536
theorem fit_1 {n : Int} (h : 0 ≤ n ∧ n ≤ 255) : fitB 1 n = true ∧ I64 n := by
  refine ⟨?_, by unfold I64; omega⟩
  unfold fitB
  rw [if_pos rfl]
  exact decide_eq_true (by omega)
theorem fit_2 {n : Int} (h : 0 ≤ n ∧ n ≤ 65535) : fitB 2 n = true ∧ I64 n := by
  refine ⟨?_, by unfold I64; omega⟩
  unfold fitB
  rw [if_neg (by decide), if_pos rfl]
  exact decide_eq_true (by omega)
theorem fit_4 {n : Int} (h : 0 ≤ n ∧ n ≤ 65536) : fitB 4 n = true ∧ I64 n := by
  refine ⟨?_, by unfold I64; omega⟩
  unfold fitB
  rw [if_neg (by decide), if_neg (by decide), if_pos rfl]
  exact decide_eq_true (by omega)
theorem fit_8 {n : Int} (h : I64 n) : fitB 8 n = true ∧ I64 n := by
  refine ⟨?_, h⟩
  unfold fitB
  rw [if_neg (by decide), if_neg (by decide), if_neg (by decide)]
theorem cdSg : Cd OkSg fSg rdSg :=
  ((cd4.pair (cd4.pair (cd1.pair cdBlock))).map mkSg unSg (fun _ => rfl) (fun _ _ _ => etaSg _)).same (fun x h => ⟨fit_4 h.1, fit_4 h.2.1, fit_1 (n := x.perm) (by have := h.2.2.1; omega), Nat.le_trans h.2.2.2 (by decide)⟩)
    (fun x s => by unfold fSg; rw [wNumsA_cons (by decide)]; rfl) (fun _ => rfl)
def rdTx (s : St) : List Str × Bool × St := rdList 1 rdText s
theorem cdTx : Cd (fun l : List Str => l.length ≤ 255 ∧ ∀ x ∈ l, x.length ≤ 4096) fTx rdTx :=
  (cdText.list1).same (fun l h => ⟨fit_1 (by omega), h.2⟩) (fun l s => by unfold fTx wList; rw [wTexts_fold]) (fun _ => rfl)
def mkNd (p : Str × List Str) : Nd := ⟨p.1, p.2⟩
def unNd (x : Nd) : Str × List Str := (x.name, x.vers)
theorem etaNd (p : Str × List Str) : unNd (mkNd p) = p := rfl
def rdNd (s : St) : Nd × Bool × St := (mkNd (rdPair rdText rdTx s).1, (rdPair rdText rdTx s).2)
def OkNd (x : Nd) : Prop := x.name.length ≤ 4096 ∧ x.vers.length ≤ 255 ∧ ∀ v ∈ x.vers, v.length ≤ 4096
theorem cdNd : Cd OkNd fNd rdNd := ((cdText.pair cdTx).map mkNd unNd (fun _ => rfl) (fun _ _ _ => etaNd _)).same (fun _ h => h) (fun _ _ => rfl) (fun _ => rfl)
def mkSym (p : Str × Str × Int × Int × Bool × Bool × Bool × Int × Int) : Sym := ⟨p.1, p.2.1, p.2.2.2.2.1, p.2.2.1, p.2.2.2.2.2.1, p.2.2.2.1, p.2.2.2.2.2.2.1, p.2.2.2.2.2.2.2.1, p.2.2.2.2.2.2.2.2⟩
def unSym (x : Sym) : Str × Str × Int × Int × Bool × Bool × Bool × Int × Int := (x.name, x.ver, x.kind, x.vis, x.old, x.weak, x.dfd, x.val, x.size)
theorem etaSym (p : Str × Str × Int × Int × Bool × Bool × Bool × Int × Int) : unSym (mkSym p) = p := rfl
abbrev rdSymP : St → (Str × Str × Int × Int × Bool × Bool × Bool × Int × Int) × Bool × St := rdPair rdText (rdPair rdText (rdPair (rdNum 1) (rdPair (rdNum 1) (rdPair rdBit (rdPair rdBit (rdPair rdBit (rdPair (rdNum 8) (rdNum 8))))))))
def rdSym (s : St) : Sym × Bool × St := (mkSym (rdSymP s).1, (rdSymP s).2)
def OkSym (x : Sym) : Prop := x.name.length ≤ 4096 ∧ x.ver.length ≤ 4096 ∧ (0 ≤ x.kind ∧ x.kind ≤ 255) ∧ (0 ≤ x.vis ∧ x.vis ≤ 255) ∧ I64 x.val ∧ I64 x.size
theorem cdSym : Cd OkSym fSym rdSym :=
  ((cdText.pair (cdText.pair (cd1.pair (cd1.pair (cdBit.pair (cdBit.pair (cdBit.pair (cd8.pair cd8)))))))).map mkSym unSym (fun _ => rfl) (fun _ _ _ => etaSym _)).same
    (fun x h => ⟨h.1, h.2.1, fit_1 h.2.2.1, fit_1 h.2.2.2.1, trivial, trivial, trivial, fit_8 h.2.2.2.2.1, fit_8 h.2.2.2.2.2⟩)
    (fun x s => by
      unfold fSym
      rw [wNumsA_cons (size := 8) (by decide), wNumsA_cons (size := 1) (by decide), wNumsA_cons (size := 1) (by decide), wNumsA_cons (size := 1) (by decide), wNumsA_cons (size := 1) (by decide)]
      rfl) (fun _ => rfl)
def rdRow (s : St) : List Int × Bool × St := rdList 2 (rdNum 2) s
theorem cdRow : Cd (fun l : List Int => l.length ≤ 65535 ∧ ∀ i ∈ l, 0 ≤ i ∧ i ≤ 65535) fRow rdRow :=
  (cd2.list2).same (fun l h => ⟨fit_2 (by omega), fun i hi => fit_2 (h.2 i hi)⟩) (fun l s => by unfold fRow wList; rw [wNumsA_fold (by decide)]) (fun _ => rfl)
def rdRuns (s : St) : List Int × Bool × St := rdList 1 (rdNum 4) s
theorem cdRuns : Cd (fun l : List Int => l.length ≤ 255 ∧ ∀ i ∈ l, 0 ≤ i ∧ i ≤ 65536) fRuns rdRuns :=
  (cd4.list1).same (fun l h => ⟨fit_1 (by omega), fun i hi => fit_4 (h.2 i hi)⟩) (fun l s => by unfold fRuns wList; rw [wNumsA_fold (by decide)]) (fun _ => rfl)
/-- The word of a number. -/
def toU (n : Int) : UInt64 := UInt64.ofNat (n % 18446744073709551616).toNat
theorem toU_nat (n : Int) : ((toU n).toNat : Int) = n % 18446744073709551616 := by
  unfold toU
  rw [UInt64.toNat_ofNat']
  omega
theorem toU_back (x : UInt64) : toU (wrap64 (x.toNat : Int)) = x := by
  have h := x.toNat_lt
  apply UInt64.toNat_inj.1
  have q := toU_nat (wrap64 (x.toNat : Int))
  generalize (toU (wrap64 (x.toNat : Int))).toNat = t at *
  unfold wrap64 at q
  omega
theorem toU_form {n : Int} (h : I64 n) : wrap64 ((toU n).toNat : Int) = n := by
  rw [toU_nat]
  unfold I64 at h
  unfold wrap64
  omega
def mkWd (t : Int × St) : UInt64 × Bool × St := (toU t.1, false, t.2)
def rdWd (s : St) : UInt64 × Bool × St := mkWd (rNum 8 s)
theorem cdWd : Cd (fun _ : UInt64 => True) fWd rdWd :=
  (cd8.map toU (fun x => wrap64 (x.toNat : Int)) toU_back (fun s _ _ => toU_form (rNum_i64 8 s))).same (fun x _ => fit_8 (wrap_i64' _)) (fun _ _ => rfl) (fun _ => rfl)
def mkRl (p : Int × Int × Int × Int) : Rl := ⟨p.2.1, p.1, p.2.2.1, p.2.2.2⟩
def unRl (x : Rl) : Int × Int × Int × Int := (x.kind, x.at_, x.sym, x.add)
theorem etaRl (p : Int × Int × Int × Int) : unRl (mkRl p) = p := rfl
abbrev rdRlP : St → (Int × Int × Int × Int) × Bool × St := rdPair (rdNum 1) (rdPair (rdNum 8) (rdPair (rdNum 8) (rdNum 8)))
def rdRl (s : St) : Rl × Bool × St := (mkRl (rdRlP s).1, (rdRlP s).2)
def OkRl (x : Rl) : Prop := (0 ≤ x.kind ∧ x.kind ≤ 255) ∧ I64 x.at_ ∧ I64 x.sym ∧ I64 x.add
theorem cdRl : Cd OkRl fRl rdRl :=
  ((cd1.pair (cd8.pair (cd8.pair cd8))).map mkRl unRl (fun _ => rfl) (fun _ _ _ => etaRl _)).same (fun x h => ⟨fit_1 h.1, fit_8 h.2.1, fit_8 h.2.2.1, fit_8 h.2.2.2⟩)
    (fun x s => by unfold fRl; rw [wNumsA_cons (size := 8) (by decide), wNumsA_cons (size := 8) (by decide)]; rfl) (fun _ => rfl)
def mkSl (p : Int × Int × Int) : Sl := ⟨p.1, p.2.1, p.2.2⟩
def unSl (x : Sl) : Int × Int × Int := (x.at_, x.sym, x.stub)
theorem etaSl (p : Int × Int × Int) : unSl (mkSl p) = p := rfl
abbrev rdSlP : St → (Int × Int × Int) × Bool × St := rdPair (rdNum 4) (rdPair (rdNum 4) (rdNum 4))
def rdSl (s : St) : Sl × Bool × St := (mkSl (rdSlP s).1, (rdSlP s).2)
def OkSl (x : Sl) : Prop := (0 ≤ x.at_ ∧ x.at_ ≤ 65536) ∧ (0 ≤ x.sym ∧ x.sym ≤ 65536) ∧ (0 ≤ x.stub ∧ x.stub ≤ 65536)
theorem cdSl : Cd OkSl fSl rdSl :=
  ((cd4.pair (cd4.pair cd4)).map mkSl unSl (fun _ => rfl) (fun _ _ _ => etaSl _)).same (fun x h => ⟨fit_4 h.1, fit_4 h.2.1, fit_4 h.2.2⟩)
    (fun x s => by unfold fSl; rw [wNumsA_cons (by decide), wNumsA_cons (by decide)]; rfl) (fun _ => rfl)
/-- The text that stands ahead. -/
def mkMark (t : Str × St) : Unit × Bool × St := ((), !decide (t.1 = mark), t.2)
theorem mkMark_st (t : Str × St) : (mkMark t).2.2 = t.2 := rfl
theorem mkMark_bad (t : Str × St) : (mkMark t).2.1 = !decide (t.1 = mark) := rfl
def rdMark (s : St) : Unit × Bool × St := mkMark (rMeas 2 4096 s)
theorem rdMark_eq (s : St) : rdMark s = mkMark (rMeas 2 4096 s) := rfl
theorem cdMark : Cd (fun _ : Unit => True) (fun _ => wTexts [mark]) rdMark := by
  refine ⟨fun s h => ?_, fun _ _ => ?_, fun s h0 hb => ?_⟩
  · rw [rdMark_eq, mkMark_st]
    exact rMeas_stick 2 4096 s h
  · obtain ⟨d, a, c⟩ := cdText.back mark (by decide)
    refine ⟨d, a, fun rest => ?_⟩
    have e : rMeas 2 4096 (0, d ++ rest) = (mark, (0, rest)) := by
      have e := c rest
      unfold rdText at e
      simp only [Prod.mk.injEq, true_and] at e
      exact Prod.ext e.1 e.2
    rw [rdMark_eq, e]
    rfl
  · rw [rdMark_eq, mkMark_st] at h0
    rw [rdMark_eq, mkMark_bad] at hb
    simp only [Bool.not_eq_false', decide_eq_true_eq] at hb
    obtain ⟨d, h1, h2, _⟩ := meas_form 2 4096 s [] (by decide) (by decide) h0
    rw [rdMark_eq, mkMark_st]
    refine ⟨d, h1, fun bs => ?_⟩
    obtain ⟨d', h3, h4, _⟩ := meas_form 2 4096 s bs (by decide) (by decide) h0
    have e : d' = d := List.append_cancel_right (h3.symm.trans h1)
    rw [← e]
    rw [hb] at h4
    exact h4
abbrev ImT := Unit × Str × Int × List Sg × List Nd × List Str × List Sym × List (List Int) × Int × List UInt64 × List Rl × List Sl × List Int × List Int × Int × Str
def mkIm (p : ImT) : Im :=
  let ⟨_, name, flags, segs, needed, run, syms, rows, shift, words, relocs, slots, init, fini, tlsSize, tls⟩ := p
  ⟨name, flags, segs, needed, run, syms, rows, words, shift, relocs, slots, init, fini, tls, tlsSize⟩
def unIm (x : Im) : ImT := ((), x.name, x.flags, x.segs, x.needed, x.run, x.syms, x.rows, x.shift, x.words, x.relocs, x.slots, x.init, x.fini, x.tlsSize, x.tls)
theorem etaIm (p : ImT) : unIm (mkIm p) = p := rfl
abbrev rdImP : St → ImT × Bool × St := rdPair rdMark (rdPair rdText (rdPair (rdNum 1) (rdPair (rdList 1 rdSg) (rdPair (rdList 1 rdNd) (rdPair rdTx (rdPair (rdList 2 rdSym) (rdPair (rdList 2 rdRow) (rdPair (rdNum 1) (rdPair (rdList 1 rdWd) (rdPair (rdList 2 rdRl) (rdPair (rdList 2 rdSl) (rdPair rdRuns (rdPair rdRuns (rdPair (rdNum 2) rdBlock))))))))))))))
def rdIm (s : St) : Im × Bool × St := (mkIm (rdImP s).1, (rdImP s).2)
theorem cdIm : Cd (fun x => Rg x ∧ Int64 x) im13 rdIm :=
  ((cdMark.pair (cdText.pair (cd1.pair ((cdSg.list1).pair ((cdNd.list1).pair (cdTx.pair ((cdSym.list2).pair ((cdRow.list2).pair (cd1.pair
    ((cdWd.list1).pair ((cdRl.list2).pair ((cdSl.list2).pair (cdRuns.pair (cdRuns.pair (cd2.pair cdBlock))))))))))))))).map mkIm unIm (fun _ => rfl) (fun _ _ _ => etaIm _)).same
    (fun x ⟨h, i⟩ => ⟨trivial, by have := h.name; show x.name.length ≤ 4096; omega, fit_1 (n := x.flags) (by have := h.flags; omega), ⟨fit_1 (n := (x.segs.length : Int)) (by have := h.segs; omega), h.seg⟩,
      ⟨fit_1 (n := (x.needed.length : Int)) (by have := h.needed; omega), fun s hs => ⟨by have := (h.need s hs).1; omega, by have := (h.need s hs).2.1; omega, fun v hv => by have := (h.need s hs).2.2 v hv; omega⟩⟩, ⟨by have := h.run; show x.run.length ≤ 255; omega, fun s hs => by have := h.runs s hs; omega⟩,
      ⟨fit_2 (n := (x.syms.length : Int)) (by have := h.syms; omega), fun s hs => by have q := h.sym s hs; have z := i.sym s hs; exact ⟨by omega, by omega, by omega, by omega, z.2.2.1, z.2.2.2⟩⟩,
      ⟨fit_2 (n := (x.rows.length : Int)) (by have := h.rows; omega), fun r hr => ⟨by have := (h.row r hr).1; omega, fun k hk => by have := (h.row r hr).2 k hk; omega⟩⟩, fit_1 (n := x.shift) (by have := h.shift; omega), ⟨fit_1 (n := (x.words.length : Int)) (by have := h.words; omega), fun _ _ => trivial⟩,
      ⟨fit_2 (n := (x.relocs.length : Int)) (by have := h.relocs; omega), fun r hr => ⟨by have := h.reloc r hr; omega, (i.reloc r hr).1, (i.reloc r hr).2.2.1, (i.reloc r hr).2.2.2⟩⟩, ⟨fit_2 (n := (x.slots.length : Int)) (by have := h.slots; omega), fun s hs => by have q := h.slot s hs; exact ⟨by omega, by omega, by omega⟩⟩,
      ⟨by have := h.init; show x.init.length ≤ 255; omega, h.inits⟩, ⟨by have := h.fini; show x.fini.length ≤ 255; omega, h.finis⟩, fit_2 (n := x.tlsSize) (by have := h.tlsSize; omega), by have := h.tls; show x.tls.length ≤ 1048576; omega⟩)
    (fun x s => rfl) (fun _ => rfl)
end Go.Proofs.YtfljignkjmabpaaGreat

namespace Go.Proofs.YtfljignkjmabpaaGreat
set_option maxRecDepth 100000
set_option linter.unusedSimpArgs false
set_option linter.unusedVariables false
open Go.RowKit

theorem ok_mod {x : Im} (h : Rg x) : Mod x := by
  have room_le : ∀ (n m : Nat) (l : List Str), l.length ≤ n → (∀ v ∈ l, v.length ≤ m) → room l ≤ (m + 8) * l.length := by
    intro n m l
    induction l generalizing n with
    | nil => intro _ _; simp [room]
    | cons a l ih =>
      intro hl hv
      have h1 := ih l.length (Nat.le_refl _) (fun v hv' => hv v (by simp [hv']))
      have h2 := hv a (by simp)
      have e : room (a :: l) = a.length + 8 + room l := by simp [room]
      rw [e, List.length_cons, Nat.mul_succ]
      omega
  refine ⟨h.name, ⟨h.segs, fun s hs => (h.seg s hs).2.2.2⟩, ⟨h.needed, fun s hs => ?_⟩, ⟨h.run, ?_⟩, ⟨h.syms, fun s hs => ?_⟩, ⟨h.rows, fun r hr => (h.row r hr).1⟩, h.words, h.relocs, h.slots, h.init, h.fini, h.tls⟩
  · have q := h.need s hs
    have := room_le 16 64 s.vers q.2.1 q.2.2
    unfold cNd cTx
    omega
  · have := room_le 16 200 x.run h.run h.runs
    have := h.run
    unfold cTx
    omega
  · have q := h.sym s hs
    unfold cSym
    omega
/-- The bytes of an image. -/
def formL (x : Im) : Str := (im13 x (0, [])).2
theorem form_ok {x : Im} (h : mayE x = 0) (hf : Fit x) : im13 x (0, []) = (0, formL x) ∧ (∀ rest, rdIm (0, formL x ++ rest) = (x, false, (0, rest))) ∧ (formL x).length ≤ 4000000 := by
  have hr := ok_rg (may_ok h)
  obtain ⟨d, a, b⟩ := cdIm.back x ⟨hr, hf.int⟩
  have a0 := a []
  rw [List.nil_append] at a0
  have e : formL x = d := by unfold formL; rw [a0]
  refine ⟨by rw [e]; exact a0, by rw [e]; exact b, ?_⟩
  have := im13_len (ok_mod hr) (0, [])
  unfold formL
  simp only [List.length_nil] at this
  omega
/-- New bytes, and no error. -/
def Encoded (w : World) (l : Str) (e : Ending) (w' : World) : Prop :=
  ∃ A c, e = .returned (.tuple #[.slice A l.length c, .int .i64 0]) ∧ w'.ownsRow w.heap.size 5 1 (.slice A l.length c) l.length (cells l) ∧ Below w.heap.size w w'
set_option maxHeartbeats 1000000 in
theorem encode_no (p : Pl) (x : Im) (w : World) (h : ImIn w (fun k => k < w.heap.size) p x) (hf : Fit x) (hm : mayE x ≠ 0) :
    Calls Tryz.prog 12 #[imV p x] w fun e w' => e = .returned (.tuple #[.slice none 0 0, .int .i64 (mayE x)]) ∧ Below w.heap.size w w' := by
  have HB := Lib.hid (ibox_below w p x)
  have HX := Lib.hid (Ix.new w p x)
  have HM := Lib.hid (may_im_any p x (w.alloc (.cells (imA p x) 40)) (h.lt (ibox_below w p x)) hf)
  generalize mayE x = m at *
  have hb : (m == 0) = false := by simpa using hm
  have hb2 : (m != 0) = true := by simpa using hm
  clear h hf
  go_enter Tryz.func12, Tryz.ntmps12
  go_upto_region 1 with (fail)
  change Code.wp _ _ _ _ (w.alloc (.cells (imA p x) 40))
  generalize w.alloc (.cells (imA p x) 40) = w1 at *
  obtain ⟨c0, c1, c2, c3, c4, c5, c6, c7, c8, c9, c10, c11, c12, c13, c14⟩ := HX.out.cells
  go_wp2_with (go_at_call 15; (with_reducible refine (HM.out).mono ?_); rintro e w2 ⟨rfl, hb2⟩; have HB2 := Lib.hid hb2; clear hb2)
  go_ret2
  exact ⟨rfl, HB.out.trans (HB2.out.mono HB.out.size)⟩
set_option maxHeartbeats 1000000 in
theorem encode_yes (p : Pl) (x : Im) (w : World) (h : ImIn w (fun k => k < w.heap.size) p x) (hf : Fit x) (hm : mayE x = 0) :
    Calls Tryz.prog 12 #[imV p x] w (Encoded w (formL x)) := by
  have HB := Lib.hid (ibox_below w p x)
  have HX := Lib.hid (Ix.new w p x)
  have HM := may_im_any p x (w.alloc (.cells (imA p x) 40)) (h.lt (ibox_below w p x)) hf
  rw [hm] at HM
  have HM := Lib.hid HM
  have HI := Lib.hid h
  have HR := Lib.hid (ok_rg (may_ok hm))
  have HF := Lib.hid hf.int
  have HO := Lib.hid (form_ok hm hf)
  clear h hf hm
  go_enter Tryz.func12, Tryz.ntmps12
  go_upto_region 1 with (fail)
  change Code.wp _ _ _ _ (w.alloc (.cells (imA p x) 40))
  generalize hw1 : w.alloc (.cells (imA p x) 40) = w1 at *
  obtain ⟨c0, c1, c2, c3, c4, c5, c6, c7, c8, c9, c10, c11, c12, c13, c14⟩ := HX.out.cells
  clear hw1
  go_upto_region 4 with (go_at_call 15; (with_reducible refine (HM.out).mono ?_); rintro e w2 ⟨rfl, hb2⟩; have HB2 := Lib.hid hb2; clear hb2)
  clear c0 c1 c2 c3 c4 c5 c6 c7 c8 c9 c10 c11 c12 c13 c14 HM
  have HXX := Lib.hid (HX.out.below HB2.out)
  have HBB := Lib.hid (HB.out.trans (HB2.out.mono HB.out.size))
  clear HX HB HB2
  go_upto_region 5 with (go_at_call 22; (with_reducible refine (wnew_any _).mono ?_); rintro e w3 ⟨rfl, hw3, hb3, hz3⟩; have HW3 := Lib.hid hw3; have HB3 := Lib.hid hb3; have HZ3 := Lib.hid hz3; clear hw3 hb3 hz3)
  have hbx : Below w3.heap.size w3 (w3.alloc (.cells #[.pointer (some ⟨w2.heap.size, 0, none⟩)] 76)) := (Below.refl _ _).alloc (Nat.le_refl _) _
  have HWI := Lib.hid (show Wi (w3.alloc (.cells #[.pointer (some ⟨w2.heap.size, 0, none⟩)] 76)) (fun k => k < w2.heap.size ∨ k = w3.heap.size) w3.heap.size w2.heap.size (0, []) from by
    refine ⟨⟨_, none, 0, HW3.out.below hbx, ?_⟩, Bx.new _ _ _, .inr rfl, ?_⟩
    · rintro k (hk | rfl)
      · exact ⟨by omega, by simp [row]⟩
      · have := HZ3.out
        exact ⟨by omega, by simp [row]⟩
    · have := HZ3.out
      rintro k (hk | rfl)
      · simp; omega
      · simp)
  have HBX := Lib.hid ((HBB.out.trans (HB3.out.mono HBB.out.size)).trans (hbx.mono (Nat.le_trans HBB.out.size HB3.out.size)))
  have HX4 := Lib.hid ((HXX.out.below HB3.out).below hbx)
  have hs2 : w.heap.size ≤ w2.heap.size := HBB.out.size
  have HS2 := Lib.hid hs2
  clear hbx hs2 HXX HW3 HB3
  change Code.wp _ _ _ _ (w3.alloc (.cells #[.pointer (some ⟨w2.heap.size, 0, none⟩)] 76))
  generalize w3.alloc (.cells #[.pointer (some ⟨w2.heap.size, 0, none⟩)] 76) = w4 at *
  generalize w3.heap.size = G at *
  generalize hg : w2.heap.size = g at *
  obtain ⟨c0, c1, c2, c3, c4, c5, c6, c7, c8, c9, c10, c11, c12, c13, c14⟩ := HX4.out.cells
  have HIM := Lib.hid (wimage_any p x w4 HWI.out ((HI.out.keep fun k hk _ => HBX.out.block k hk).weak fun k hk => .inl (Nat.lt_of_lt_of_le hk HS2.out)) (ok_mod HR.out) HF.out (by simp))
  rw [HO.out.1] at HIM
  go_upto_region 6 with (go_at_call 23; (with_reducible refine (HIM.out).mono ?_); rintro e w5 ⟨rfl, hw5, hk5⟩; have HW5 := Lib.hid hw5; have HK5 := Lib.hid hk5; clear hw5 hk5)
  clear HIM c0 c1 c2 c3 c4 c5 c6 c7 c8 c9 c10 c11 c12 c13 c14
  have hc := HW5.out.c0
  have HB5 := Lib.hid (HBX.out.trans (HK5.out.to_below fun k hk => .inl (Nat.lt_of_lt_of_le hk HS2.out)))
  obtain ⟨B, A, c, hwr, -⟩ := HW5.out.wr
  have HBY := Lib.hid (bytes_ok B g A c (formL x) w5 hwr (by have := HO.out.2.2; omega))
  clear hwr
  go_wp2_with (go_at_call 24; (with_reducible refine (HBY.out).mono ?_); rintro e w6 ⟨A6, c6, rfl, hown, hb6⟩; have HOW := Lib.hid hown; have HB6 := Lib.hid hb6; clear hown hb6)
  go_ret2
  exact ⟨A6, c6, rfl, own_more HOW.out HB5.out.size, HB5.out.trans (HB6.out.mono HB5.out.size)⟩
end Go.Proofs.YtfljignkjmabpaaGreat
