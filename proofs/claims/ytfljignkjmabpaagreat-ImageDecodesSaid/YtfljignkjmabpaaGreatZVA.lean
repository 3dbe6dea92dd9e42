/- A part of the proof. -/
import Derived.Test.YtfljignkjmabpaaGreatZT
import Derived.Test.YtfljignkjmabpaaGreatZGA
import Derived.Test.YtfljignkjmabpaaGreatZP
import Derived.Test.YtfljignkjmabpaaGreatZO
import Derived.Test.YtfljignkjmabpaaGreatZQ
set_option linter.unusedSimpArgs false
set_option linter.unusedVariables false
namespace Go.Proofs.YtfljignkjmabpaaGreat
set_option maxRecDepth 100000
open Go.RowKit
theorem runs_if (x : Im) : (if runsB x x.init = false then (97 : Int) else if runsB x x.fini = false then 97 else 0) = (if (runsB x x.init && runsB x x.fini) = false then 97 else 0) := by
 cases runsB x x.init <;> cases runsB x x.fini <;> rfl
theorem head_flags {x : Im} (h : headB x = true) : 0 ≤ x.flags ∧ x.flags ≤ 15 := by
 unfold headB withB at h
 simp only [Bool.and_eq_true, decide_eq_true_eq] at h
 omega
theorem tls_cases {x : Im} (h : tlsB x = false) : x.tlsSize < 0 ∨ (0 ≤ x.tlsSize ∧ 4096 < x.tlsSize) ∨ (0 ≤ x.tlsSize ∧ x.tlsSize ≤ 4096 ∧ x.tlsSize < (x.tls.length : Int)) := by
 unfold tlsB withB at h
 simp only [Bool.and_eq_false_iff, decide_eq_false_iff_not] at h
 omega
theorem tls_yes {x : Im} (h : tlsB x = true) : (x.tls.length : Int) ≤ x.tlsSize := by
 unfold tlsB at h
 simp only [Bool.and_eq_true, decide_eq_true_eq] at h
 exact h.2
set_option maxHeartbeats 8000000 in
theorem dmay_any (p : Pl) (x : Im) (w : World) (h : ImIn w (fun k => k < w.heap.size) p x) (hf : Fit x) :
  Calls Tryz.prog 20 #[imV p x] w fun e w' => e = .returned (.int .i64 (mayE x)) ∧ Below w.heap.size w w' := by
 have hS0 : MS w p x (w.alloc (.cells (imA p x) 40)) := ⟨ibox_below w p x, Ix.new w p x⟩
 have HS0 := hD hS0
 have HH := hD (fun (X : World) (hX : Below w.heap.size w X) => dhead_any p x X (h.lt hX) hf)
 have HG := hD (fun (X : World) (hX : Below w.heap.size w X) => dsegs_any p x X (h.lt hX) hf)
 have HY := hD (fun (hs : segsB x.segs = true) (ht : tlsB x = true) (X : World) (hX : Below w.heap.size w X) => dsyms_any p x X (h.lt hX) hf (segs_ok hs) (tls_range ht))
 have HR := hD (fun (X : World) (hX : Below w.heap.size w X) => qright_any p.bk.1 x.rows.length p.bk.2 p.fw.1 p.fw.2 (rowF x.rows) x.words x.shift p.sy.1 p.sy.2 x.syms X (h.lt hX).tab (h.lt hX).syms (fun s hs => (hf.sym s hs).1) (by have := hf.rows; unfold Long at this; omega) (by have := hf.words; unfold Long at this; omega) (by have := hf.syms; unfold Long at this; omega) (fun k hk => by have := row_len hf k hk; omega))
 have HL := hD (fun (hh : headB x = true) (hs : segsB x.segs = true) (X : World) (hX : Below w.heap.size w X) => drelocs_any p x X (h.lt hX) hf (segs_ok hs) (head_flags hh).1 (head_flags hh).2)
 have HO := hD (fun (hs : segsB x.segs = true) (hr : relocsB x = true) (X : World) (hX : Below w.heap.size w X) => dslots_any p x X (h.lt hX) hf (segs_ok hs) (relocs_all hr))
 have HI := hD (fun (hs : segsB x.segs = true) (X : World) (hX : Below w.heap.size w X) => druns_any p x X (h.lt hX) hf (segs_ok hs))
 have htl := hf.tls
 have hti := hf.tlsSize
 unfold Long at htl
 unfold I64 at hti
 generalize hbb : mayE x = bb
 have HF := hD (hbb.symm.trans (show mayE x = (if headB x = false then 90 else if segsB x.segs = false then 91 else if tlsB x = false then 96 else if symsB x = false then 92 else if tabB x = false then 93 else if relocsB x = false then 94 else if slotsB x = false then 95 else if (runsB x x.init && runsB x x.fini) = false then 97 else 0) by unfold mayE; rw [runs_if]))
 clear h hf hbb
 go_enter Tryz.func20, Tryz.ntmps20
 go_upto_region 1 with (fail)
 change Code.wp _ _ _ _ (w.alloc (.cells (imA p x) 40))
 generalize w.alloc (.cells (imA p x) 40) = w0 at *
 obtain ⟨c0, c1, c2, c3, c4, c5, c6, c7, c8, c9, c10, c11, c12, c13, c14⟩ := HS0.out.2.cells
 have H0 := hD (HH.out)
 cases hp0 : headB x
 ·
  have HV := hD (show bb = 90 by rw [HF.out, if_pos hp0])
  rw [hp0] at H0
  go_wp2_with (go_at_call 63; (with_reducible refine (H0.out _ HS0.out.b).mono ?_); rintro e w1 ⟨rfl, hb1⟩; have HS1 := hD (HS0.out.on hb1); clear hb1)
  first | go_ret | skip
  exact ⟨by rw [HV.out]; rfl, HS1.out.1⟩
 rw [hp0] at H0
 go_upto_region 3 with (go_at_call 63; (with_reducible refine (H0.out _ HS0.out.b).mono ?_); rintro e w1 ⟨rfl, hb1⟩; have HS1 := hD (HS0.out.on hb1); clear hb1)
 clear H0 HS0 c0 c1 c2 c3 c4 c5 c6 c7 c8 c9 c10 c11 c12 c13 c14
 obtain ⟨c0, c1, c2, c3, c4, c5, c6, c7, c8, c9, c10, c11, c12, c13, c14⟩ := HS1.out.2.cells
 have H1 := hD (HG.out)
 cases hp1 : segsB x.segs
 ·
  have HV := hD (show bb = 91 by rw [HF.out, if_neg (by rw [hp0]; simp), if_pos hp1])
  rw [hp1] at H1
  go_wp2_with (go_at_call 64; (with_reducible refine (H1.out _ HS1.out.b).mono ?_); rintro e w2 ⟨rfl, hb2⟩; have HS2 := hD (HS1.out.on hb2); clear hb2)
  first | go_ret | skip
  exact ⟨by rw [HV.out]; rfl, HS2.out.1⟩
 rw [hp1] at H1
 go_upto_region 5 with (go_at_call 64; (with_reducible refine (H1.out _ HS1.out.b).mono ?_); rintro e w2 ⟨rfl, hb2⟩; have HS2 := hD (HS1.out.on hb2); clear hb2)
 clear H1 HS1 c0 c1 c2 c3 c4 c5 c6 c7 c8 c9 c10 c11 c12 c13 c14
 obtain ⟨c0, c1, c2, c3, c4, c5, c6, c7, c8, c9, c10, c11, c12, c13, c14⟩ := HS2.out.2.cells
 cases hp2 : tlsB x
 ·
  have HV := hD (show bb = 96 by rw [HF.out, if_neg (by rw [hp0]; simp), if_neg (by rw [hp1]; simp), if_pos hp2])
  rcases tls_cases hp2 with q | ⟨q0, q1⟩ | ⟨q0, q1, q2⟩
  all_goals
   go_wp2_with fail
   first | go_ret | skip
   exact ⟨by rw [HV.out]; rfl, HS2.out.1⟩
 have ht := tls_range hp2
 have ht2 := tls_yes hp2
 have ht0 := ht.1
 have ht1 := ht.2
 clear ht
 go_upto_region 7 with (fail)
 have HS3 := hD HS2.out
 clear HS2 c0 c1 c2 c3 c4 c5 c6 c7 c8 c9 c10 c11 c12 c13 c14 ht0 ht1 ht2
 obtain ⟨c0, c1, c2, c3, c4, c5, c6, c7, c8, c9, c10, c11, c12, c13, c14⟩ := HS3.out.2.cells
 have H3 := hD (HY.out hp1 hp2)
 cases hp3 : symsB x
 ·
  have HV := hD (show bb = 92 by rw [HF.out, if_neg (by rw [hp0]; simp), if_neg (by rw [hp1]; simp), if_neg (by rw [hp2]; simp), if_pos hp3])
  rw [hp3] at H3
  go_wp2_with (go_at_call 65; (with_reducible refine (H3.out _ HS3.out.b).mono ?_); rintro e w4 ⟨rfl, hb4⟩; have HS4 := hD (HS3.out.on hb4); clear hb4)
  first | go_ret | skip
  exact ⟨by rw [HV.out]; rfl, HS4.out.1⟩
 rw [hp3] at H3
 go_upto_region 9 with (go_at_call 65; (with_reducible refine (H3.out _ HS3.out.b).mono ?_); rintro e w4 ⟨rfl, hb4⟩; have HS4 := hD (HS3.out.on hb4); clear hb4)
 clear H3 HS3 c0 c1 c2 c3 c4 c5 c6 c7 c8 c9 c10 c11 c12 c13 c14
 obtain ⟨c0, c1, c2, c3, c4, c5, c6, c7, c8, c9, c10, c11, c12, c13, c14⟩ := HS4.out.2.cells
 have H4 := hD (HR.out)
 rw [show rightT x.rows.length (rowF x.rows) x.words x.shift x.syms = tabB x from rfl] at H4
 cases hp4 : tabB x
 ·
  have HV := hD (show bb = 93 by rw [HF.out, if_neg (by rw [hp0]; simp), if_neg (by rw [hp1]; simp), if_neg (by rw [hp2]; simp), if_neg (by rw [hp3]; simp), if_pos hp4])
  rw [hp4] at H4
  go_wp2_with (go_at_call 66; (with_reducible refine (H4.out _ HS4.out.b).mono ?_); rintro e w5 ⟨rfl, hb5⟩; have HS5 := hD (HS4.out.on hb5); clear hb5)
  first | go_ret | skip
  exact ⟨by rw [HV.out]; rfl, HS5.out.1⟩
 rw [hp4] at H4
 go_upto_region 11 with (go_at_call 66; (with_reducible refine (H4.out _ HS4.out.b).mono ?_); rintro e w5 ⟨rfl, hb5⟩; have HS5 := hD (HS4.out.on hb5); clear hb5)
 clear H4 HS4 c0 c1 c2 c3 c4 c5 c6 c7 c8 c9 c10 c11 c12 c13 c14
 obtain ⟨c0, c1, c2, c3, c4, c5, c6, c7, c8, c9, c10, c11, c12, c13, c14⟩ := HS5.out.2.cells
 have H5 := hD (HL.out hp0 hp1)
 cases hp5 : relocsB x
 ·
  have HV := hD (show bb = 94 by rw [HF.out, if_neg (by rw [hp0]; simp), if_neg (by rw [hp1]; simp), if_neg (by rw [hp2]; simp), if_neg (by rw [hp3]; simp), if_neg (by rw [hp4]; simp), if_pos hp5])
  rw [hp5] at H5
  go_wp2_with (go_at_call 67; (with_reducible refine (H5.out _ HS5.out.b).mono ?_); rintro e w6 ⟨rfl, hb6⟩; have HS6 := hD (HS5.out.on hb6); clear hb6)
  first | go_ret | skip
  exact ⟨by rw [HV.out]; rfl, HS6.out.1⟩
 rw [hp5] at H5
 go_upto_region 13 with (go_at_call 67; (with_reducible refine (H5.out _ HS5.out.b).mono ?_); rintro e w6 ⟨rfl, hb6⟩; have HS6 := hD (HS5.out.on hb6); clear hb6)
 clear H5 HS5 c0 c1 c2 c3 c4 c5 c6 c7 c8 c9 c10 c11 c12 c13 c14
 obtain ⟨c0, c1, c2, c3, c4, c5, c6, c7, c8, c9, c10, c11, c12, c13, c14⟩ := HS6.out.2.cells
 have H6 := hD (HO.out hp1 hp5)
 cases hp6 : slotsB x
 ·
  have HV := hD (show bb = 95 by rw [HF.out, if_neg (by rw [hp0]; simp), if_neg (by rw [hp1]; simp), if_neg (by rw [hp2]; simp), if_neg (by rw [hp3]; simp), if_neg (by rw [hp4]; simp), if_neg (by rw [hp5]; simp), if_pos hp6])
  rw [hp6] at H6
  go_wp2_with (go_at_call 68; (with_reducible refine (H6.out _ HS6.out.b).mono ?_); rintro e w7 ⟨rfl, hb7⟩; have HS7 := hD (HS6.out.on hb7); clear hb7)
  first | go_ret | skip
  exact ⟨by rw [HV.out]; rfl, HS7.out.1⟩
 rw [hp6] at H6
 go_upto_region 15 with (go_at_call 68; (with_reducible refine (H6.out _ HS6.out.b).mono ?_); rintro e w7 ⟨rfl, hb7⟩; have HS7 := hD (HS6.out.on hb7); clear hb7)
 clear H6 HS6 c0 c1 c2 c3 c4 c5 c6 c7 c8 c9 c10 c11 c12 c13 c14
 obtain ⟨c0, c1, c2, c3, c4, c5, c6, c7, c8, c9, c10, c11, c12, c13, c14⟩ := HS7.out.2.cells
 have H7 := hD (HI.out hp1)
 cases hp7 : (runsB x x.init && runsB x x.fini)
 ·
  have HV := hD (show bb = 97 by rw [HF.out, if_neg (by rw [hp0]; simp), if_neg (by rw [hp1]; simp), if_neg (by rw [hp2]; simp), if_neg (by rw [hp3]; simp), if_neg (by rw [hp4]; simp), if_neg (by rw [hp5]; simp), if_neg (by rw [hp6]; simp), if_pos hp7])
  rw [hp7] at H7
  go_wp2_with (go_at_call 69; (with_reducible refine (H7.out _ HS7.out.b).mono ?_); rintro e w8 ⟨rfl, hb8⟩; have HS8 := hD (HS7.out.on hb8); clear hb8)
  first | go_ret | skip
  exact ⟨by rw [HV.out]; rfl, HS8.out.1⟩
 rw [hp7] at H7
 have HV := hD (show bb = 0 by rw [HF.out, if_neg (by rw [hp0]; simp), if_neg (by rw [hp1]; simp), if_neg (by rw [hp2]; simp), if_neg (by rw [hp3]; simp), if_neg (by rw [hp4]; simp), if_neg (by rw [hp5]; simp), if_neg (by rw [hp6]; simp), if_neg (by rw [hp7]; simp)])
 go_wp2_with (go_at_call 69; (with_reducible refine (H7.out _ HS7.out.b).mono ?_); rintro e w8 ⟨rfl, hb8⟩; have HS8 := hD (HS7.out.on hb8); clear hb8)
 first | go_ret | skip
 exact ⟨by rw [HV.out]; rfl, HS8.out.1⟩
end Go.Proofs.YtfljignkjmabpaaGreat
