/- A part of the proof. -/
import Derived.Test.YtfljignkjmabpaaGreatZSC
set_option linter.unusedSimpArgs false
set_option linter.unusedVariables false
namespace Go.Proofs.YtfljignkjmabpaaGreat
set_option maxRecDepth 100000
open Go.RowKit
def seqTail : Nat → Code → Code
 | 0, c => c
 | n + 1, .seq _ b => seqTail n b
 | _, c => c
def Dread (w : World) (r : Im × Bool × St) (en : Ending) (w' : World) : Prop :=
 ∃ (cs : Array Value) (ok : Bool), cs.size = 15 ∧ cs.all (·.oneCell') = true ∧ en = .returned (.tuple #[.agg cs, .bool ok]) ∧ Below w.heap.size w w' ∧ ok = decide (r.2.1 = false ∧ rEnd r.2.2 = 0) ∧ (ok = true → ∃ p, cs = imA p r.1 ∧ ImIn w' (fun k => w.heap.size ≤ k ∧ k < w'.heap.size) p r.1)
theorem Dread.of {w w' : World} {r : Im × Bool × St} {x : Im} {bad : Bool} {t : St} {cs : Array Value} {ok : Bool} (h0 : cs.size = 15) (h1 : cs.all (·.oneCell') = true) (hr : r = (x, bad, t)) (hb : Below w.heap.size w w') (hok : ok = decide (bad = false ∧ rEnd t = 0)) (him : ok = true → ∃ p, cs = imA p x ∧ ImIn w' (fun k => w.heap.size ≤ k ∧ k < w'.heap.size) p x) :
  Dread w r (.returned (.tuple #[.agg cs, .bool ok])) w' := by
 subst hr
 exact ⟨cs, ok, h0, h1, rfl, hb, hok, him⟩
section
variable {nm tl : Str} {fl sh ts : Int} {y3 : List Sg} {y4 : List Nd} {y5 : List Str} {y6 : List Sym} {y7 : List (List Int)} {y9 : List UInt64} {ya : List Rl} {yb : List Sl} {yc yd : List Int} {x : Unit} {A3 A4 A5 A6 A7 A9 A10 A11 A12 A13 A15 : Option Addr} {c3 c4 c5 c6 c7 c9 c10 c11 c12 c13 c15 : Nat}
theorem cs_im : #[str nm, .int .i64 fl, .slice A3 y3.length c3, .slice A4 y4.length c4, .slice A5 y5.length c5, .slice A6 y6.length c6, .slice A7 y7.length c7, .slice A9 y9.length c9, .int .i64 sh, .slice A10 ya.length c10, .slice A11 yb.length c11, .slice A12 yc.length c12, .slice A13 yd.length c13, .slice A15 tl.length c15, .int .i64 ts] =
  imA ⟨(A3, c3), (A4, c4), (A5, c5), (A6, c6), (A7, c7), (A9, c9), (A10, c10), (A11, c11), (A12, c12), (A13, c13), (A15, c15)⟩ (mkIm (x, nm, fl, y3, y4, y5, y6, y7, sh, y9, ya, yb, yc, yd, ts, tl)) := rfl
theorem mk_in {w : World} {P : Nat → Prop} {p : Pl} (h : ImIn w P p ⟨nm, fl, y3, y4, y5, y6, y7, y9, sh, ya, yb, yc, yd, tl, ts⟩) : ImIn w P p (mkIm (x, nm, fl, y3, y4, y5, y6, y7, sh, y9, ya, yb, yc, yd, ts, tl)) := h
end
theorem dread_start (P : Nat → Prop) (A : Option Addr) (n c : Nat) (l : Str) (w : World) (h : Src w P A n c (cells l)) (hP : ∀ k, P k → k < w.heap.size) (hn : n ≤ 140737488355328) (hc : c ≤ 9223372036854775807) :
  Rc (((w.alloc (.cells (cz [] 0 noS noS noS noS noS noS 0 noS noS noS noS noS 0) 40)).alloc (.cells #[.slice A n c, .int .i64 0] 118)).alloc (.cells (cz [] 0 noS noS noS noS noS noS 0 noS noS noS noS noS 0) 40))
   (((w.alloc (.cells (cz [] 0 noS noS noS noS noS noS 0 noS noS noS noS noS 0) 40)).alloc (.cells #[.slice A n c, .int .i64 0] 118)).alloc (.cells (cz [] 0 noS noS noS noS noS noS 0 noS noS noS noS noS 0) 40)) w.heap.size (w.heap.size + 1) (w.heap.size + 2) (cz [] 0 noS noS noS noS noS noS 0 noS noS noS noS noS 0) (0, l) ∧
  Bx (((w.alloc (.cells (cz [] 0 noS noS noS noS noS noS 0 noS noS noS noS noS 0) 40)).alloc (.cells #[.slice A n c, .int .i64 0] 118)).alloc (.cells (cz [] 0 noS noS noS noS noS noS 0 noS noS noS noS noS 0) 40)) w.heap.size (cz [] 0 noS noS noS noS noS noS 0 noS noS noS noS noS 0) 40 ∧
  Below w.heap.size w (((w.alloc (.cells (cz [] 0 noS noS noS noS noS noS 0 noS noS noS noS noS 0) 40)).alloc (.cells #[.slice A n c, .int .i64 0] 118)).alloc (.cells (cz [] 0 noS noS noS noS noS noS 0 noS noS noS noS noS 0) 40)) := by
 generalize (cz [] 0 noS noS noS noS noS noS 0 noS noS noS noS noS 0) = Z
 have hln : l.length = n := by have := h.len; simpa [cells] using this
 subst hln
 have b1 : Below w.heap.size w (w.alloc (.cells Z 40)) := (Below.refl _ _).alloc (Nat.le_refl _) _
 have z1 : (w.alloc (.cells Z 40)).heap.size = w.heap.size + 1 := by simp
 generalize hx1 : w.alloc (.cells Z 40) = x1 at *
 have n1 : Bx x1 w.heap.size Z 40 := by rw [← hx1]; exact Bx.new w Z 40
 have b2 : Below x1.heap.size x1 (x1.alloc (.cells #[.slice A l.length c, .int .i64 0] 118)) := (Below.refl _ _).alloc (Nat.le_refl _) _
 have z2 : (x1.alloc (.cells #[.slice A l.length c, .int .i64 0] 118)).heap.size = x1.heap.size + 1 := by simp
 have n2 := heap_alloc_new x1 (.cells #[.slice A l.length c, .int .i64 0] 118)
 generalize hx2 : x1.alloc (.cells #[.slice A l.length c, .int .i64 0] 118) = x2 at *
 have b3 : Below x2.heap.size x2 (x2.alloc (.cells Z 40)) := (Below.refl _ _).alloc (Nat.le_refl _) _
 have n3 := Bx.new x2 Z 40
 have z3 : (x2.alloc (.cells Z 40)).heap.size = x2.heap.size + 1 := by simp
 generalize x2.alloc (.cells Z 40) = x3 at *
 have hb := b1.trans ((b2.mono (by omega)).trans (b3.mono (by omega)))
 rw [z2, z1] at n3
 rw [z1] at n2
 refine ⟨⟨⟨⟨A, c, (b3.block _ (by omega)).trans n2, ?_, by omega, hc, hn⟩, by omega⟩, n3, by omega, by omega, Kr.refl _ _ _⟩, (b3.block _ (by omega)).trans ((b2.block _ (by omega)).trans n1), hb⟩
 refine (h.weak hP).keep fun k hk _ => hb.block k hk
set_option maxHeartbeats 16000000 in
theorem dread_s11 {w w3 : World} {gi g B : Nat} {s0 : St} {ok0 : Bool} {q0 : Unit × Bool × St} {q1 : Str × St} {q2 : Int × St} {v9 : World} {a2 : Value} {wk3 : World} {q3 : List (Sg) × Bool × St} {a3 : Value} {wk4 : World} {q4 : List (Nd) × Bool × St} {A4 : Option Addr} {c4 : Nat} {L4 : List Str} {v27 : World} {q5 : List Str × Bool × St} {a5 : Value} {wk6 : World} {q6 : List (Sym) × Bool × St} {ok1 : Bool} {a6 : Value} {wk7 : World} {q7 : List (List Int) × Bool × St} {q8 : Int × St} {v45 : World} {a7 : Value} {wk9 : World} {q9 : List (UInt64) × Bool × St} {a9 : Value} {wk10 : World} {q10 : List (Rl) × Bool × St} {a10 : Value} {wk11 : World} {q11 : List (Sl) × Bool × St} {y0 y1 y7 y8 y9 ya yb yc yd ye yf yg yh yi yj yk yl ym yn yo yp yq yr ys yt yu yv yw yx yy yz yA yB yC yD yE yF yG yH yI yJ yK yL yM yN yO yP yQ yR yS yT yU yV yW yX yY yZ z0 z1 z2 z3 z4 z5 z6 z7 z8 z9 za zb zc zd ze zf zg zh zi zj zk zl zm zn zo zp zq zr zs zt zu zv zw zx zy zz zA zB zC zD zE zF zG zH zL zM zN zO zP zQ zR zS zT zU zV zW zX zY zZ x0 x1 x2 x3 x4 x5 x6 x7 x8 x9 xa xb xc xd xe xf xg xh xi xj xk xl xm xn xo xp xq xr xs xt xu xv xw xx xy xz xA xB xC xD xE xF xG xH xI xJ xK xL xM xN xO xP xQ xR xS xT xU xV xW xX xY xZ j0 j1 j2 j3 j4 j5 j6 j7 j8 j9 ja jb jc jd je jf jg jh ji jj jk jl jm jn jo jp jq jr js jt ju jv jw jx jy jz jA jB jC jD jE jF jG jH jI jJ jK jL jM jN jO jP jQ jR jS jT jU jV jW jX jY jZ u0 u1 u2 u3 u4 u5 u6 u7 u8 u9 ua ub uc ud ue uf ug uh ui uj uk ul um un uo up uq ur us ut uu uv uw ux : Value} (HBX : Hid (Bx w3 B (cz [] 0 noS noS noS noS noS noS 0 noS noS noS noS noS 0) 40)) (HB0 : Hid (Below B w w3)) (HZG : Hid (B < g)) (HBW : Hid (w.heap.size = B)) (HQ0 : Hid (rdMark s0 = q0)) (HOK : Hid (ok0 = !q0.2.1)) (HQ1 : Hid (rMeas 2 4096 q0.2.2 = q1)) (HQ2 : Hid (rNum 1 q1.2 = q2)) (HKN12 : Hid (Kr gi g w3 v9)) (HLT13 : Hid (g < v9.heap.size ∧ gi < v9.heap.size)) (HQ3 : Hid (rdList 1 rdSg q2.2 = q3)) (HOC3 : Hid (a2.oneCell' = true)) (HGL3 : Hid (q3.2.2.1 = 0 → GL sgA noSg datSg v9 wk3 4 a2 q3.1)) (HKN16 : Hid (Kr gi g v9 wk3)) (HLT17 : Hid (g < wk3.heap.size ∧ gi < wk3.heap.size)) (HKN19 : Hid (Kr gi g wk3 wk3)) (HLT20 : Hid (g < wk3.heap.size ∧ gi < wk3.heap.size)) (HQ4 : Hid (rdList 1 rdNd q3.2.2 = q4)) (HOC4 : Hid (a3.oneCell' = true)) (HGL4 : Hid (q4.2.2.1 = 0 → GL ndA noNd datNd wk3 wk4 2 a3 q4.1)) (HKN23 : Hid (Kr gi g wk3 wk4)) (HLT24 : Hid (g < wk4.heap.size ∧ gi < wk4.heap.size)) (HO4 : Hid (v27.ownsRow wk4.heap.size 9 1 (.slice A4 L4.length c4) L4.length (strs L4))) (HQ5 : Hid (rdTx q4.2.2 = q5)) (HV4 : Hid (q5.2.2.1 = 0 → L4 = q5.1)) (HKN30 : Hid (Kr gi g wk4 v27)) (HLT31 : Hid (g < v27.heap.size ∧ gi < v27.heap.size)) (HQ6 : Hid (rdList 2 rdSym q5.2.2 = q6)) (HOC6 : Hid (a5.oneCell' = true)) (HGL6 : Hid (q6.2.2.1 = 0 → GL (fun y _ => symA y) noSy datNo v27 wk6 9 a5 q6.1)) (HOK1 : Hid (q6.2.2.1 = 0 → ok1 = (ok0 && !q6.2.1))) (HKN34 : Hid (Kr gi g v27 wk6)) (HLT35 : Hid (g < wk6.heap.size ∧ gi < wk6.heap.size)) (HKN37 : Hid (Kr gi g wk6 wk6)) (HLT38 : Hid (g < wk6.heap.size ∧ gi < wk6.heap.size)) (HQ7 : Hid (rdList 2 rdRow q6.2.2 = q7)) (HOC7 : Hid (a6.oneCell' = true)) (HGL7 : Hid (q7.2.2.1 = 0 → GL (fun y b => #[.slice b.1 y.length b.2]) [] datRow wk6 wk7 1 a6 q7.1)) (HKN41 : Hid (Kr gi g wk6 wk7)) (HLT42 : Hid (g < wk7.heap.size ∧ gi < wk7.heap.size)) (HQ8 : Hid (rNum 1 q7.2.2 = q8)) (HKN48 : Hid (Kr gi g wk7 v45)) (HLT49 : Hid (g < v45.heap.size ∧ gi < v45.heap.size)) (HQ9 : Hid (rdList 1 rdWd q8.2 = q9)) (HOC9 : Hid (a7.oneCell' = true)) (HGL9 : Hid (q9.2.2.1 = 0 → GL (fun y _ => #[Siv.u64v y]) 0 datNo v45 wk9 1 a7 q9.1)) (HKN52 : Hid (Kr gi g v45 wk9)) (HLT53 : Hid (g < wk9.heap.size ∧ gi < wk9.heap.size)) (HKN55 : Hid (Kr gi g wk9 wk9)) (HLT56 : Hid (g < wk9.heap.size ∧ gi < wk9.heap.size)) (HQ10 : Hid (rdList 2 rdRl q9.2.2 = q10)) (HOC10 : Hid (a9.oneCell' = true)) (HGL10 : Hid (q10.2.2.1 = 0 → GL (fun y _ => rlA y) noRl datNo wk9 wk10 4 a9 q10.1)) (HKN59 : Hid (Kr gi g wk9 wk10)) (HLT60 : Hid (g < wk10.heap.size ∧ gi < wk10.heap.size)) (HKN62 : Hid (Kr gi g wk10 wk10)) (HLT63 : Hid (g < wk10.heap.size ∧ gi < wk10.heap.size)) (HQ11 : Hid (rdList 2 rdSl q10.2.2 = q11)) (HOC11 : Hid (a10.oneCell' = true)) (HGL11 : Hid (q11.2.2.1 = 0 → GL (fun y _ => slA y) noSl datNo wk10 wk11 3 a10 q11.1)) (HKN66 : Hid (Kr gi g wk10 wk11)) (HLT67 : Hid (g < wk11.heap.size ∧ gi < wk11.heap.size)) (HR65 : Hid (Rc wk11 wk11 B g gi (cz q1.1 q2.1 a2 a3 ((.slice A4 L4.length c4)) a5 a6 a7 q8.1 a9 a10 noS noS noS 0) q11.2.2)) :
  Code.wp Tryz.prog (seqTail 15 (Tryz.f19.body.getD .skip)) (bodyPost Tryz.prog Tryz.f19 (Dread w (rdIm s0))) ⟨#[y0, y1, .pointer (some ⟨B, 0, none⟩), .bool false, .pointer (some ⟨g, 0, none⟩), .pointer (some ⟨gi, 0, none⟩), .bool ok1, y7, y8, y9, ya, yb, yc, yd, ye, yf, yg, yh, yi, yj, yk, yl, ym, yn, yo, yp, yq, yr, ys, yt, yu, yv, yw, yx, yy, yz, yA, yB, yC, yD, yE, yF, yG, yH, yI, yJ, yK, yL, yM, yN, yO, yP, yQ, yR, yS, yT, yU, yV, yW, yX, yY, yZ, z0, z1, z2, z3, z4, z5, z6, z7, z8, z9, za, zb, zc, zd, ze, zf, zg, zh, zi, zj, zk, zl, zm, zn, zo, zp, zq, zr, zs, zt, zu, zv, zw, zx, zy, zz, zA, zB, zC, zD, zE, zF, zG, zH, zL, zM, zN, zO, zP, zQ, zR, zS, zT, zU, zV, zW, zX, zY, zZ, x0, x1, x2, x3, x4, x5, x6, x7, x8, x9, xa, xb, xc, xd, xe, xf, xg, xh, xi, xj, xk, xl, xm, xn, xo, xp, xq, xr, xs, xt, xu, xv, xw, xx, xy, xz, xA, xB, xC, xD, xE, xF, xG, xH, xI, xJ, xK, xL, xM, xN, xO, xP, xQ, xR, xS, xT, xU, xV, xW, xX, xY, xZ, j0, j1, j2, j3, j4, j5, j6, j7, j8, j9, ja, jb, jc, jd, je, jf, jg, jh, ji, jj, jk, jl, jm, jn, jo, jp, jq, jr, js, jt, ju, jv, jw, jx, jy, jz, jA, jB, jC, jD, jE, jF, jG, jH, jI, jJ, jK, jL, jM, jN, jO, jP, jQ, jR, jS, jT, jU, jV, jW, jX, jY, jZ, u0, u1, u2, u3, u4, u5, u6, u7, u8, u9, ua, ub, uc, ud, ue, uf, ug, uh, ui, uj, uk, ul, um, un, uo, up, uq, ur, us, ut, uu, uv, uw, ux], []⟩ wk11 := by
 conv => arg 2; whnf
 obtain ⟨N12, u12, hnn, hN12⟩ := num_nat (size := 1) (by decide) (by decide) q11.2.2
 have HNN := hD hnn
 have HQ12 := hD (show rdRuns q11.2.2 = rdMany (rdNum 4) N12 u12 from rdList_of hnn)
 clear hnn
 have HN := hD (show Calls Tryz.prog 56 #[.pointer (some ⟨g, 0, none⟩), .int .i64 1] wk11 (fun e w' => e = .returned (.int .i64 (N12 : Int)) ∧ Rq w' B g u12 ∧ wk11.grownBy w' (some g)) from by have q := rnum_d HR65.out.rq 1; rw [HNN.out] at q; exact q)
 go_upto_region 50 with (go_at_call 56; (with_reducible refine (HN.out).mono ?_); rintro en v68 ⟨rfl, hr, hg⟩; have HR69 := hD (HR65.out.call hr hg); clear hr hg)
 clear HN HNN HR65
 have HR70 := hD (HR69.out.rebase)
 have HKN71 := hD HR69.out.kr
 have HLT72 := hD (show g < v68.heap.size ∧ gi < v68.heap.size from ⟨Nat.lt_trans HR69.out.lt HR69.out.bx.lt, HR69.out.bx.lt⟩)
 clear HR69
 have HN := hD (dlist_any B g u12 4 N12 v68 HR70.out.rq (by omega))
 go_upto_region 51 with (go_at_call 57; (with_reducible refine (HN.out).mono ?_); rintro en v73 ⟨A12, c12, L12, rfl, ho, hl, hr, hv, hg⟩; have HR74 := hD (HR70.out.call hr hg); have k0 : v73.cell? ⟨gi, 11, none⟩ = some (noS) := HR74.out.bx.c 11; have k1 := HR74.out.bx.f 11; clear hr hg; have HO12 := hD ho; have HV12 := hD hv; clear ho hv hl)
 replace HO12 := hD (own_set (f := 11) (u := .slice A12 L12.length c12) HO12.out HLT72.out.2)
 have HR76 := hD (show Rc v68 (v73.setCell ⟨gi, 11, none⟩ (.slice A12 L12.length c12)) B g gi (cz q1.1 q2.1 a2 a3 ((.slice A4 L4.length c4)) a5 a6 a7 q8.1 a9 a10 ((.slice A12 L12.length c12)) noS noS 0) _ from HR74.out.set 11 (.slice A12 L12.length c12))
 change Code.wp _ _ _ _ (v73.setCell ⟨gi, 11, none⟩ (.slice A12 L12.length c12))
 generalize v73.setCell ⟨gi, 11, none⟩ (.slice A12 L12.length c12) = v75 at *
 clear k0 k1 HR74 HN HR70
 generalize rdMany (rdNum 4) N12 u12 = q12 at *
 have HR77 := hD (HR76.out.rebase)
 have HKN78 := hD HR76.out.kr
 have HLT79 := hD (show g < v75.heap.size ∧ gi < v75.heap.size from ⟨Nat.lt_trans HR76.out.lt HR76.out.bx.lt, HR76.out.bx.lt⟩)
 clear HR76
 obtain ⟨N13, u13, hnn, hN13⟩ := num_nat (size := 1) (by decide) (by decide) q12.2.2
 have HNN := hD hnn
 have HQ13 := hD (show rdRuns q12.2.2 = rdMany (rdNum 4) N13 u13 from rdList_of hnn)
 clear hnn
 have HN := hD (show Calls Tryz.prog 56 #[.pointer (some ⟨g, 0, none⟩), .int .i64 1] v75 (fun e w' => e = .returned (.int .i64 (N13 : Int)) ∧ Rq w' B g u13 ∧ v75.grownBy w' (some g)) from by have q := rnum_d HR77.out.rq 1; rw [HNN.out] at q; exact q)
 go_upto_region 52 with (go_at_call 56; (with_reducible refine (HN.out).mono ?_); rintro en v80 ⟨rfl, hr, hg⟩; have HR81 := hD (HR77.out.call hr hg); clear hr hg)
 clear HN HNN HR77
 have HR82 := hD (HR81.out.rebase)
 have HKN83 := hD HR81.out.kr
 have HLT84 := hD (show g < v80.heap.size ∧ gi < v80.heap.size from ⟨Nat.lt_trans HR81.out.lt HR81.out.bx.lt, HR81.out.bx.lt⟩)
 clear HR81
 have HN := hD (dlist_any B g u13 4 N13 v80 HR82.out.rq (by omega))
 go_upto_region 53 with (go_at_call 57; (with_reducible refine (HN.out).mono ?_); rintro en v85 ⟨A13, c13, L13, rfl, ho, hl, hr, hv, hg⟩; have HR86 := hD (HR82.out.call hr hg); have k0 : v85.cell? ⟨gi, 12, none⟩ = some (noS) := HR86.out.bx.c 12; have k1 := HR86.out.bx.f 12; clear hr hg; have HO13 := hD ho; have HV13 := hD hv; clear ho hv hl)
 replace HO13 := hD (own_set (f := 12) (u := .slice A13 L13.length c13) HO13.out HLT84.out.2)
 have HR88 := hD (show Rc v80 (v85.setCell ⟨gi, 12, none⟩ (.slice A13 L13.length c13)) B g gi (cz q1.1 q2.1 a2 a3 ((.slice A4 L4.length c4)) a5 a6 a7 q8.1 a9 a10 ((.slice A12 L12.length c12)) ((.slice A13 L13.length c13)) noS 0) _ from HR86.out.set 12 (.slice A13 L13.length c13))
 change Code.wp _ _ _ _ (v85.setCell ⟨gi, 12, none⟩ (.slice A13 L13.length c13))
 generalize v85.setCell ⟨gi, 12, none⟩ (.slice A13 L13.length c13) = v87 at *
 clear k0 k1 HR86 HN HR82
 generalize rdMany (rdNum 4) N13 u13 = q13 at *
 have HR89 := hD (HR88.out.rebase)
 have HKN90 := hD HR88.out.kr
 have HLT91 := hD (show g < v87.heap.size ∧ gi < v87.heap.size from ⟨Nat.lt_trans HR88.out.lt HR88.out.bx.lt, HR88.out.bx.lt⟩)
 clear HR88
 have HN := hD (rnum_d HR89.out.rq 2)
 go_upto_region 54 with (go_at_call 56; (with_reducible refine (HN.out).mono ?_); rintro en v92 ⟨rfl, hr, hg⟩; have HR93 := hD (HR89.out.call hr hg); have k0 : v92.cell? ⟨gi, 14, none⟩ = some (.int .i64 0) := HR93.out.bx.c 14; have k1 := HR93.out.bx.f 14; clear hr hg)
 have HR95 := hD (show Rc v87 (v92.setCell ⟨gi, 14, none⟩ (.int .i64 (rNum 2 q13.2.2).1)) B g gi (cz q1.1 q2.1 a2 a3 ((.slice A4 L4.length c4)) a5 a6 a7 q8.1 a9 a10 ((.slice A12 L12.length c12)) ((.slice A13 L13.length c13)) noS ((rNum 2 q13.2.2).1)) _ from HR93.out.set 14 (.int .i64 (rNum 2 q13.2.2).1))
 change Code.wp _ _ _ _ (v92.setCell ⟨gi, 14, none⟩ (.int .i64 (rNum 2 q13.2.2).1))
 generalize v92.setCell ⟨gi, 14, none⟩ (.int .i64 (rNum 2 q13.2.2).1) = v94 at *
 clear k0 k1 HR93 HN HR89
 generalize hq14 : rNum 2 q13.2.2 = q14 at *
 have HQ14 := hD hq14
 clear hq14
 have HN := hD (rblock_d HR95.out.rq)
 go_upto_region 55 with (first
  | (go_at_call 59; (with_reducible refine (HN.out).mono ?_); rintro en vb ⟨Ab, cb, rfl, hs, hr, hg⟩; have HRB := hD (HR95.out.call hr hg); have HNB := hD (dbytes_any _ Ab cb _ vb hs (rBlock_short _)); clear hr hg hs)
  | (go_at_call 58; (with_reducible refine (HNB.out).mono ?_); rintro en vd ⟨A15, c15, rfl, ho, hb⟩; have HRD := hD (HRB.out.below hb); have HO15 := hD ho; have k0 : vd.cell? ⟨gi, 13, none⟩ = some (noS) := HRD.out.bx.c 13; have k1 := HRD.out.bx.f 13; have HLB := hD (show gi < vb.heap.size from HRB.out.bx.lt); clear hb ho))
 replace HO15 := hD (own_set (f := 13) (u := .slice A15 (rMeas 4 1048576 q14.2).1.length c15) HO15.out HLB.out)
 have HR96 := hD (HRD.out.set 13 (.slice A15 (rMeas 4 1048576 q14.2).1.length c15))
 change Code.wp _ _ _ _ (vd.setCell ⟨gi, 13, none⟩ (.slice A15 (rMeas 4 1048576 q14.2).1.length c15))
 generalize vd.setCell ⟨gi, 13, none⟩ (.slice A15 (rMeas 4 1048576 q14.2).1.length c15) = vz at *
 clear k0 k1 HN HNB HRD HR95
 generalize hq15 : rMeas 4 1048576 q14.2 = q15 at *
 have HQ15 := hD hq15
 clear hq15
 replace HR96 := hD (show Rc v87 vz B g gi (cz q1.1 q2.1 a2 a3 ((.slice A4 L4.length c4)) a5 a6 a7 q8.1 a9 a10 ((.slice A12 L12.length c12)) ((.slice A13 L13.length c13)) ((.slice A15 q15.1.length c15)) q14.1) q15.2 from HR96.out)
 have HLB2 := hD (show B < vb.heap.size ∧ vb.heap.size ≤ vb.heap.size from ⟨by have := HLB.out; have := HRB.out.lt; have := HZG.out; omega, Nat.le_refl _⟩)
 clear HRB
 have HKZ := hD HR96.out.kr
 have HEN := hD HR96.out.rq
 have HBXZ := hD ((((((((((((((((((((HKN12.out).trans HKN16.out).trans HKN19.out).trans HKN23.out).trans HKN30.out).trans HKN34.out).trans HKN37.out).trans HKN41.out).trans HKN48.out).trans HKN52.out).trans HKN55.out).trans HKN59.out).trans HKN62.out).trans HKN66.out).trans HKN71.out).trans HKN78.out).trans HKN83.out).trans HKN90.out).trans HKZ.out).block B (by have := HLT13.out; have := HBX.out.lt; omega) (by have := HZG.out; omega) (by have := HZG.out; have := HR96.out.lt; omega) |>.trans HBX.out)
 have HSZ := hD (show ∃ c0 : Array Value, c0.size = 15 ∧ Bx vz.drew B c0 40 ∧ (∀ k, k ≠ B → vz.drew.heap[k]? = vz.heap[k]?) from ⟨_, rfl, HBXZ.out, fun _ _ => rfl⟩)
 have HEND := hD (fun (X : World) (hX : ∃ c0 : Array Value, c0.size = 15 ∧ Bx X B c0 40 ∧ (∀ k, k ≠ B → X.heap[k]? = vz.heap[k]?)) => show Calls Tryz.prog 62 #[.pointer (some ⟨g, 0, none⟩)] X (fun en w' => en = .returned (.int .i64 (rEnd q15.2)) ∧ X = w') from by
  obtain ⟨c0, h0, hb, hk⟩ := hX
  obtain ⟨Ar, cr, hr⟩ := HEN.out.ex
  have hgB := HZG.out
  exact mend_any _ g q15.2 Ar cr X ⟨(hk g (by omega)).trans hr.blk, hr.src.keep fun k hk' _ => hk k (by have : k < B := hk'; omega), hr.ne, hr.lim, hr.small⟩)
 have HCZ := hD HR96.out.bx
 have HONE := hD (show (#[str q1.1, .int .i64 q2.1, a2, a3, .slice A4 L4.length c4, a5, a6, a7, .int .i64 q8.1, a9, a10, .slice A12 L12.length c12, .slice A13 L13.length c13, .slice A15 q15.1.length c15, .int .i64 q14.1] : Array Value).all (·.oneCell') = true from all15 rfl rfl HOC3.out HOC4.out rfl HOC6.out HOC7.out HOC9.out rfl HOC10.out HOC11.out rfl rfl rfl rfl)
 have HGB := hD (show gi ≠ B from by have := HZG.out; have := HR96.out.lt; omega)
 have HZB := hD (And.intro HB0.out (((((((((((((((((((HKN12.out).trans HKN16.out).trans HKN19.out).trans HKN23.out).trans HKN30.out).trans HKN34.out).trans HKN37.out).trans HKN41.out).trans HKN48.out).trans HKN52.out).trans HKN55.out).trans HKN59.out).trans HKN62.out).trans HKN66.out).trans HKN71.out).trans HKN78.out).trans HKN83.out).trans HKN90.out).trans HKZ.out))
 have HST := hD (Steps.mk (s := s0) HQ0.out HQ1.out HQ2.out HQ3.out HQ4.out HQ5.out HQ6.out HQ7.out HQ8.out HQ9.out HQ10.out HQ11.out HQ12.out HQ13.out HQ14.out HQ15.out)
 cases ok1 with
 | true =>
  refine wp_region_held_drew (S := fun X => ∃ c0 : Array Value, c0.size = 15 ∧ Bx X B c0 40 ∧ (∀ k, k ≠ B → X.heap[k]? = vz.heap[k]?)) (by kernel_rfl) HSZ.out (fun hHeld0 => ?_)
  refine tjI 0 272 (.agg #[str q1.1, .int .i64 q2.1, a2, a3, .slice A4 L4.length c4, a5, a6, a7, .int .i64 q8.1, a9, a10, .slice A12 L12.length c12, .slice A13 L13.length c13, .slice A15 q15.1.length c15, .int .i64 q14.1]) ?_ ?_
  ·
   intro X hX; obtain ⟨c0, h0, hb, hk⟩ := hX; have e0 := (World.cell?_of_block (a := ⟨gi, 0, none⟩) (hk gi HGB.out)).trans (HCZ.out.c 0); have e1 := (World.cell?_of_block (a := ⟨gi, 1, none⟩) (hk gi HGB.out)).trans (HCZ.out.c 1); have e2 := (World.cell?_of_block (a := ⟨gi, 2, none⟩) (hk gi HGB.out)).trans (HCZ.out.c 2); have e3 := (World.cell?_of_block (a := ⟨gi, 3, none⟩) (hk gi HGB.out)).trans (HCZ.out.c 3); have e4 := (World.cell?_of_block (a := ⟨gi, 4, none⟩) (hk gi HGB.out)).trans (HCZ.out.c 4); have e5 := (World.cell?_of_block (a := ⟨gi, 5, none⟩) (hk gi HGB.out)).trans (HCZ.out.c 5); have e6 := (World.cell?_of_block (a := ⟨gi, 6, none⟩) (hk gi HGB.out)).trans (HCZ.out.c 6); have e7 := (World.cell?_of_block (a := ⟨gi, 7, none⟩) (hk gi HGB.out)).trans (HCZ.out.c 7); have e8 := (World.cell?_of_block (a := ⟨gi, 8, none⟩) (hk gi HGB.out)).trans (HCZ.out.c 8); have e9 := (World.cell?_of_block (a := ⟨gi, 9, none⟩) (hk gi HGB.out)).trans (HCZ.out.c 9); have e10 := (World.cell?_of_block (a := ⟨gi, 10, none⟩) (hk gi HGB.out)).trans (HCZ.out.c 10); have e11 := (World.cell?_of_block (a := ⟨gi, 11, none⟩) (hk gi HGB.out)).trans (HCZ.out.c 11); have e12 := (World.cell?_of_block (a := ⟨gi, 12, none⟩) (hk gi HGB.out)).trans (HCZ.out.c 12); have e13 := (World.cell?_of_block (a := ⟨gi, 13, none⟩) (hk gi HGB.out)).trans (HCZ.out.c 13); have e14 := (World.cell?_of_block (a := ⟨gi, 14, none⟩) (hk gi HGB.out)).trans (HCZ.out.c 14); simp only [gA, gB, gC] at e0 e1 e2 e3 e4 e5 e6 e7 e8 e9 e10 e11 e12 e13 e14; go_simp
  (try simp only [Act.put, zI, zJ, zK])
  refine tkI 1 273 (.bool true) ?_
  simp only [Act.put, zI, zJ, zK]
  refine tkI 2 274 (.bool true) ?_
  simp only [Act.put, zI, zJ, zK]
  refine tkI 3 275 (.pointer (some ⟨g, 0, none⟩)) ?_
  simp only [Act.put, zI, zJ, zK]
  refine rYI 4 fun K hK => ?_
  go_simp
  refine (HEND.out _ hHeld0).mono ?_
  rintro e wq ⟨rfl, rfl⟩
  go_simp
  refine hK.out _ _ hHeld0 (fun hHeld1 => ?_)
  clear hK K
  (try simp only [Act.put, zI, zJ, zK])
  refine tkI 5 277 (.bool (rEnd q15.2 == 0)) ?_
  simp only [Act.put, zI, zJ, zK]
  refine tkI 6 278 (.bool (rEnd q15.2 == 0)) ?_
  simp only [Act.put, zI, zJ, zK]
  refine rYI 7 fun K hK => ?_
  rw [if_pos (by rfl)]
  refine wp_store_row 40 (.tmp 2) (.tmp 272) rfl B #[str q1.1, .int .i64 q2.1, a2, a3, .slice A4 L4.length c4, a5, a6, a7, .int .i64 q8.1, a9, a10, .slice A12 L12.length c12, .slice A13 L13.length c13, .slice A15 q15.1.length c15, .int .i64 q14.1] rfl rfl 40 (cz [] 0 noS noS noS noS noS noS 0 noS noS noS noS noS 0) HBXZ.out Tryz.info_img rfl HONE.out ?_
  have HZ := hD (setRow_heap vz.drew B (cz [] 0 noS noS noS noS noS noS 0 noS noS noS noS noS 0) #[str q1.1, .int .i64 q2.1, a2, a3, .slice A4 L4.length c4, a5, a6, a7, .int .i64 q8.1, a9, a10, .slice A12 L12.length c12, .slice A13 L13.length c13, .slice A15 q15.1.length c15, .int .i64 q14.1] 40 (0, 0) HBXZ.out)
  refine hK.out _ _ ⟨#[str q1.1, .int .i64 q2.1, a2, a3, .slice A4 L4.length c4, a5, a6, a7, .int .i64 q8.1, a9, a10, .slice A12 L12.length c12, .slice A13 L13.length c13, .slice A15 q15.1.length c15, .int .i64 q14.1], rfl, HZ.out, fun k hk => setRow_other _ _ _ _ hk⟩ (fun hHeldZ => ?_)
  clear hK K
  refine tkI 8 3 (.bool (rEnd q15.2 == 0)) ?_
  simp only [Act.put, zI, zJ, zK]
  refine wpAnyH_done (by kernel_rfl) ?_ _
  clear hHeldZ hHeld0
  have hBz := Bx.c (show Bx (World.setRow vz.drew B #[str q1.1, .int .i64 q2.1, a2, a3, .slice A4 L4.length c4, a5, a6, a7, .int .i64 q8.1, a9, a10, .slice A12 L12.length c12, .slice A13 L13.length c13, .slice A15 q15.1.length c15, .int .i64 q14.1]) B #[str q1.1, .int .i64 q2.1, a2, a3, .slice A4 L4.length c4, a5, a6, a7, .int .i64 q8.1, a9, a10, .slice A12 L12.length c12, .slice A13 L13.length c13, .slice A15 q15.1.length c15, .int .i64 q14.1] 40 from HZ.out)
  have e0 := hBz 0
  have e1 := hBz 1
  have e2 := hBz 2
  have e3 := hBz 3
  have e4 := hBz 4
  have e5 := hBz 5
  have e6 := hBz 6
  have e7 := hBz 7
  have e8 := hBz 8
  have e9 := hBz 9
  have e10 := hBz 10
  have e11 := hBz 11
  have e12 := hBz 12
  have e13 := hBz 13
  have e14 := hBz 14
  simp only [gA, gB, gC] at e0 e1 e2 e3 e4 e5 e6 e7 e8 e9 e10 e11 e12 e13 e14
  clear hBz
  have HBL := hD (show Below B w (World.setRow vz.drew B #[str q1.1, .int .i64 q2.1, a2, a3, .slice A4 L4.length c4, a5, a6, a7, .int .i64 q8.1, a9, a10, .slice A12 L12.length c12, .slice A13 L13.length c13, .slice A15 q15.1.length c15, .int .i64 q14.1]) from below_row (HZB.out.1.trans ((HZB.out.2.trans (Kr.of_below (drew_below vz))).to_below (Nat.le_of_lt HBX.out.lt) (Nat.le_of_lt HZG.out) (by have := HGB.out; have := HZG.out; have := HR96.out.lt; omega))) (Nat.le_refl _) _)
  generalize hwz : World.setRow vz.drew B #[str q1.1, .int .i64 q2.1, a2, a3, .slice A4 L4.length c4, a5, a6, a7, .int .i64 q8.1, a9, a10, .slice A12 L12.length c12, .slice A13 L13.length c13, .slice A15 q15.1.length c15, .int .i64 q14.1] = wz at *
  have HWZ := hD hwz
  clear hwz
  go_wp2_with fail
  refine bodyPost_ret (v := .tuple #[.agg #[str q1.1, .int .i64 q2.1, a2, a3, .slice A4 L4.length c4, a5, a6, a7, .int .i64 q8.1, a9, a10, .slice A12 L12.length c12, .slice A13 L13.length c13, .slice A15 q15.1.length c15, .int .i64 q14.1], .bool (rEnd q15.2 == 0)]) ?_ rfl (Dread.of rfl HONE.out HST.out.im (by rw [HBW.out]; exact HBL.out) ?_ ?_)
  ·
   rw [results_cell_tmp rfl]; go_simp
  ·
   refine read_ok (ok1 := true) HOK.out HOK1.out (fun h => HST.out.fine h |>.2.2.2.1) ?_
   exact HST.out.flags
  ·
   intro hok
   have hend : rEnd q15.2 = 0 := by simpa using hok
   obtain ⟨t1, t2⟩ := rend_zero hend
   clear e0 e1 e2 e3 e4 e5 e6 e7 e8 e9 e10 e11 e12 e13 e14
   have hfi := HST.out.fine t1
   obtain ⟨z3, z4, z5, z6, z7, z9, z10, z11, z12, z13⟩ := hfi
   obtain ⟨A3, c3, B3, rfl, ee3, dd3⟩ := HGL3.out z3
   obtain ⟨An, cn, B4, rfl, ee4, dd4⟩ := HGL4.out z4
   obtain rfl := HV4.out z5
   obtain ⟨A6, c6, B6, rfl, ee6, dd6⟩ := HGL6.out z6
   obtain ⟨A7, c7, B7, rfl, ee7, dd7⟩ := HGL7.out z7
   obtain ⟨A9, c9, B9, rfl, ee9, dd9⟩ := HGL9.out z9
   obtain ⟨Ar, cr, Br, rfl, ee10, dd10⟩ := HGL10.out z10
   obtain ⟨Al, cl, Bl, rfl, ee11, dd11⟩ := HGL11.out z11
   obtain rfl := HV12.out z12
   obtain rfl := HV13.out z13
   refine ⟨⟨(A3, c3), (An, cn), (A4, c4), (A6, c6), (A7, c7), (A9, c9), (Ar, cr), (Al, cl), (A12, c12), (A13, c13), (A15, c15)⟩, ?_, ?_⟩
   ·
    exact cs_im
   ·
    rw [HBW.out, ← HWZ.out]
    refine mk_in ?_
    exact im_made ((ee3.kr (G := gi) (g := g) (B' := v9.heap.size) (((((((((((((((((HKN23.out).trans HKN30.out).trans HKN34.out).trans HKN37.out).trans HKN41.out).trans HKN48.out).trans HKN52.out).trans HKN55.out).trans HKN59.out).trans HKN62.out).trans HKN66.out).trans HKN71.out).trans HKN78.out).trans HKN83.out).trans HKN90.out).trans HKZ.out).trans (Kr.of_below (drew_below vz))) HLT13.out.1 HLT13.out.2 (Nat.le_refl _)).row (by have := HLT13.out.1; have := HZG.out; omega) _)
     (fun i hi => ((dd3 i hi).kr2 (G := gi) (g := g) (B' := v9.heap.size) (((((((((((((((((HKN23.out).trans HKN30.out).trans HKN34.out).trans HKN37.out).trans HKN41.out).trans HKN48.out).trans HKN52.out).trans HKN55.out).trans HKN59.out).trans HKN62.out).trans HKN66.out).trans HKN71.out).trans HKN78.out).trans HKN83.out).trans HKN90.out).trans HKZ.out).trans (Kr.of_below (drew_below vz))) HLT13.out.1 HLT13.out.2 (Nat.le_refl _)).row (by have := HLT13.out.1; have := HZG.out; omega) _)
     ((ee4.kr (G := gi) (g := g) (B' := wk3.heap.size) ((((((((((((((((HKN30.out).trans HKN34.out).trans HKN37.out).trans HKN41.out).trans HKN48.out).trans HKN52.out).trans HKN55.out).trans HKN59.out).trans HKN62.out).trans HKN66.out).trans HKN71.out).trans HKN78.out).trans HKN83.out).trans HKN90.out).trans HKZ.out).trans (Kr.of_below (drew_below vz))) HLT20.out.1 HLT20.out.2 (Nat.le_refl _)).row (by have := HLT20.out.1; have := HZG.out; omega) _)
     (fun i hi => ((dd4 i hi).kr2 (G := gi) (g := g) (B' := wk3.heap.size) ((((((((((((((((HKN30.out).trans HKN34.out).trans HKN37.out).trans HKN41.out).trans HKN48.out).trans HKN52.out).trans HKN55.out).trans HKN59.out).trans HKN62.out).trans HKN66.out).trans HKN71.out).trans HKN78.out).trans HKN83.out).trans HKN90.out).trans HKZ.out).trans (Kr.of_below (drew_below vz))) HLT20.out.1 HLT20.out.2 (Nat.le_refl _)).row (by have := HLT20.out.1; have := HZG.out; omega) _)
     ((((Src.of_own HO4.out).weak fun q hq => ⟨hq.2.1, hq.2.2⟩).kr2 (G := gi) (g := g) (B' := wk4.heap.size) (((((((((((((((HKN34.out).trans HKN37.out).trans HKN41.out).trans HKN48.out).trans HKN52.out).trans HKN55.out).trans HKN59.out).trans HKN62.out).trans HKN66.out).trans HKN71.out).trans HKN78.out).trans HKN83.out).trans HKN90.out).trans HKZ.out).trans (Kr.of_below (drew_below vz))) HLT24.out.1 HLT24.out.2 (Nat.le_refl _)).row (by have := HLT24.out.1; have := HZG.out; omega) _)
     (syl_of_els ((ee6.kr (G := gi) (g := g) (B' := v27.heap.size) (((((((((((((HKN41.out).trans HKN48.out).trans HKN52.out).trans HKN55.out).trans HKN59.out).trans HKN62.out).trans HKN66.out).trans HKN71.out).trans HKN78.out).trans HKN83.out).trans HKN90.out).trans HKZ.out).trans (Kr.of_below (drew_below vz))) HLT31.out.1 HLT31.out.2 (Nat.le_refl _)).row (by have := HLT31.out.1; have := HZG.out; omega) _)) ⟨rws_of_els ((ee7.kr (G := gi) (g := g) (B' := wk6.heap.size) ((((((((((((HKN48.out).trans HKN52.out).trans HKN55.out).trans HKN59.out).trans HKN62.out).trans HKN66.out).trans HKN71.out).trans HKN78.out).trans HKN83.out).trans HKN90.out).trans HKZ.out).trans (Kr.of_below (drew_below vz))) HLT38.out.1 HLT38.out.2 (Nat.le_refl _)).row (by have := HLT38.out.1; have := HZG.out; omega) _) (fun i hi => ((dd7 i hi).kr2 (G := gi) (g := g) (B' := wk6.heap.size) ((((((((((((HKN48.out).trans HKN52.out).trans HKN55.out).trans HKN59.out).trans HKN62.out).trans HKN66.out).trans HKN71.out).trans HKN78.out).trans HKN83.out).trans HKN90.out).trans HKZ.out).trans (Kr.of_below (drew_below vz))) HLT38.out.1 HLT38.out.2 (Nat.le_refl _)).row (by have := HLT38.out.1; have := HZG.out; omega) _), src_of_els (f := Siv.u64v) (d := 0) ((ee9.kr (G := gi) (g := g) (B' := v45.heap.size) (((((((((HKN59.out).trans HKN62.out).trans HKN66.out).trans HKN71.out).trans HKN78.out).trans HKN83.out).trans HKN90.out).trans HKZ.out).trans (Kr.of_below (drew_below vz))) HLT49.out.1 HLT49.out.2 (Nat.le_refl _)).row (by have := HLT49.out.1; have := HZG.out; omega) _)⟩
     ((ee10.kr (G := gi) (g := g) (B' := wk9.heap.size) (((((((HKN66.out).trans HKN71.out).trans HKN78.out).trans HKN83.out).trans HKN90.out).trans HKZ.out).trans (Kr.of_below (drew_below vz))) HLT56.out.1 HLT56.out.2 (Nat.le_refl _)).row (by have := HLT56.out.1; have := HZG.out; omega) _) ((ee11.kr (G := gi) (g := g) (B' := wk10.heap.size) ((((((HKN71.out).trans HKN78.out).trans HKN83.out).trans HKN90.out).trans HKZ.out).trans (Kr.of_below (drew_below vz))) HLT63.out.1 HLT63.out.2 (Nat.le_refl _)).row (by have := HLT63.out.1; have := HZG.out; omega) _) ((((Src.of_own HO12.out).weak fun q hq => ⟨hq.2.1, hq.2.2⟩).kr2 (G := gi) (g := g) (B' := v68.heap.size) ((((HKN83.out).trans HKN90.out).trans HKZ.out).trans (Kr.of_below (drew_below vz))) HLT72.out.1 HLT72.out.2 (Nat.le_refl _)).row (by have := HLT72.out.1; have := HZG.out; omega) _) ((((Src.of_own HO13.out).weak fun q hq => ⟨hq.2.1, hq.2.2⟩).kr2 (G := gi) (g := g) (B' := v80.heap.size) ((HKZ.out).trans (Kr.of_below (drew_below vz))) HLT84.out.1 HLT84.out.2 (Nat.le_refl _)).row (by have := HLT84.out.1; have := HZG.out; omega) _) ((((Src.of_own HO15.out).weak fun q hq => ⟨hq.2.1, hq.2.2⟩).kr2 (G := gi) (g := g) (B' := vb.heap.size) (Kr.of_below (drew_below vz)) (by have := HLB.out; have := HR96.out.lt; omega) HLB.out (Nat.le_refl _)).row HLB2.out.1 _)
 | false =>
  refine wp_region_held_drew (S := fun X => ∃ c0 : Array Value, c0.size = 15 ∧ Bx X B c0 40 ∧ (∀ k, k ≠ B → X.heap[k]? = vz.heap[k]?)) (by kernel_rfl) HSZ.out (fun hHeld0 => ?_)
  refine tjI 0 272 (.agg #[str q1.1, .int .i64 q2.1, a2, a3, .slice A4 L4.length c4, a5, a6, a7, .int .i64 q8.1, a9, a10, .slice A12 L12.length c12, .slice A13 L13.length c13, .slice A15 q15.1.length c15, .int .i64 q14.1]) ?_ ?_
  ·
   intro X hX; obtain ⟨c0, h0, hb, hk⟩ := hX; have e0 := (World.cell?_of_block (a := ⟨gi, 0, none⟩) (hk gi HGB.out)).trans (HCZ.out.c 0); have e1 := (World.cell?_of_block (a := ⟨gi, 1, none⟩) (hk gi HGB.out)).trans (HCZ.out.c 1); have e2 := (World.cell?_of_block (a := ⟨gi, 2, none⟩) (hk gi HGB.out)).trans (HCZ.out.c 2); have e3 := (World.cell?_of_block (a := ⟨gi, 3, none⟩) (hk gi HGB.out)).trans (HCZ.out.c 3); have e4 := (World.cell?_of_block (a := ⟨gi, 4, none⟩) (hk gi HGB.out)).trans (HCZ.out.c 4); have e5 := (World.cell?_of_block (a := ⟨gi, 5, none⟩) (hk gi HGB.out)).trans (HCZ.out.c 5); have e6 := (World.cell?_of_block (a := ⟨gi, 6, none⟩) (hk gi HGB.out)).trans (HCZ.out.c 6); have e7 := (World.cell?_of_block (a := ⟨gi, 7, none⟩) (hk gi HGB.out)).trans (HCZ.out.c 7); have e8 := (World.cell?_of_block (a := ⟨gi, 8, none⟩) (hk gi HGB.out)).trans (HCZ.out.c 8); have e9 := (World.cell?_of_block (a := ⟨gi, 9, none⟩) (hk gi HGB.out)).trans (HCZ.out.c 9); have e10 := (World.cell?_of_block (a := ⟨gi, 10, none⟩) (hk gi HGB.out)).trans (HCZ.out.c 10); have e11 := (World.cell?_of_block (a := ⟨gi, 11, none⟩) (hk gi HGB.out)).trans (HCZ.out.c 11); have e12 := (World.cell?_of_block (a := ⟨gi, 12, none⟩) (hk gi HGB.out)).trans (HCZ.out.c 12); have e13 := (World.cell?_of_block (a := ⟨gi, 13, none⟩) (hk gi HGB.out)).trans (HCZ.out.c 13); have e14 := (World.cell?_of_block (a := ⟨gi, 14, none⟩) (hk gi HGB.out)).trans (HCZ.out.c 14); simp only [gA, gB, gC] at e0 e1 e2 e3 e4 e5 e6 e7 e8 e9 e10 e11 e12 e13 e14; go_simp
  (try simp only [Act.put, zI, zJ, zK])
  refine tkI 1 273 (.bool false) ?_
  simp only [Act.put, zI, zJ, zK]
  refine tkI 2 274 (.bool false) ?_
  simp only [Act.put, zI, zJ, zK]
  refine tnI 3 275 ?_
  simp only [Act.put, zI, zJ, zK]
  refine tnI 4 276 ?_
  simp only [Act.put, zI, zJ, zK]
  refine tnI 5 277 ?_
  simp only [Act.put, zI, zJ, zK]
  refine tkI 6 278 (.bool false) ?_
  simp only [Act.put, zI, zJ, zK]
  refine rYI 7 fun K hK => ?_
  rw [if_pos (by rfl)]
  refine wp_store_row 40 (.tmp 2) (.tmp 272) rfl B #[str q1.1, .int .i64 q2.1, a2, a3, .slice A4 L4.length c4, a5, a6, a7, .int .i64 q8.1, a9, a10, .slice A12 L12.length c12, .slice A13 L13.length c13, .slice A15 q15.1.length c15, .int .i64 q14.1] rfl rfl 40 (cz [] 0 noS noS noS noS noS noS 0 noS noS noS noS noS 0) HBXZ.out Tryz.info_img rfl HONE.out ?_
  have HZ := hD (setRow_heap vz.drew B (cz [] 0 noS noS noS noS noS noS 0 noS noS noS noS noS 0) #[str q1.1, .int .i64 q2.1, a2, a3, .slice A4 L4.length c4, a5, a6, a7, .int .i64 q8.1, a9, a10, .slice A12 L12.length c12, .slice A13 L13.length c13, .slice A15 q15.1.length c15, .int .i64 q14.1] 40 (0, 0) HBXZ.out)
  refine hK.out _ _ ⟨#[str q1.1, .int .i64 q2.1, a2, a3, .slice A4 L4.length c4, a5, a6, a7, .int .i64 q8.1, a9, a10, .slice A12 L12.length c12, .slice A13 L13.length c13, .slice A15 q15.1.length c15, .int .i64 q14.1], rfl, HZ.out, fun k hk => setRow_other _ _ _ _ hk⟩ (fun hHeldZ => ?_)
  clear hK K
  refine tkI 8 3 (.bool false) ?_
  simp only [Act.put, zI, zJ, zK]
  refine wpAnyH_done (by kernel_rfl) ?_ _
  clear hHeldZ hHeld0
  have hBz := Bx.c (show Bx (World.setRow vz.drew B #[str q1.1, .int .i64 q2.1, a2, a3, .slice A4 L4.length c4, a5, a6, a7, .int .i64 q8.1, a9, a10, .slice A12 L12.length c12, .slice A13 L13.length c13, .slice A15 q15.1.length c15, .int .i64 q14.1]) B #[str q1.1, .int .i64 q2.1, a2, a3, .slice A4 L4.length c4, a5, a6, a7, .int .i64 q8.1, a9, a10, .slice A12 L12.length c12, .slice A13 L13.length c13, .slice A15 q15.1.length c15, .int .i64 q14.1] 40 from HZ.out)
  have e0 := hBz 0
  have e1 := hBz 1
  have e2 := hBz 2
  have e3 := hBz 3
  have e4 := hBz 4
  have e5 := hBz 5
  have e6 := hBz 6
  have e7 := hBz 7
  have e8 := hBz 8
  have e9 := hBz 9
  have e10 := hBz 10
  have e11 := hBz 11
  have e12 := hBz 12
  have e13 := hBz 13
  have e14 := hBz 14
  simp only [gA, gB, gC] at e0 e1 e2 e3 e4 e5 e6 e7 e8 e9 e10 e11 e12 e13 e14
  clear hBz
  have HBL := hD (show Below B w (World.setRow vz.drew B #[str q1.1, .int .i64 q2.1, a2, a3, .slice A4 L4.length c4, a5, a6, a7, .int .i64 q8.1, a9, a10, .slice A12 L12.length c12, .slice A13 L13.length c13, .slice A15 q15.1.length c15, .int .i64 q14.1]) from below_row (HZB.out.1.trans ((HZB.out.2.trans (Kr.of_below (drew_below vz))).to_below (Nat.le_of_lt HBX.out.lt) (Nat.le_of_lt HZG.out) (by have := HGB.out; have := HZG.out; have := HR96.out.lt; omega))) (Nat.le_refl _) _)
  generalize hwz : World.setRow vz.drew B #[str q1.1, .int .i64 q2.1, a2, a3, .slice A4 L4.length c4, a5, a6, a7, .int .i64 q8.1, a9, a10, .slice A12 L12.length c12, .slice A13 L13.length c13, .slice A15 q15.1.length c15, .int .i64 q14.1] = wz at *
  have HWZ := hD hwz
  clear hwz
  go_wp2_with fail
  refine bodyPost_ret (v := .tuple #[.agg #[str q1.1, .int .i64 q2.1, a2, a3, .slice A4 L4.length c4, a5, a6, a7, .int .i64 q8.1, a9, a10, .slice A12 L12.length c12, .slice A13 L13.length c13, .slice A15 q15.1.length c15, .int .i64 q14.1], .bool false]) ?_ rfl (Dread.of rfl HONE.out HST.out.im (by rw [HBW.out]; exact HBL.out) ?_ ?_)
  ·
   rw [results_cell_tmp rfl]; go_simp
  ·
   refine (read_ok (ok1 := false) HOK.out HOK1.out (fun h => HST.out.fine h |>.2.2.2.1) ?_)
   exact HST.out.flags
  ·
   intro hok; cases hok
end Go.Proofs.YtfljignkjmabpaaGreat
