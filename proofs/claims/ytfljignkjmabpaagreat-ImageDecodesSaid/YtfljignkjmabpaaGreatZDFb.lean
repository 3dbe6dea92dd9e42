/- A part of the proof. -/
import Derived.Test.YtfljignkjmabpaaGreatZDFa
set_option linter.unusedSimpArgs false
set_option linter.unusedVariables false
namespace Go.Proofs.YtfljignkjmabpaaGreat
set_option maxRecDepth 100000
open Go.RowKit
set_option maxHeartbeats 16000000 in
theorem dread_s10 {w w3 : World} {gi g B : Nat} {s0 : St} {ok0 : Bool} {q0 : Unit × Bool × St} {q1 : Str × St} {q2 : Int × St} {v9 : World} {a2 : Value} {wk3 : World} {q3 : List (Sg) × Bool × St} {a3 : Value} {wk4 : World} {q4 : List (Nd) × Bool × St} {A4 : Option Addr} {c4 : Nat} {L4 : List Str} {v27 : World} {q5 : List Str × Bool × St} {a5 : Value} {wk6 : World} {q6 : List (Sym) × Bool × St} {ok1 : Bool} {a6 : Value} {wk7 : World} {q7 : List (List Int) × Bool × St} {q8 : Int × St} {v45 : World} {a7 : Value} {wk9 : World} {q9 : List (UInt64) × Bool × St} {a9 : Value} {wk10 : World} {q10 : List (Rl) × Bool × St} {y0 y1 y7 y8 y9 ya yb yc yd ye yf yg yh yi yj yk yl ym yn yo yp yq yr ys yt yu yv yw yx yy yz yA yB yC yD yE yF yG yH yI yJ yK yL yM yN yO yP yQ yR yS yT yU yV yW yX yY yZ z0 z1 z2 z3 z4 z5 z6 z7 z8 z9 za zb zc zd ze zf zg zh zi zj zk zl zm zn zo zp zq zr zs zt zu zv zw zx zy zz zA zB zC zD zE zF zG zH zL zM zN zO zP zQ zR zS zT zU zV zW zX zY zZ x0 x1 x2 x3 x4 x5 x6 x7 x8 x9 xa xb xc xd xe xf xg xh xi xj xk xl xm xn xo xp xq xr xs xt xu xv xw xx xy xz xA xB xC xD xE xF xG xH xI xJ xK xL xM xN xO xP xQ xR xS xT xU xV xW xX xY xZ j0 j1 j2 j3 j4 j5 j6 j7 j8 j9 ja jb jc jd je jf jg jh ji jj jk jl jm jn jo jp jq jr js jt ju jv jw jx jy jz jA jB jC jD jE jF jG jH jI jJ jK jL jM jN jO jP jQ jR jS jT jU jV jW jX jY jZ u0 u1 u2 u3 u4 u5 u6 u7 u8 u9 ua ub uc ud ue uf ug uh ui uj uk ul um un uo up uq ur us ut uu uv uw ux : Value} (HBX : Hid (Bx w3 B (cz [] 0 noS noS noS noS noS noS 0 noS noS noS noS noS 0) 40)) (HB0 : Hid (Below B w w3)) (HZG : Hid (B < g)) (HBW : Hid (w.heap.size = B)) (HQ0 : Hid (rdMark s0 = q0)) (HOK : Hid (ok0 = !q0.2.1)) (HQ1 : Hid (rMeas 2 4096 q0.2.2 = q1)) (HQ2 : Hid (rNum 1 q1.2 = q2)) (HKN12 : Hid (Kr gi g w3 v9)) (HLT13 : Hid (g < v9.heap.size ∧ gi < v9.heap.size)) (HQ3 : Hid (rdList 1 rdSg q2.2 = q3)) (HOC3 : Hid (a2.oneCell' = true)) (HGL3 : Hid (q3.2.2.1 = 0 → GL sgA noSg datSg v9 wk3 4 a2 q3.1)) (HKN16 : Hid (Kr gi g v9 wk3)) (HLT17 : Hid (g < wk3.heap.size ∧ gi < wk3.heap.size)) (HKN19 : Hid (Kr gi g wk3 wk3)) (HLT20 : Hid (g < wk3.heap.size ∧ gi < wk3.heap.size)) (HQ4 : Hid (rdList 1 rdNd q3.2.2 = q4)) (HOC4 : Hid (a3.oneCell' = true)) (HGL4 : Hid (q4.2.2.1 = 0 → GL ndA noNd datNd wk3 wk4 2 a3 q4.1)) (HKN23 : Hid (Kr gi g wk3 wk4)) (HLT24 : Hid (g < wk4.heap.size ∧ gi < wk4.heap.size)) (HO4 : Hid (v27.ownsRow wk4.heap.size 9 1 (.slice A4 L4.length c4) L4.length (strs L4))) (HQ5 : Hid (rdTx q4.2.2 = q5)) (HV4 : Hid (q5.2.2.1 = 0 → L4 = q5.1)) (HKN30 : Hid (Kr gi g wk4 v27)) (HLT31 : Hid (g < v27.heap.size ∧ gi < v27.heap.size)) (HQ6 : Hid (rdList 2 rdSym q5.2.2 = q6)) (HOC6 : Hid (a5.oneCell' = true)) (HGL6 : Hid (q6.2.2.1 = 0 → GL (fun y _ => symA y) noSy datNo v27 wk6 9 a5 q6.1)) (HOK1 : Hid (q6.2.2.1 = 0 → ok1 = (ok0 && !q6.2.1))) (HKN34 : Hid (Kr gi g v27 wk6)) (HLT35 : Hid (g < wk6.heap.size ∧ gi < wk6.heap.size)) (HKN37 : Hid (Kr gi g wk6 wk6)) (HLT38 : Hid (g < wk6.heap.size ∧ gi < wk6.heap.size)) (HQ7 : Hid (rdList 2 rdRow q6.2.2 = q7)) (HOC7 : Hid (a6.oneCell' = true)) (HGL7 : Hid (q7.2.2.1 = 0 → GL (fun y b => #[.slice b.1 y.length b.2]) [] datRow wk6 wk7 1 a6 q7.1)) (HKN41 : Hid (Kr gi g wk6 wk7)) (HLT42 : Hid (g < wk7.heap.size ∧ gi < wk7.heap.size)) (HQ8 : Hid (rNum 1 q7.2.2 = q8)) (HKN48 : Hid (Kr gi g wk7 v45)) (HLT49 : Hid (g < v45.heap.size ∧ gi < v45.heap.size)) (HQ9 : Hid (rdList 1 rdWd q8.2 = q9)) (HOC9 : Hid (a7.oneCell' = true)) (HGL9 : Hid (q9.2.2.1 = 0 → GL (fun y _ => #[Siv.u64v y]) 0 datNo v45 wk9 1 a7 q9.1)) (HKN52 : Hid (Kr gi g v45 wk9)) (HLT53 : Hid (g < wk9.heap.size ∧ gi < wk9.heap.size)) (HKN55 : Hid (Kr gi g wk9 wk9)) (HLT56 : Hid (g < wk9.heap.size ∧ gi < wk9.heap.size)) (HQ10 : Hid (rdList 2 rdRl q9.2.2 = q10)) (HOC10 : Hid (a9.oneCell' = true)) (HGL10 : Hid (q10.2.2.1 = 0 → GL (fun y _ => rlA y) noRl datNo wk9 wk10 4 a9 q10.1)) (HKN59 : Hid (Kr gi g wk9 wk10)) (HLT60 : Hid (g < wk10.heap.size ∧ gi < wk10.heap.size)) (HR58 : Hid (Rc wk10 wk10 B g gi (cz q1.1 q2.1 a2 a3 ((.slice A4 L4.length c4)) a5 a6 a7 q8.1 a9 noS noS noS noS 0) q10.2.2)) :
  Code.wp Tryz.prog (seqTail 14 (Tryz.f19.body.getD .skip)) (bodyPost Tryz.prog Tryz.f19 (Dread w (rdIm s0))) ⟨#[y0, y1, .pointer (some ⟨B, 0, none⟩), .bool false, .pointer (some ⟨g, 0, none⟩), .pointer (some ⟨gi, 0, none⟩), .bool ok1, y7, y8, y9, ya, yb, yc, yd, ye, yf, yg, yh, yi, yj, yk, yl, ym, yn, yo, yp, yq, yr, ys, yt, yu, yv, yw, yx, yy, yz, yA, yB, yC, yD, yE, yF, yG, yH, yI, yJ, yK, yL, yM, yN, yO, yP, yQ, yR, yS, yT, yU, yV, yW, yX, yY, yZ, z0, z1, z2, z3, z4, z5, z6, z7, z8, z9, za, zb, zc, zd, ze, zf, zg, zh, zi, zj, zk, zl, zm, zn, zo, zp, zq, zr, zs, zt, zu, zv, zw, zx, zy, zz, zA, zB, zC, zD, zE, zF, zG, zH, zL, zM, zN, zO, zP, zQ, zR, zS, zT, zU, zV, zW, zX, zY, zZ, x0, x1, x2, x3, x4, x5, x6, x7, x8, x9, xa, xb, xc, xd, xe, xf, xg, xh, xi, xj, xk, xl, xm, xn, xo, xp, xq, xr, xs, xt, xu, xv, xw, xx, xy, xz, xA, xB, xC, xD, xE, xF, xG, xH, xI, xJ, xK, xL, xM, xN, xO, xP, xQ, xR, xS, xT, xU, xV, xW, xX, xY, xZ, j0, j1, j2, j3, j4, j5, j6, j7, j8, j9, ja, jb, jc, jd, je, jf, jg, jh, ji, jj, jk, jl, jm, jn, jo, jp, jq, jr, js, jt, ju, jv, jw, jx, jy, jz, jA, jB, jC, jD, jE, jF, jG, jH, jI, jJ, jK, jL, jM, jN, jO, jP, jQ, jR, jS, jT, jU, jV, jW, jX, jY, jZ, u0, u1, u2, u3, u4, u5, u6, u7, u8, u9, ua, ub, uc, ud, ue, uf, ug, uh, ui, uj, uk, ul, um, un, uo, up, uq, ur, us, ut, uu, uv, uw, ux], []⟩ wk10 := by
 conv => arg 2; whnf
 go_upto_region 43 with (fail)
 have HR61 := hD (HR58.out.rebase)
 have HKN62 := hD HR58.out.kr
 have HLT63 := hD (show g < wk10.heap.size ∧ gi < wk10.heap.size from ⟨Nat.lt_trans HR58.out.lt HR58.out.bx.lt, HR58.out.bx.lt⟩)
 clear HR58
 obtain ⟨N, u, hnn, hN⟩ := num_nat (size := 2) (by decide) (by decide) q10.2.2
 have HNN := hD hnn
 have HQ11 := hD (rdList_of (r := rdSl) hnn)
 clear hnn
 rename_i K1 ha1 K2 ha2
 have key : ∀ (y0 y1 y7 y8 y9 ya yb yc yd ye yf yg yh yi yj yk yl ym yn yo yp yq yr ys yt yu yv yw yx yy yz yA yB yC yD yE yF yG yH yI yJ yK yL yM yN yO yP yQ yR yS yT yU yV yW yX yY yZ z0 z1 z2 z3 z4 z5 z6 z7 z8 z9 za zb zc zd ze zf zg zh zi zj zk zl zm zn zo zp zq zr zs zt zu zv zw zx zy zz zA zB zC zD zE zF zG zH zL zM zN zO zP zQ zR zS zT zU zV zW zX zY zZ x0 x1 x2 x3 x4 x5 x6 x7 x8 x9 xa xb xc xd xe xf xg xh xi xj xk xl xm xn xo xp xq xr xs xt xu xv xw xx xy xz xA xB xC xD xE xF xG xH xI xJ xK xL xM xN xO xP xQ xR xS xT xU xV xW xX xY xZ j0 j1 j2 j3 j4 j5 j6 j7 j8 j9 ja jb jc jd je jf jg jh ji jj jk jl jm jn jo jp jq jr js jt ju jv jw jx jy jz jA jB jC jD jE jF jG jH jI jJ jK jL jM jN jO jP jQ jR jS jT jU jV jW jX jY jZ u0 u1 u2 u3 u4 u5 u6 u7 u8 u9 ua ub uc ud ue uf ug uh ui uj uk ul um un uo up uq ur us ut uu uv uw ux : Value) (wk11 : World) (a10 : Value) , a10.oneCell' = true → Rc wk10 wk11 B g gi (cz q1.1 q2.1 a2 a3 ((.slice A4 L4.length c4)) a5 a6 a7 q8.1 a9 a10 noS noS noS 0) (rdMany rdSl N u).2.2 → ((rdMany rdSl N u).2.2.1 = 0 → GL (fun y _ => slA y) noSl datNo wk10 wk11 3 a10 (rdMany rdSl N u).1) → K1 ⟨#[y0, y1, .pointer (some ⟨B, 0, none⟩), .bool false, .pointer (some ⟨g, 0, none⟩), .pointer (some ⟨gi, 0, none⟩), .bool ok1, y7, y8, y9, ya, yb, yc, yd, ye, yf, yg, yh, yi, yj, yk, yl, ym, yn, yo, yp, yq, yr, ys, yt, yu, yv, yw, yx, yy, yz, yA, yB, yC, yD, yE, yF, yG, yH, yI, yJ, yK, yL, yM, yN, yO, yP, yQ, yR, yS, yT, yU, yV, yW, yX, yY, yZ, z0, z1, z2, z3, z4, z5, z6, z7, z8, z9, za, zb, zc, zd, ze, zf, zg, zh, zi, zj, zk, zl, zm, zn, zo, zp, zq, zr, zs, zt, zu, zv, zw, zx, zy, zz, zA, zB, zC, zD, zE, zF, zG, zH, zL, zM, zN, zO, zP, zQ, zR, zS, zT, zU, zV, zW, zX, zY, zZ, x0, x1, x2, x3, x4, x5, x6, x7, x8, x9, xa, xb, xc, xd, xe, xf, xg, xh, xi, xj, xk, xl, xm, xn, xo, xp, xq, xr, xs, xt, xu, xv, xw, xx, xy, xz, xA, xB, xC, xD, xE, xF, xG, xH, xI, xJ, xK, xL, xM, xN, xO, xP, xQ, xR, xS, xT, xU, xV, xW, xX, xY, xZ, j0, j1, j2, j3, j4, j5, j6, j7, j8, j9, ja, jb, jc, jd, je, jf, jg, jh, ji, jj, jk, jl, jm, jn, jo, jp, jq, jr, js, jt, ju, jv, jw, jx, jy, jz, jA, jB, jC, jD, jE, jF, jG, jH, jI, jJ, jK, jL, jM, jN, jO, jP, jQ, jR, jS, jT, jU, jV, jW, jX, jY, jZ, u0, u1, u2, u3, u4, u5, u6, u7, u8, u9, ua, ub, uc, ud, ue, uf, ug, uh, ui, uj, uk, ul, um, un, uo, up, uq, ur, us, ut, uu, uv, uw, ux], []⟩ wk11 := by
  intros; rename_i wk11 a10 h0 h1 h2
  have HR64 := hD h1
  have HOC11 := hD h0
  have HGL11 := hD h2
  clear h0 h1 h2 ha2 K2 HR61 HNN hN
  generalize rdMany rdSl N u = q11 at *
  have HR65 := hD (HR64.out.rebase)
  have HKN66 := hD HR64.out.kr
  have HLT67 := hD (show g < wk11.heap.size ∧ gi < wk11.heap.size from ⟨Nat.lt_trans HR64.out.lt HR64.out.bx.lt, HR64.out.bx.lt⟩)
  clear HR64
  refine ha1 _ _ ?_
  exact dread_s11 HBX HB0 HZG HBW HQ0 HOK HQ1 HQ2 HKN12 HLT13 HQ3 HOC3 HGL3 HKN16 HLT17 HKN19 HLT20 HQ4 HOC4 HGL4 HKN23 HLT24 HO4 HQ5 HV4 HKN30 HLT31 HQ6 HOC6 HGL6 HOK1 HKN34 HLT35 HKN37 HLT38 HQ7 HOC7 HGL7 HKN41 HLT42 HQ8 HKN48 HLT49 HQ9 HOC9 HGL9 HKN52 HLT53 HKN55 HLT56 HQ10 HOC10 HGL10 HKN59 HLT60 HKN62 HLT63 HQ11 HOC11 HGL11 HKN66 HLT67 HR65
 clear ha1
 obtain ⟨i0, hi, hz0, hz1, hz2⟩ := info_parts Tryz.info_rlSlot
 have HN := hD (show Calls Tryz.prog 56 #[.pointer (some ⟨g, 0, none⟩), .int .i64 2] wk10 (fun e w' => e = .returned (.int .i64 (N : Int)) ∧ Rq w' B g u ∧ wk10.grownBy w' (some g)) from by have q := rnum_d HR61.out.rq 2; rw [HNN.out] at q; exact q)
 go_wp2_with (go_at_call 56; (with_reducible refine (HN.out).mono ?_); rintro en v97 ⟨rfl, hr, hg⟩; have HR98 := hD (HR61.out.call hr hg); clear hr hg)
 clear HN HNN
 rename_i xw1 xe1 xw2 vq hvq
 injection hvq with hvq
 subst hvq
 go_loopw [22] (fun t wr => ∃ k m : Nat, k + m = N ∧ t = .int .i64 (m : Int) ∧ LpR rdSl (fun y _ => slA y) noSl datNo wk10 B g gi (fun v => (cz q1.1 q2.1 a2 a3 ((.slice A4 L4.length c4)) a5 a6 a7 q8.1 a9 v noS noS noS 0)) 112 3 u k wr) (fun t _ => (intOf t).toNat)
 case atStart => exact ⟨0, N, by omega, rfl, LpR.start HR98.out⟩
 case round =>
  obtain ⟨k, m, hkm, rfl, hl⟩ := hrel
  have HL := hD hl
  have HKM := hD (show k + m = N ∧ N ≤ 65535 from ⟨hkm, hN⟩)
  obtain ⟨n, c, A, xs, hn, hrc, hown, hmk⟩ := hl
  have he := hrc.rq.e
  have HRC := hD hrc
  have HO := hD hown
  have HM := hD hmk
  have HN0 := hD hn
  have HGL := hD (show gi < wk10.heap.size ∧ g < wk10.heap.size from ⟨hrc.gt, Nat.lt_trans hrc.lt hrc.gt⟩)
  have HLW := hD (show gi < wr.heap.size ∧ g < wr.heap.size from ⟨hrc.bx.lt, Nat.lt_trans hrc.lt hrc.bx.lt⟩)
  clear HR98 HR61 hn hrc hown hmk hN hkm
  by_cases hlt : 0 < m
  ·
   by_cases h0 : (rdMany rdSl k u).2.2.1 = 0
   ·
    have HH0 := hD h0
    have HWM := hD (wrap_dec hlt HKM.out)
    rw [h0] at he
    clear h0 HL key
    obtain ⟨a, b, cc, s2, e2, e3⟩ := rdSl_at (rdMany rdSl k u).2.2
    have HE2 := hD e2
    have HE3 := hD e3
    clear e2 e3
    have HN := hD (show Calls Tryz.prog 57 #[.pointer (some ⟨g, 0, none⟩), .int .i64 3, .int .i64 4] wr _ from dlist_any B g (rdMany rdSl k u).2.2 4 3 wr HRC.out.rq (by omega))
    rw [HE2.out] at HN
    go_upto_region 47 with (go_at_call 57; (with_reducible refine (HN.out).mono ?_); rintro en x4 ⟨Ax, cx, Lx, rfl, ho, hl, hr, hv, hg⟩; have HR5 := hD (HRC.out.call hr hg); have HX := hD ho; have HLX := hD hl; have HVX := hD hv; have HK5 := hD (Kr.of_grown (gi := gi) hg); clear hr hg ho hl hv)
    clear HN
    rcases three_of HLX.out with ⟨a1, b1, c1, rfl⟩ | hlt2
    ·
     obtain ⟨qx, rfl, hq, hql, hcx⟩ := ints_cells HX.out (by simp)
     have hqw : wr.heap.size ≤ qx := hq
     have HC0 := hD (show x4.cell? ⟨qx, 0, none⟩ = some (.int .i64 a1) from hcx 0 (by simp))
     have HC1 := hD (show x4.cell? ⟨qx, 1, none⟩ = some (.int .i64 b1) from hcx 1 (by simp))
     have HC2 := hD (show x4.cell? ⟨qx, 2, none⟩ = some (.int .i64 c1) from hcx 2 (by simp))
     have HF := hD (show ∀ X, Sv g (row A) x4 X → X.cell? ⟨gi, 10, none⟩ = some (.slice A n c) ∧ X.cell? ⟨qx, 0, none⟩ = some (.int .i64 a1) ∧ X.cell? ⟨qx, 1, none⟩ = some (.int .i64 b1) ∧ X.cell? ⟨qx, 2, none⟩ = some (.int .i64 c1) from fun X hX => ⟨hX.cell (HR5.out.bx.c 10) (by have := HRC.out.lt; simp only; omega) (fun e => by have := (HO.out.lt gi (by rw [row_own]; exact e.symm)).1; have := HRC.out.gt; omega), hX.cell HC0.out (by have := HLW.out.2; simp only; omega) (fun e => by have := (HO.out.lt qx (by rw [row_own]; exact e.symm)).2; omega), hX.cell HC1.out (by have := HLW.out.2; simp only; omega) (fun e => by have := (HO.out.lt qx (by rw [row_own]; exact e.symm)).2; omega), hX.cell HC2.out (by have := HLW.out.2; simp only; omega) (fun e => by have := (HO.out.lt qx (by rw [row_own]; exact e.symm)).2; omega)⟩)
     clear hq hql hcx hqw
     go_upto_region 48 with (fail)
     have HB4 := hD (show Below x4.heap.size x4 (x4.drew.alloc (.cells #[.int .i64 a1, .int .i64 b1, .int .i64 c1] 112)) from (drew_below x4).trans (((Below.refl _ _).alloc (Nat.le_refl _) _).mono (Nat.le_refl _)))
     have HR4 := hD (HR5.out.below HB4.out)
     have HK4 := hD (HK5.out.trans (Kr.of_below HB4.out))
     have HOA := hD (own_kr HO.out HK4.out HGL.out.1 HGL.out.2)
     have HNW := hD (World.news_of_block (Bx.new x4.drew #[.int .i64 a1, .int .i64 b1, .int .i64 c1] 112))
     have hn0 := HN0.out
     have hkm' := HKM.out
     have m1 : n + 1 ≤ maxLen := by simp only [maxLen]; omega
     have m2 : (n + 1) * 24 ≤ 140737488355328 := Nat.le_trans (Nat.mul_le_mul_right 24 (show n + 1 ≤ 100000 by omega)) (Nat.le_of_ble_eq_true rfl)
     have HBS := hD (show wk10.heap.size ≤ (x4.drew.alloc (.cells #[.int .i64 a1, .int .i64 b1, .int .i64 c1] 112)).heap.size from Nat.le_trans HRC.out.kr.size HK4.out.size)
     have HBX4 := hD HR4.out.bx
     clear hn0 hkm'
     refine UpTo.region 15 (Sv g (row A) x4) (by kernel_rfl) (Sv.drew _ _ _) (fun hHeld => ?_)
     refine tU 0 238 (.pointer (some ⟨gi, 10, none⟩)) ?_
     simp only [Act.put, zI, zJ, zK]
     refine tV 1 239 (.slice A n c) ?_ ?_
     ·
      intro X hX; obtain ⟨f0, f1, f2, f3⟩ := HF.out X hX; go_simp
     (try simp only [Act.put, zI, zJ, zK])
     refine tU 2 240 (.slice (some ⟨qx, 0, none⟩) 3 cx) ?_
     simp only [Act.put, zI, zJ, zK]
     refine tU 3 241 (.pointer (some ⟨qx, 0, none⟩)) ?_
     simp only [Act.put, zI, zJ, zK]
     refine tV 4 242 (.int .i64 a1) ?_ ?_
     ·
      intro X hX; obtain ⟨f0, f1, f2, f3⟩ := HF.out X hX; go_simp
     (try simp only [Act.put, zI, zJ, zK])
     refine tU 5 243 (.slice (some ⟨qx, 0, none⟩) 3 cx) ?_
     simp only [Act.put, zI, zJ, zK]
     refine tU 6 244 (.pointer (some ⟨qx, 1, none⟩)) ?_
     simp only [Act.put, zI, zJ, zK]
     refine tV 7 245 (.int .i64 b1) ?_ ?_
     ·
      intro X hX; obtain ⟨f0, f1, f2, f3⟩ := HF.out X hX; go_simp
     (try simp only [Act.put, zI, zJ, zK])
     refine tU 8 246 (.slice (some ⟨qx, 0, none⟩) 3 cx) ?_
     simp only [Act.put, zI, zJ, zK]
     refine tU 9 247 (.pointer (some ⟨qx, 2, none⟩)) ?_
     simp only [Act.put, zI, zJ, zK]
     refine tV 10 248 (.int .i64 c1) ?_ ?_
     ·
      intro X hX; obtain ⟨f0, f1, f2, f3⟩ := HF.out X hX; go_simp
     (try simp only [Act.put, zI, zJ, zK])
     refine tU 11 249 (.agg #[.int .i64 a1, .int .i64 b1, .int .i64 c1]) ?_
     simp only [Act.put, zI, zJ, zK]
     refine UpTo.step (i := 12) (by kernel_rfl) rfl (fun K hK => ?_)
     go_simp
     refine hK.out _ _ (hHeld.alloc _) (fun hHeld => ?_)
     clear hK K
     (try simp only [Act.put, zI, zJ, zK])
     refine UpTo.step (i := 13) (by kernel_rfl) rfl (fun K hK => ?_)
     refine step_append_lies _ rfl (.tmp 239) (.tmp 250) 37 rfl wk10.heap.size 112 i0 _ 3 24 Tryz.underlying37 hi hz0 hz1 hz2 rfl (by decide) (.slice A n c) n xs (by rfl) HOA.out ⟨x4.heap.size, 0, none⟩ 1 1 (#[.int .i64 a1, .int .i64 b1, .int .i64 c1] : Array Value).toList (by rfl) (by rfl) (by exact HNW.out) (by simp [Value.oneCell']) (by decide) m1 m2 HBS.out _ rfl ?_
     intro g5 c5 w5 hown hgr hat hlt5
     refine hK.out _ _ (hHeld.row (row_own A n c ▸ hgr)) (fun hHeld => ?_)
     clear hK K
     have HO5 := hD hown
     have HG5 := hD hgr
     have HAT := hD hat
     have k0 : w5.cell? ⟨gi, 10, none⟩ = some (.slice A n c) := (hgr.cell_far _ HBX4.out.lt (fun e => by have := (HOA.out.lt gi e.symm).1; have := HGL.out.1; omega)).trans (HBX4.out.c 10)
     have k1 : w5.frozen? ⟨gi, 10, none⟩ = false := (hgr.frozen_far _ HBX4.out.lt (fun e => by have := (HOA.out.lt gi e.symm).1; have := HGL.out.1; omega)).trans (HBX4.out.f 10)
     clear hown hgr hat hlt5
     (try simp only [Act.put, zI, zJ, zK])
     refine tU 14 252 (.pointer (some ⟨gi, 10, none⟩)) ?_
     simp only [Act.put, zI, zJ, zK]
     refine UpTo.last (by kernel_rfl) rfl (by kernel_rfl) (fun K hK => ?_)
     go_simp
     refine hK.out _ _ ?_
     clear hK K
     go_wp2_with fail
     go_roundw
     case rel => exact ⟨k + 1, m - 1, by have := HKM.out; omega, by rw [HWM.out], LpR.push stays_no (fun _ _ => rfl) HRC.out HO.out (HM.out HH0.out) HN0.out HK4.out HR4.out (by rw [HE3.out]) HG5.out HO5.out HAT.out (fun hz => by have e1 := HVX.out hz; simp only [List.cons.injEq, and_true] at e1; obtain ⟨rfl, rfl, rfl⟩ := e1; rw [HE3.out]; exact ⟨(none, 0), rfl, trivial⟩)⟩
     case measure => simp only [intOf, HWM.out, Int.toNat_natCast]; omega
    ·
     have hl2 : ((Lx.length : Int) == 3) = false := beq_eq_false_iff_ne.2 (by omega)
     go_wp2_with fail
     go_roundw
     case rel => exact ⟨k + 1, m - 1, by have := HKM.out; omega, by rw [HWM.out], LpR.skip HR5.out (by rw [HE3.out]) (own_kr HO.out HK5.out HGL.out.1 HGL.out.2) HN0.out (fun hz => by have e1 := HVX.out hz; rw [e1] at hlt2; simp at hlt2)⟩
     case measure => simp only [intOf, HWM.out, Int.toNat_natCast]; omega
   ·
    have he0 : ((rdMany rdSl k u).2.2.1 == 0) = false := by simpa using h0
    obtain ⟨va, x0, x1, x2⟩ := HL.out.exit (N := N) clean_sl stays_no (fun _ _ => rfl) (by have := HKM.out; omega) (.inr h0)
    have X0 := hD x0
    have X1 := hD x1
    have X2 := hD x2
    clear x0 x1 x2 h0 HL
    go_wp2_with fail
    apply key
    ·
     exact X0.out
    ·
     exact X1.out
    ·
     exact X2.out
  ·
   obtain rfl : m = 0 := by omega
   obtain rfl : k = N := by have := HKM.out; omega
   obtain ⟨va, x0, x1, x2⟩ := HL.out.exit (N := k) clean_sl stays_no (fun _ _ => rfl) (Nat.le_refl _) (.inl rfl)
   have X0 := hD x0
   have X1 := hD x1
   have X2 := hD x2
   clear x0 x1 x2 HL
   go_wp2_with fail
   apply key
   ·
    exact X0.out
   ·
    exact X1.out
   ·
    exact X2.out
end Go.Proofs.YtfljignkjmabpaaGreat
