/- A part of the proof. -/
import Derived.Test.YtfljignkjmabpaaGreatZDFc
set_option linter.unusedSimpArgs false
set_option linter.unusedVariables false
namespace Go.Proofs.YtfljignkjmabpaaGreat
set_option maxRecDepth 100000
open Go.RowKit
set_option maxHeartbeats 16000000 in
theorem dread_s7 {w w3 : World} {gi g B : Nat} {s0 : St} {ok0 : Bool} {q0 : Unit × Bool × St} {q1 : Str × St} {q2 : Int × St} {v9 : World} {a2 : Value} {wk3 : World} {q3 : List (Sg) × Bool × St} {a3 : Value} {wk4 : World} {q4 : List (Nd) × Bool × St} {A4 : Option Addr} {c4 : Nat} {L4 : List Str} {v27 : World} {q5 : List Str × Bool × St} {a5 : Value} {wk6 : World} {q6 : List (Sym) × Bool × St} {ok1 : Bool} {a6 : Value} {wk7 : World} {q7 : List (List Int) × Bool × St} {y0 y1 y7 y8 y9 ya yb yc yd ye yf yg yh yi yj yk yl ym yn yo yp yq yr ys yt yu yv yw yx yy yz yA yB yC yD yE yF yG yH yI yJ yK yL yM yN yO yP yQ yR yS yT yU yV yW yX yY yZ z0 z1 z2 z3 z4 z5 z6 z7 z8 z9 za zb zc zd ze zf zg zh zi zj zk zl zm zn zo zp zq zr zs zt zu zv zw zx zy zz zA zB zC zD zE zF zG zH zL zM zN zO zP zQ zR zS zT zU zV zW zX zY zZ x0 x1 x2 x3 x4 x5 x6 x7 x8 x9 xa xb xc xd xe xf xg xh xi xj xk xl xm xn xo xp xq xr xs xt xu xv xw xx xy xz xA xB xC xD xE xF xG xH xI xJ xK xL xM xN xO xP xQ xR xS xT xU xV xW xX xY xZ j0 j1 j2 j3 j4 j5 j6 j7 j8 j9 ja jb jc jd je jf jg jh ji jj jk jl jm jn jo jp jq jr js jt ju jv jw jx jy jz jA jB jC jD jE jF jG jH jI jJ jK jL jM jN jO jP jQ jR jS jT jU jV jW jX jY jZ u0 u1 u2 u3 u4 u5 u6 u7 u8 u9 ua ub uc ud ue uf ug uh ui uj uk ul um un uo up uq ur us ut uu uv uw ux : Value} (HBX : Hid (Bx w3 B (cz [] 0 noS noS noS noS noS noS 0 noS noS noS noS noS 0) 40)) (HB0 : Hid (Below B w w3)) (HZG : Hid (B < g)) (HBW : Hid (w.heap.size = B)) (HQ0 : Hid (rdMark s0 = q0)) (HOK : Hid (ok0 = !q0.2.1)) (HQ1 : Hid (rMeas 2 4096 q0.2.2 = q1)) (HQ2 : Hid (rNum 1 q1.2 = q2)) (HKN12 : Hid (Kr gi g w3 v9)) (HLT13 : Hid (g < v9.heap.size ∧ gi < v9.heap.size)) (HQ3 : Hid (rdList 1 rdSg q2.2 = q3)) (HOC3 : Hid (a2.oneCell' = true)) (HGL3 : Hid (q3.2.2.1 = 0 → GL sgA noSg datSg v9 wk3 4 a2 q3.1)) (HKN16 : Hid (Kr gi g v9 wk3)) (HLT17 : Hid (g < wk3.heap.size ∧ gi < wk3.heap.size)) (HKN19 : Hid (Kr gi g wk3 wk3)) (HLT20 : Hid (g < wk3.heap.size ∧ gi < wk3.heap.size)) (HQ4 : Hid (rdList 1 rdNd q3.2.2 = q4)) (HOC4 : Hid (a3.oneCell' = true)) (HGL4 : Hid (q4.2.2.1 = 0 → GL ndA noNd datNd wk3 wk4 2 a3 q4.1)) (HKN23 : Hid (Kr gi g wk3 wk4)) (HLT24 : Hid (g < wk4.heap.size ∧ gi < wk4.heap.size)) (HO4 : Hid (v27.ownsRow wk4.heap.size 9 1 (.slice A4 L4.length c4) L4.length (strs L4))) (HQ5 : Hid (rdTx q4.2.2 = q5)) (HV4 : Hid (q5.2.2.1 = 0 → L4 = q5.1)) (HKN30 : Hid (Kr gi g wk4 v27)) (HLT31 : Hid (g < v27.heap.size ∧ gi < v27.heap.size)) (HQ6 : Hid (rdList 2 rdSym q5.2.2 = q6)) (HOC6 : Hid (a5.oneCell' = true)) (HGL6 : Hid (q6.2.2.1 = 0 → GL (fun y _ => symA y) noSy datNo v27 wk6 9 a5 q6.1)) (HOK1 : Hid (q6.2.2.1 = 0 → ok1 = (ok0 && !q6.2.1))) (HKN34 : Hid (Kr gi g v27 wk6)) (HLT35 : Hid (g < wk6.heap.size ∧ gi < wk6.heap.size)) (HKN37 : Hid (Kr gi g wk6 wk6)) (HLT38 : Hid (g < wk6.heap.size ∧ gi < wk6.heap.size)) (HQ7 : Hid (rdList 2 rdRow q6.2.2 = q7)) (HOC7 : Hid (a6.oneCell' = true)) (HGL7 : Hid (q7.2.2.1 = 0 → GL (fun y b => #[.slice b.1 y.length b.2]) [] datRow wk6 wk7 1 a6 q7.1)) (HKN41 : Hid (Kr gi g wk6 wk7)) (HLT42 : Hid (g < wk7.heap.size ∧ gi < wk7.heap.size)) (HR40 : Hid (Rc wk7 wk7 B g gi (cz q1.1 q2.1 a2 a3 ((.slice A4 L4.length c4)) a5 a6 noS 0 noS noS noS noS noS 0) q7.2.2)) :
  Code.wp Tryz.prog (seqTail 11 (Tryz.f19.body.getD .skip)) (bodyPost Tryz.prog Tryz.f19 (Dread w (rdIm s0))) ⟨#[y0, y1, .pointer (some ⟨B, 0, none⟩), .bool false, .pointer (some ⟨g, 0, none⟩), .pointer (some ⟨gi, 0, none⟩), .bool ok1, y7, y8, y9, ya, yb, yc, yd, ye, yf, yg, yh, yi, yj, yk, yl, ym, yn, yo, yp, yq, yr, ys, yt, yu, yv, yw, yx, yy, yz, yA, yB, yC, yD, yE, yF, yG, yH, yI, yJ, yK, yL, yM, yN, yO, yP, yQ, yR, yS, yT, yU, yV, yW, yX, yY, yZ, z0, z1, z2, z3, z4, z5, z6, z7, z8, z9, za, zb, zc, zd, ze, zf, zg, zh, zi, zj, zk, zl, zm, zn, zo, zp, zq, zr, zs, zt, zu, zv, zw, zx, zy, zz, zA, zB, zC, zD, zE, zF, zG, zH, zL, zM, zN, zO, zP, zQ, zR, zS, zT, zU, zV, zW, zX, zY, zZ, x0, x1, x2, x3, x4, x5, x6, x7, x8, x9, xa, xb, xc, xd, xe, xf, xg, xh, xi, xj, xk, xl, xm, xn, xo, xp, xq, xr, xs, xt, xu, xv, xw, xx, xy, xz, xA, xB, xC, xD, xE, xF, xG, xH, xI, xJ, xK, xL, xM, xN, xO, xP, xQ, xR, xS, xT, xU, xV, xW, xX, xY, xZ, j0, j1, j2, j3, j4, j5, j6, j7, j8, j9, ja, jb, jc, jd, je, jf, jg, jh, ji, jj, jk, jl, jm, jn, jo, jp, jq, jr, js, jt, ju, jv, jw, jx, jy, jz, jA, jB, jC, jD, jE, jF, jG, jH, jI, jJ, jK, jL, jM, jN, jO, jP, jQ, jR, jS, jT, jU, jV, jW, jX, jY, jZ, u0, u1, u2, u3, u4, u5, u6, u7, u8, u9, ua, ub, uc, ud, ue, uf, ug, uh, ui, uj, uk, ul, um, un, uo, up, uq, ur, us, ut, uu, uv, uw, ux], []⟩ wk7 := by
 conv => arg 2; whnf
 have HN := hD (rnum_d HR40.out.rq 1)
 go_upto_region 32 with (go_at_call 56; (with_reducible refine (HN.out).mono ?_); rintro en v43 ⟨rfl, hr, hg⟩; have HR44 := hD (HR40.out.call hr hg); have k0 : v43.cell? ⟨gi, 8, none⟩ = some (.int .i64 0) := HR44.out.bx.c 8; have k1 := HR44.out.bx.f 8; clear hr hg)
 have HR46 := hD (show Rc wk7 (v43.setCell ⟨gi, 8, none⟩ (.int .i64 (rNum 1 q7.2.2).1)) B g gi (cz q1.1 q2.1 a2 a3 ((.slice A4 L4.length c4)) a5 a6 noS ((rNum 1 q7.2.2).1) noS noS noS noS noS 0) _ from HR44.out.set 8 (.int .i64 (rNum 1 q7.2.2).1))
 change Code.wp _ _ _ _ (v43.setCell ⟨gi, 8, none⟩ (.int .i64 (rNum 1 q7.2.2).1))
 generalize v43.setCell ⟨gi, 8, none⟩ (.int .i64 (rNum 1 q7.2.2).1) = v45 at *
 clear k0 k1 HR44 HN HR40
 generalize hq8 : rNum 1 q7.2.2 = q8 at *
 have HQ8 := hD hq8
 clear hq8
 have HR47 := hD (HR46.out.rebase)
 have HKN48 := hD HR46.out.kr
 have HLT49 := hD (show g < v45.heap.size ∧ gi < v45.heap.size from ⟨Nat.lt_trans HR46.out.lt HR46.out.bx.lt, HR46.out.bx.lt⟩)
 clear HR46
 obtain ⟨N, u, hnn, hN⟩ := num_nat (size := 1) (by decide) (by decide) q8.2
 have HNN := hD hnn
 have HQ9 := hD (rdList_of (r := rdWd) hnn)
 clear hnn
 rename_i K1 ha1 K2 ha2
 have key : ∀ (y0 y1 y7 y8 y9 ya yb yc yd ye yf yg yh yi yj yk yl ym yn yo yp yq yr ys yt yu yv yw yx yy yz yA yB yC yD yE yF yG yH yI yJ yK yL yM yN yO yP yQ yR yS yT yU yV yW yX yY yZ z0 z1 z2 z3 z4 z5 z6 z7 z8 z9 za zb zc zd ze zf zg zh zi zj zk zl zm zn zo zp zq zr zs zt zu zv zw zx zy zz zA zB zC zD zE zF zG zH zL zM zN zO zP zQ zR zS zT zU zV zW zX zY zZ x0 x1 x2 x3 x4 x5 x6 x7 x8 x9 xa xb xc xd xe xf xg xh xi xj xk xl xm xn xo xp xq xr xs xt xu xv xw xx xy xz xA xB xC xD xE xF xG xH xI xJ xK xL xM xN xO xP xQ xR xS xT xU xV xW xX xY xZ j0 j1 j2 j3 j4 j5 j6 j7 j8 j9 ja jb jc jd je jf jg jh ji jj jk jl jm jn jo jp jq jr js jt ju jv jw jx jy jz jA jB jC jD jE jF jG jH jI jJ jK jL jM jN jO jP jQ jR jS jT jU jV jW jX jY jZ u0 u1 u2 u3 u4 u5 u6 u7 u8 u9 ua ub uc ud ue uf ug uh ui uj uk ul um un uo up uq ur us ut uu uv uw ux : Value) (wk9 : World) (a7 : Value) , a7.oneCell' = true → Rc v45 wk9 B g gi (cz q1.1 q2.1 a2 a3 ((.slice A4 L4.length c4)) a5 a6 a7 q8.1 noS noS noS noS noS 0) (rdMany rdWd N u).2.2 → ((rdMany rdWd N u).2.2.1 = 0 → GL (fun y _ => #[Siv.u64v y]) 0 datNo v45 wk9 1 a7 (rdMany rdWd N u).1) → K1 ⟨#[y0, y1, .pointer (some ⟨B, 0, none⟩), .bool false, .pointer (some ⟨g, 0, none⟩), .pointer (some ⟨gi, 0, none⟩), .bool ok1, y7, y8, y9, ya, yb, yc, yd, ye, yf, yg, yh, yi, yj, yk, yl, ym, yn, yo, yp, yq, yr, ys, yt, yu, yv, yw, yx, yy, yz, yA, yB, yC, yD, yE, yF, yG, yH, yI, yJ, yK, yL, yM, yN, yO, yP, yQ, yR, yS, yT, yU, yV, yW, yX, yY, yZ, z0, z1, z2, z3, z4, z5, z6, z7, z8, z9, za, zb, zc, zd, ze, zf, zg, zh, zi, zj, zk, zl, zm, zn, zo, zp, zq, zr, zs, zt, zu, zv, zw, zx, zy, zz, zA, zB, zC, zD, zE, zF, zG, zH, zL, zM, zN, zO, zP, zQ, zR, zS, zT, zU, zV, zW, zX, zY, zZ, x0, x1, x2, x3, x4, x5, x6, x7, x8, x9, xa, xb, xc, xd, xe, xf, xg, xh, xi, xj, xk, xl, xm, xn, xo, xp, xq, xr, xs, xt, xu, xv, xw, xx, xy, xz, xA, xB, xC, xD, xE, xF, xG, xH, xI, xJ, xK, xL, xM, xN, xO, xP, xQ, xR, xS, xT, xU, xV, xW, xX, xY, xZ, j0, j1, j2, j3, j4, j5, j6, j7, j8, j9, ja, jb, jc, jd, je, jf, jg, jh, ji, jj, jk, jl, jm, jn, jo, jp, jq, jr, js, jt, ju, jv, jw, jx, jy, jz, jA, jB, jC, jD, jE, jF, jG, jH, jI, jJ, jK, jL, jM, jN, jO, jP, jQ, jR, jS, jT, jU, jV, jW, jX, jY, jZ, u0, u1, u2, u3, u4, u5, u6, u7, u8, u9, ua, ub, uc, ud, ue, uf, ug, uh, ui, uj, uk, ul, um, un, uo, up, uq, ur, us, ut, uu, uv, uw, ux], []⟩ wk9 := by
  intros; rename_i wk9 a7 h0 h1 h2
  have HR50 := hD h1
  have HOC9 := hD h0
  have HGL9 := hD h2
  clear h0 h1 h2 ha2 K2 HR47 HNN hN
  generalize rdMany rdWd N u = q9 at *
  have HR51 := hD (HR50.out.rebase)
  have HKN52 := hD HR50.out.kr
  have HLT53 := hD (show g < wk9.heap.size ∧ gi < wk9.heap.size from ⟨Nat.lt_trans HR50.out.lt HR50.out.bx.lt, HR50.out.bx.lt⟩)
  clear HR50
  refine ha1 _ _ ?_
  exact dread_s9 HBX HB0 HZG HBW HQ0 HOK HQ1 HQ2 HKN12 HLT13 HQ3 HOC3 HGL3 HKN16 HLT17 HKN19 HLT20 HQ4 HOC4 HGL4 HKN23 HLT24 HO4 HQ5 HV4 HKN30 HLT31 HQ6 HOC6 HGL6 HOK1 HKN34 HLT35 HKN37 HLT38 HQ7 HOC7 HGL7 HKN41 HLT42 HQ8 HKN48 HLT49 HQ9 HOC9 HGL9 HKN52 HLT53 HR51
 clear ha1
 obtain ⟨i0, hi, hz0, hz1, hz2⟩ := info_parts Tryz.info_rlWord
 have HN := hD (show Calls Tryz.prog 56 #[.pointer (some ⟨g, 0, none⟩), .int .i64 1] v45 (fun e w' => e = .returned (.int .i64 (N : Int)) ∧ Rq w' B g u ∧ v45.grownBy w' (some g)) from by have q := rnum_d HR47.out.rq 1; rw [HNN.out] at q; exact q)
 go_wp2_with (go_at_call 56; (with_reducible refine (HN.out).mono ?_); rintro en v101 ⟨rfl, hr, hg⟩; have HR102 := hD (HR47.out.call hr hg); clear hr hg)
 clear HN HNN
 rename_i xw1 xe1 xw2 vq hvq
 injection hvq with hvq
 subst hvq
 go_loopw [18] (fun t wr => ∃ k m : Nat, k + m = N ∧ t = .int .i64 (m : Int) ∧ LpR rdWd (fun y _ => #[Siv.u64v y]) 0 datNo v45 B g gi (fun v => (cz q1.1 q2.1 a2 a3 ((.slice A4 L4.length c4)) a5 a6 v q8.1 noS noS noS noS noS 0)) 52 1 u k wr) (fun t _ => (intOf t).toNat)
 case atStart => exact ⟨0, N, by omega, rfl, LpR.start HR102.out⟩
 case round =>
  obtain ⟨k, m, hkm, rfl, hl⟩ := hrel
  have HL := hD hl
  have HKM := hD (show k + m = N ∧ N ≤ 65535 from ⟨hkm, hN⟩)
  obtain ⟨n, c, A, xs, hn, hrc, hown, hmk⟩ := hl
  have he := hrc.rq.e
  have HRC := hD hrc
  have HO := hD hown
  have HM := hD hmk
  have HN0 := hD hn
  have HGL := hD (show gi < v45.heap.size ∧ g < v45.heap.size from ⟨hrc.gt, Nat.lt_trans hrc.lt hrc.gt⟩)
  have HLW := hD (show gi < wr.heap.size ∧ g < wr.heap.size from ⟨hrc.bx.lt, Nat.lt_trans hrc.lt hrc.bx.lt⟩)
  clear HR102 HR47 hn hrc hown hmk hN hkm
  by_cases hlt : 0 < m
  ·
   by_cases h0 : (rdMany rdWd k u).2.2.1 = 0
   ·
    have HH0 := hD h0
    have HWM := hD (wrap_dec hlt HKM.out)
    rw [h0] at he
    clear h0 HL key
    obtain ⟨nn, s1, e1, e2⟩ := rdWd_at (rdMany rdWd k u).2.2
    have HE1 := hD e1
    have HE2 := hD e2
    clear e1 e2
    have HRd := hD (HRC.out.below (drew_below wr))
    have HN := hD (show Calls Tryz.prog 56 #[.pointer (some ⟨g, 0, none⟩), .int .i64 8] wr.drew (fun e w' => e = .returned (.int .i64 nn) ∧ Rq w' B g s1 ∧ wr.drew.grownBy w' (some g)) from by have q := rnum_d HRd.out.rq 8; rw [HE1.out] at q; exact q)
    go_upto_region 35 with (fail)
    have HF := hD (show ∀ X, Sv g (row A) wr X → X.cell? ⟨gi, 7, none⟩ = some (.slice A n c) from fun X hX => hX.cell (HRC.out.bx.c 7) (by have := HRC.out.lt; simp only; omega) (fun e => by have := (HO.out.lt gi (by rw [row_own]; exact e.symm)).1; have := HRC.out.gt; omega))
    refine UpTo.region 12 (Sv g (row A) wr) (by kernel_rfl) (Sv.drew _ _ _) (fun hHeld => ?_)
    refine tU 0 172 (.pointer (some ⟨gi, 6, none⟩)) ?_
    simp only [Act.put, zI, zJ, zK]
    refine tU 1 173 (.pointer (some ⟨gi, 7, none⟩)) ?_
    simp only [Act.put, zI, zJ, zK]
    refine tU 2 174 (.pointer (some ⟨gi, 7, none⟩)) ?_
    simp only [Act.put, zI, zJ, zK]
    refine tV 3 175 (.slice A n c) ?_ ?_
    ·
     intro X hX; have f0 := HF.out X hX; go_simp
    (try simp only [Act.put, zI, zJ, zK])
    refine tU 4 176 (.pointer (some ⟨g, 0, none⟩)) ?_
    simp only [Act.put, zI, zJ, zK]
    refine UpTo.step (i := 5) (by kernel_rfl) rfl (fun K hK => ?_)
    go_simp
    refine (HN.out).mono ?_
    rintro en x4 ⟨rfl, hr, hg⟩
    go_simp
    refine hK.out _ _ (hHeld.grown hg) (fun hHeld => ?_)
    clear hK K
    (try simp only [Act.put, zI, zJ, zK])
    have HR5 := hD (HRd.out.call hr hg)
    have HK5 := hD ((Kr.of_below (G := gi) (g := g) (drew_below wr)).trans (Kr.of_grown (gi := gi) hg))
    clear hr hg
    have HB4 := hD (show Below x4.heap.size x4 (x4.alloc (.cells #[.int .u64 (nn % 18446744073709551616)] 52)) from (Below.refl _ _).alloc (Nat.le_refl _) _)
    have HR4 := hD (HR5.out.below HB4.out)
    have HK4 := hD (HK5.out.trans (Kr.of_below HB4.out))
    have HOA := hD (own_kr HO.out HK4.out HGL.out.1 HGL.out.2)
    have HNW := hD (World.news_of_block (Bx.new x4 #[.int .u64 (nn % 18446744073709551616)] 52))
    have hn0 := HN0.out
    have hkm' := HKM.out
    have m1 : n + 1 ≤ maxLen := by simp only [maxLen]; omega
    have m2 : (n + 1) * 8 ≤ 140737488355328 := Nat.le_trans (Nat.mul_le_mul_right 8 (show n + 1 ≤ 100000 by omega)) (Nat.le_of_ble_eq_true rfl)
    have HBS := hD (show v45.heap.size ≤ (x4.alloc (.cells #[.int .u64 (nn % 18446744073709551616)] 52)).heap.size from Nat.le_trans HRC.out.kr.size HK4.out.size)
    have HBX4 := hD HR4.out.bx
    clear hn0 hkm'
    refine tV 6 178 (.int .u64 (nn % 18446744073709551616)) ?_ ?_
    ·
     intro X hX; go_simp; rw [IntKind.wrap_u64]
    (try simp only [Act.put, zI, zJ, zK])
    refine UpTo.step (i := 7) (by kernel_rfl) rfl (fun K hK => ?_)
    go_simp
    refine hK.out _ _ (hHeld.alloc _) (fun hHeld => ?_)
    clear hK K
    (try simp only [Act.put, zI, zJ, zK])
    refine UpTo.step (i := 8) (by kernel_rfl) rfl (fun K hK => ?_)
    refine step_append_lies _ rfl (.tmp 175) (.tmp 179) 31 rfl v45.heap.size 52 i0 _ 1 8 Tryz.underlying31 hi hz0 hz1 hz2 rfl (by decide) (.slice A n c) n xs (by rfl) HOA.out ⟨x4.heap.size, 0, none⟩ 1 1 (#[.int .u64 (nn % 18446744073709551616)] : Array Value).toList (by rfl) (by rfl) (by exact HNW.out) (by simp [Value.oneCell']) (by decide) m1 m2 HBS.out _ rfl ?_
    intro g5 c5 w5 hown hgr hat hlt5
    refine hK.out _ _ (hHeld.row (row_own A n c ▸ hgr)) (fun hHeld => ?_)
    clear hK K
    have HO5 := hD hown
    have HG5 := hD hgr
    have HAT := hD hat
    have k0 : w5.cell? ⟨gi, 7, none⟩ = some (.slice A n c) := (hgr.cell_far _ HBX4.out.lt (fun e => by have := (HOA.out.lt gi e.symm).1; have := HGL.out.1; omega)).trans (HBX4.out.c 7)
    have k1 : w5.frozen? ⟨gi, 7, none⟩ = false := (hgr.frozen_far _ HBX4.out.lt (fun e => by have := (HOA.out.lt gi e.symm).1; have := HGL.out.1; omega)).trans (HBX4.out.f 7)
    clear hown hgr hat hlt5
    (try simp only [Act.put, zI, zJ, zK])
    refine UpTo.step (i := 9) (by kernel_rfl) rfl (fun K hK => ?_)
    go_simp
    refine hK.out _ _ hHeld (fun hHeld => ?_)
    clear hK K
    (try simp only [Act.put, zI, zJ, zK])
    refine UpTo.step (i := 10) (by kernel_rfl) rfl (fun K hK => ?_)
    go_simp
    refine hK.out _ _ hHeld (fun hHeld => ?_)
    clear hK K
    (try simp only [Act.put, zI, zJ, zK])
    refine tU 11 183 (.pointer (some ⟨gi, 7, none⟩)) ?_
    simp only [Act.put, zI, zJ, zK]
    refine UpTo.last (by kernel_rfl) rfl (by kernel_rfl) (fun K hK => ?_)
    go_simp
    refine hK.out _ _ ?_
    clear hK K
    go_wp2_with fail
    go_roundw
    case rel => exact ⟨k + 1, m - 1, by have := HKM.out; omega, by rw [HWM.out], LpR.push stays_no (fun _ _ => rfl) HRC.out HO.out (HM.out HH0.out) HN0.out HK4.out HR4.out (by rw [HE2.out]) HG5.out HO5.out HAT.out (fun hz => by rw [HE2.out]; exact ⟨(none, 0), by unfold Siv.u64v; rw [toU_nat], trivial⟩)⟩
    case measure => simp only [intOf, HWM.out, Int.toNat_natCast]; omega
   ·
    have he0 : ((rdMany rdWd k u).2.2.1 == 0) = false := by simpa using h0
    obtain ⟨va, x0, x1, x2⟩ := HL.out.exit (N := N) clean_wd stays_no (fun _ _ => rfl) (by have := HKM.out; omega) (.inr h0)
    have X0 := hD x0
    have X1 := hD x1
    have X2 := hD x2
    clear x0 x1 x2 h0 HL
    go_wp2_with fail
    apply key
    ·
     exact X0.out
    ·
     exact X1.out
    ·
     exact X2.out
  ·
   obtain rfl : m = 0 := by omega
   obtain rfl : k = N := by have := HKM.out; omega
   obtain ⟨va, x0, x1, x2⟩ := HL.out.exit (N := k) clean_wd stays_no (fun _ _ => rfl) (Nat.le_refl _) (.inl rfl)
   have X0 := hD x0
   have X1 := hD x1
   have X2 := hD x2
   clear x0 x1 x2 HL
   go_wp2_with fail
   apply key
   ·
    exact X0.out
   ·
    exact X1.out
   ·
    exact X2.out
end Go.Proofs.YtfljignkjmabpaaGreat
namespace Go.Proofs.YtfljignkjmabpaaGreat
set_option maxRecDepth 100000
open Go.RowKit
set_option maxHeartbeats 16000000 in
theorem dread_s6 {w w3 : World} {gi g B : Nat} {s0 : St} {ok0 : Bool} {q0 : Unit × Bool × St} {q1 : Str × St} {q2 : Int × St} {v9 : World} {a2 : Value} {wk3 : World} {q3 : List (Sg) × Bool × St} {a3 : Value} {wk4 : World} {q4 : List (Nd) × Bool × St} {A4 : Option Addr} {c4 : Nat} {L4 : List Str} {v27 : World} {q5 : List Str × Bool × St} {a5 : Value} {wk6 : World} {q6 : List (Sym) × Bool × St} {ok1 : Bool} {y0 y1 y7 y8 y9 ya yb yc yd ye yf yg yh yi yj yk yl ym yn yo yp yq yr ys yt yu yv yw yx yy yz yA yB yC yD yE yF yG yH yI yJ yK yL yM yN yO yP yQ yR yS yT yU yV yW yX yY yZ z0 z1 z2 z3 z4 z5 z6 z7 z8 z9 za zb zc zd ze zf zg zh zi zj zk zl zm zn zo zp zq zr zs zt zu zv zw zx zy zz zA zB zC zD zE zF zG zH zL zM zN zO zP zQ zR zS zT zU zV zW zX zY zZ x0 x1 x2 x3 x4 x5 x6 x7 x8 x9 xa xb xc xd xe xf xg xh xi xj xk xl xm xn xo xp xq xr xs xt xu xv xw xx xy xz xA xB xC xD xE xF xG xH xI xJ xK xL xM xN xO xP xQ xR xS xT xU xV xW xX xY xZ j0 j1 j2 j3 j4 j5 j6 j7 j8 j9 ja jb jc jd je jf jg jh ji jj jk jl jm jn jo jp jq jr js jt ju jv jw jx jy jz jA jB jC jD jE jF jG jH jI jJ jK jL jM jN jO jP jQ jR jS jT jU jV jW jX jY jZ u0 u1 u2 u3 u4 u5 u6 u7 u8 u9 ua ub uc ud ue uf ug uh ui uj uk ul um un uo up uq ur us ut uu uv uw ux : Value} (HBX : Hid (Bx w3 B (cz [] 0 noS noS noS noS noS noS 0 noS noS noS noS noS 0) 40)) (HB0 : Hid (Below B w w3)) (HZG : Hid (B < g)) (HBW : Hid (w.heap.size = B)) (HQ0 : Hid (rdMark s0 = q0)) (HOK : Hid (ok0 = !q0.2.1)) (HQ1 : Hid (rMeas 2 4096 q0.2.2 = q1)) (HQ2 : Hid (rNum 1 q1.2 = q2)) (HKN12 : Hid (Kr gi g w3 v9)) (HLT13 : Hid (g < v9.heap.size ∧ gi < v9.heap.size)) (HQ3 : Hid (rdList 1 rdSg q2.2 = q3)) (HOC3 : Hid (a2.oneCell' = true)) (HGL3 : Hid (q3.2.2.1 = 0 → GL sgA noSg datSg v9 wk3 4 a2 q3.1)) (HKN16 : Hid (Kr gi g v9 wk3)) (HLT17 : Hid (g < wk3.heap.size ∧ gi < wk3.heap.size)) (HKN19 : Hid (Kr gi g wk3 wk3)) (HLT20 : Hid (g < wk3.heap.size ∧ gi < wk3.heap.size)) (HQ4 : Hid (rdList 1 rdNd q3.2.2 = q4)) (HOC4 : Hid (a3.oneCell' = true)) (HGL4 : Hid (q4.2.2.1 = 0 → GL ndA noNd datNd wk3 wk4 2 a3 q4.1)) (HKN23 : Hid (Kr gi g wk3 wk4)) (HLT24 : Hid (g < wk4.heap.size ∧ gi < wk4.heap.size)) (HO4 : Hid (v27.ownsRow wk4.heap.size 9 1 (.slice A4 L4.length c4) L4.length (strs L4))) (HQ5 : Hid (rdTx q4.2.2 = q5)) (HV4 : Hid (q5.2.2.1 = 0 → L4 = q5.1)) (HKN30 : Hid (Kr gi g wk4 v27)) (HLT31 : Hid (g < v27.heap.size ∧ gi < v27.heap.size)) (HQ6 : Hid (rdList 2 rdSym q5.2.2 = q6)) (HOC6 : Hid (a5.oneCell' = true)) (HGL6 : Hid (q6.2.2.1 = 0 → GL (fun y _ => symA y) noSy datNo v27 wk6 9 a5 q6.1)) (HOK1 : Hid (q6.2.2.1 = 0 → ok1 = (ok0 && !q6.2.1))) (HKN34 : Hid (Kr gi g v27 wk6)) (HLT35 : Hid (g < wk6.heap.size ∧ gi < wk6.heap.size)) (HR33 : Hid (Rc wk6 wk6 B g gi (cz q1.1 q2.1 a2 a3 ((.slice A4 L4.length c4)) a5 noS noS 0 noS noS noS noS noS 0) q6.2.2)) :
  Code.wp Tryz.prog (seqTail 10 (Tryz.f19.body.getD .skip)) (bodyPost Tryz.prog Tryz.f19 (Dread w (rdIm s0))) ⟨#[y0, y1, .pointer (some ⟨B, 0, none⟩), .bool false, .pointer (some ⟨g, 0, none⟩), .pointer (some ⟨gi, 0, none⟩), .bool ok1, y7, y8, y9, ya, yb, yc, yd, ye, yf, yg, yh, yi, yj, yk, yl, ym, yn, yo, yp, yq, yr, ys, yt, yu, yv, yw, yx, yy, yz, yA, yB, yC, yD, yE, yF, yG, yH, yI, yJ, yK, yL, yM, yN, yO, yP, yQ, yR, yS, yT, yU, yV, yW, yX, yY, yZ, z0, z1, z2, z3, z4, z5, z6, z7, z8, z9, za, zb, zc, zd, ze, zf, zg, zh, zi, zj, zk, zl, zm, zn, zo, zp, zq, zr, zs, zt, zu, zv, zw, zx, zy, zz, zA, zB, zC, zD, zE, zF, zG, zH, zL, zM, zN, zO, zP, zQ, zR, zS, zT, zU, zV, zW, zX, zY, zZ, x0, x1, x2, x3, x4, x5, x6, x7, x8, x9, xa, xb, xc, xd, xe, xf, xg, xh, xi, xj, xk, xl, xm, xn, xo, xp, xq, xr, xs, xt, xu, xv, xw, xx, xy, xz, xA, xB, xC, xD, xE, xF, xG, xH, xI, xJ, xK, xL, xM, xN, xO, xP, xQ, xR, xS, xT, xU, xV, xW, xX, xY, xZ, j0, j1, j2, j3, j4, j5, j6, j7, j8, j9, ja, jb, jc, jd, je, jf, jg, jh, ji, jj, jk, jl, jm, jn, jo, jp, jq, jr, js, jt, ju, jv, jw, jx, jy, jz, jA, jB, jC, jD, jE, jF, jG, jH, jI, jJ, jK, jL, jM, jN, jO, jP, jQ, jR, jS, jT, jU, jV, jW, jX, jY, jZ, u0, u1, u2, u3, u4, u5, u6, u7, u8, u9, ua, ub, uc, ud, ue, uf, ug, uh, ui, uj, uk, ul, um, un, uo, up, uq, ur, us, ut, uu, uv, uw, ux], []⟩ wk6 := by
 conv => arg 2; whnf
 go_upto_region 26 with (fail)
 have HR36 := hD (HR33.out.rebase)
 have HKN37 := hD HR33.out.kr
 have HLT38 := hD (show g < wk6.heap.size ∧ gi < wk6.heap.size from ⟨Nat.lt_trans HR33.out.lt HR33.out.bx.lt, HR33.out.bx.lt⟩)
 clear HR33
 obtain ⟨N, u, hnn, hN⟩ := num_nat (size := 2) (by decide) (by decide) q6.2.2
 have HNN := hD hnn
 have HQ7 := hD (rdList_of (r := rdRow) hnn)
 clear hnn
 rename_i K1 ha1 K2 ha2
 have key : ∀ (y0 y1 y7 y8 y9 ya yb yc yd ye yf yg yh yi yj yk yl ym yn yo yp yq yr ys yt yu yv yw yx yy yz yA yB yC yD yE yF yG yH yI yJ yK yL yM yN yO yP yQ yR yS yT yU yV yW yX yY yZ z0 z1 z2 z3 z4 z5 z6 z7 z8 z9 za zb zc zd ze zf zg zh zi zj zk zl zm zn zo zp zq zr zs zt zu zv zw zx zy zz zA zB zC zD zE zF zG zH zL zM zN zO zP zQ zR zS zT zU zV zW zX zY zZ x0 x1 x2 x3 x4 x5 x6 x7 x8 x9 xa xb xc xd xe xf xg xh xi xj xk xl xm xn xo xp xq xr xs xt xu xv xw xx xy xz xA xB xC xD xE xF xG xH xI xJ xK xL xM xN xO xP xQ xR xS xT xU xV xW xX xY xZ j0 j1 j2 j3 j4 j5 j6 j7 j8 j9 ja jb jc jd je jf jg jh ji jj jk jl jm jn jo jp jq jr js jt ju jv jw jx jy jz jA jB jC jD jE jF jG jH jI jJ jK jL jM jN jO jP jQ jR jS jT jU jV jW jX jY jZ u0 u1 u2 u3 u4 u5 u6 u7 u8 u9 ua ub uc ud ue uf ug uh ui uj uk ul um un uo up uq ur us ut uu uv uw ux : Value) (wk7 : World) (a6 : Value) , a6.oneCell' = true → Rc wk6 wk7 B g gi (cz q1.1 q2.1 a2 a3 ((.slice A4 L4.length c4)) a5 a6 noS 0 noS noS noS noS noS 0) (rdMany rdRow N u).2.2 → ((rdMany rdRow N u).2.2.1 = 0 → GL (fun y b => #[.slice b.1 y.length b.2]) [] datRow wk6 wk7 1 a6 (rdMany rdRow N u).1) → K1 ⟨#[y0, y1, .pointer (some ⟨B, 0, none⟩), .bool false, .pointer (some ⟨g, 0, none⟩), .pointer (some ⟨gi, 0, none⟩), .bool ok1, y7, y8, y9, ya, yb, yc, yd, ye, yf, yg, yh, yi, yj, yk, yl, ym, yn, yo, yp, yq, yr, ys, yt, yu, yv, yw, yx, yy, yz, yA, yB, yC, yD, yE, yF, yG, yH, yI, yJ, yK, yL, yM, yN, yO, yP, yQ, yR, yS, yT, yU, yV, yW, yX, yY, yZ, z0, z1, z2, z3, z4, z5, z6, z7, z8, z9, za, zb, zc, zd, ze, zf, zg, zh, zi, zj, zk, zl, zm, zn, zo, zp, zq, zr, zs, zt, zu, zv, zw, zx, zy, zz, zA, zB, zC, zD, zE, zF, zG, zH, zL, zM, zN, zO, zP, zQ, zR, zS, zT, zU, zV, zW, zX, zY, zZ, x0, x1, x2, x3, x4, x5, x6, x7, x8, x9, xa, xb, xc, xd, xe, xf, xg, xh, xi, xj, xk, xl, xm, xn, xo, xp, xq, xr, xs, xt, xu, xv, xw, xx, xy, xz, xA, xB, xC, xD, xE, xF, xG, xH, xI, xJ, xK, xL, xM, xN, xO, xP, xQ, xR, xS, xT, xU, xV, xW, xX, xY, xZ, j0, j1, j2, j3, j4, j5, j6, j7, j8, j9, ja, jb, jc, jd, je, jf, jg, jh, ji, jj, jk, jl, jm, jn, jo, jp, jq, jr, js, jt, ju, jv, jw, jx, jy, jz, jA, jB, jC, jD, jE, jF, jG, jH, jI, jJ, jK, jL, jM, jN, jO, jP, jQ, jR, jS, jT, jU, jV, jW, jX, jY, jZ, u0, u1, u2, u3, u4, u5, u6, u7, u8, u9, ua, ub, uc, ud, ue, uf, ug, uh, ui, uj, uk, ul, um, un, uo, up, uq, ur, us, ut, uu, uv, uw, ux], []⟩ wk7 := by
  intros; rename_i wk7 a6 h0 h1 h2
  have HR39 := hD h1
  have HOC7 := hD h0
  have HGL7 := hD h2
  clear h0 h1 h2 ha2 K2 HR36 HNN hN
  generalize rdMany rdRow N u = q7 at *
  have HR40 := hD (HR39.out.rebase)
  have HKN41 := hD HR39.out.kr
  have HLT42 := hD (show g < wk7.heap.size ∧ gi < wk7.heap.size from ⟨Nat.lt_trans HR39.out.lt HR39.out.bx.lt, HR39.out.bx.lt⟩)
  clear HR39
  refine ha1 _ _ ?_
  exact dread_s7 HBX HB0 HZG HBW HQ0 HOK HQ1 HQ2 HKN12 HLT13 HQ3 HOC3 HGL3 HKN16 HLT17 HKN19 HLT20 HQ4 HOC4 HGL4 HKN23 HLT24 HO4 HQ5 HV4 HKN30 HLT31 HQ6 HOC6 HGL6 HOK1 HKN34 HLT35 HKN37 HLT38 HQ7 HOC7 HGL7 HKN41 HLT42 HR40
 clear ha1
 obtain ⟨i0, hi, hz0, hz1, hz2⟩ := info_parts Tryz.info_rlRow
 have HN := hD (show Calls Tryz.prog 56 #[.pointer (some ⟨g, 0, none⟩), .int .i64 2] wk6 (fun e w' => e = .returned (.int .i64 (N : Int)) ∧ Rq w' B g u ∧ wk6.grownBy w' (some g)) from by have q := rnum_d HR36.out.rq 2; rw [HNN.out] at q; exact q)
 go_wp2_with (go_at_call 56; (with_reducible refine (HN.out).mono ?_); rintro en v103 ⟨rfl, hr, hg⟩; have HR104 := hD (HR36.out.call hr hg); clear hr hg)
 clear HN HNN
 rename_i xw1 xe1 xw2 vq hvq
 injection hvq with hvq
 subst hvq
 go_loopw [16] (fun t wr => ∃ k m : Nat, k + m = N ∧ t = .int .i64 (m : Int) ∧ LpR rdRow (fun y b => #[.slice b.1 y.length b.2]) [] datRow wk6 B g gi (fun v => (cz q1.1 q2.1 a2 a3 ((.slice A4 L4.length c4)) a5 v noS 0 noS noS noS noS noS 0)) 38 1 u k wr) (fun t _ => (intOf t).toNat)
 case atStart => exact ⟨0, N, by omega, rfl, LpR.start HR104.out⟩
 case round =>
  obtain ⟨k, m, hkm, rfl, hl⟩ := hrel
  have HL := hD hl
  have HKM := hD (show k + m = N ∧ N ≤ 65535 from ⟨hkm, hN⟩)
  obtain ⟨n, c, A, xs, hn, hrc, hown, hmk⟩ := hl
  have he := hrc.rq.e
  have HRC := hD hrc
  have HO := hD hown
  have HM := hD hmk
  have HN0 := hD hn
  have HGL := hD (show gi < wk6.heap.size ∧ g < wk6.heap.size from ⟨hrc.gt, Nat.lt_trans hrc.lt hrc.gt⟩)
  have HLW := hD (show gi < wr.heap.size ∧ g < wr.heap.size from ⟨hrc.bx.lt, Nat.lt_trans hrc.lt hrc.bx.lt⟩)
  clear HR104 HR36 hn hrc hown hmk hN hkm
  by_cases hlt : 0 < m
  ·
   by_cases h0 : (rdMany rdRow k u).2.2.1 = 0
   ·
    have HH0 := hD h0
    have HWM := hD (wrap_dec hlt HKM.out)
    rw [h0] at he
    clear h0 HL key
    obtain ⟨kk, vs, bb, s1, s2, e1, hkk, e2, e3⟩ := rdRow_at (rdMany rdRow k u).2.2
    have HE1 := hD e1
    have HE2 := hD e2
    have HE3 := hD e3
    have HKK := hD hkk
    clear e1 e2 e3 hkk
    have HN := hD (show Calls Tryz.prog 56 #[.pointer (some ⟨g, 0, none⟩), .int .i64 2] wr (fun e w' => e = .returned (.int .i64 (kk : Int)) ∧ Rq w' B g s1 ∧ wr.grownBy w' (some g)) from by have q := rnum_d HRC.out.rq 2; rw [HE1.out] at q; exact q)
    go_upto_region 30 with (go_at_call 56; (with_reducible refine (HN.out).mono ?_); rintro en x2 ⟨rfl, hr, hg⟩; have HR2 := hD ((HRC.out.call hr hg)); have HK2 := hD (Kr.of_grown (gi := gi) hg); clear hr hg)
    clear HN
    have HR2d := hD (HR2.out.below (drew_below x2))
    have HN := hD (dlist_any B g s1 2 kk x2.drew HR2d.out.rq (by have := HKK.out; omega))
    rw [HE2.out] at HN
    have HF := hD (show ∀ X, Sv g (row A) x2 X → X.cell? ⟨gi, 6, none⟩ = some (.slice A n c) from fun X hX => hX.cell (HR2.out.bx.c 6) (by have := HRC.out.lt; simp only; omega) (fun e => by have := (HO.out.lt gi (by rw [row_own]; exact e.symm)).1; have := HRC.out.gt; omega))
    refine UpTo.region 10 (Sv g (row A) x2) (by kernel_rfl) (Sv.drew _ _ _) (fun hHeld => ?_)
    refine tU 0 144 (.pointer (some ⟨gi, 6, none⟩)) ?_
    simp only [Act.put, zI, zJ, zK]
    refine tU 1 145 (.pointer (some ⟨gi, 6, none⟩)) ?_
    simp only [Act.put, zI, zJ, zK]
    refine tV 2 146 (.slice A n c) ?_ ?_
    ·
     intro X hX; have f0 := HF.out X hX; go_simp
    (try simp only [Act.put, zI, zJ, zK])
    refine tU 3 147 (.pointer (some ⟨g, 0, none⟩)) ?_
    simp only [Act.put, zI, zJ, zK]
    refine tU 4 148 (.int .i64 (kk : Int)) ?_
    simp only [Act.put, zI, zJ, zK]
    refine UpTo.step (i := 5) (by kernel_rfl) rfl (fun K hK => ?_)
    go_simp
    refine (HN.out).mono ?_
    rintro en x4 ⟨Av, cv, Lv, rfl, ho, hl, hr, hv, hg⟩
    go_simp
    refine hK.out _ _ (hHeld.grown hg) (fun hHeld => ?_)
    clear hK K
    (try simp only [Act.put, zI, zJ, zK])
    have HR5 := hD (HR2d.out.call hr hg)
    have HK5 := hD ((HK2.out.trans (Kr.of_below (drew_below x2))).trans (Kr.of_grown (gi := gi) hg))
    have HD5 := hD ho
    have HV5 := hD hv
    clear hr hg ho hv hl
    have HB4 := hD (show Below x4.heap.size x4 (x4.alloc (.cells #[.slice Av Lv.length cv] 38)) from (Below.refl _ _).alloc (Nat.le_refl _) _)
    have HR4 := hD (HR5.out.below HB4.out)
    have HK4 := hD (HK5.out.trans (Kr.of_below HB4.out))
    have HOA := hD (own_kr HO.out HK4.out HGL.out.1 HGL.out.2)
    have HNW := hD (World.news_of_block (Bx.new x4 #[.slice Av Lv.length cv] 38))
    have hn0 := HN0.out
    have hkm' := HKM.out
    have m1 : n + 1 ≤ maxLen := by simp only [maxLen]; omega
    have m2 : (n + 1) * 24 ≤ 140737488355328 := Nat.le_trans (Nat.mul_le_mul_right 24 (show n + 1 ≤ 100000 by omega)) (Nat.le_of_ble_eq_true rfl)
    have HBS := hD (show wk6.heap.size ≤ (x4.alloc (.cells #[.slice Av Lv.length cv] 38)).heap.size from Nat.le_trans HRC.out.kr.size HK4.out.size)
    have HBX4 := hD HR4.out.bx
    clear hn0 hkm'
    refine UpTo.step (i := 6) (by kernel_rfl) rfl (fun K hK => ?_)
    go_simp
    refine hK.out _ _ (hHeld.alloc _) (fun hHeld => ?_)
    clear hK K
    (try simp only [Act.put, zI, zJ, zK])
    refine UpTo.step (i := 7) (by kernel_rfl) rfl (fun K hK => ?_)
    refine step_append_lies _ rfl (.tmp 146) (.tmp 150) 30 rfl wk6.heap.size 38 i0 _ 1 24 Tryz.underlying30 hi hz0 hz1 hz2 rfl (by decide) (.slice A n c) n xs (by rfl) HOA.out ⟨x4.heap.size, 0, none⟩ 1 1 (#[.slice Av Lv.length cv] : Array Value).toList (by rfl) (by rfl) (by exact HNW.out) (by simp [Value.oneCell']) (by decide) m1 m2 HBS.out _ rfl ?_
    intro g5 c5 w5 hown hgr hat hlt5
    refine hK.out _ _ (hHeld.row (row_own A n c ▸ hgr)) (fun hHeld => ?_)
    clear hK K
    have HO5 := hD hown
    have HG5 := hD hgr
    have HAT := hD hat
    have k0 : w5.cell? ⟨gi, 6, none⟩ = some (.slice A n c) := (hgr.cell_far _ HBX4.out.lt (fun e => by have := (HOA.out.lt gi e.symm).1; have := HGL.out.1; omega)).trans (HBX4.out.c 6)
    have k1 : w5.frozen? ⟨gi, 6, none⟩ = false := (hgr.frozen_far _ HBX4.out.lt (fun e => by have := (HOA.out.lt gi e.symm).1; have := HGL.out.1; omega)).trans (HBX4.out.f 6)
    clear hown hgr hat hlt5
    (try simp only [Act.put, zI, zJ, zK])
    refine UpTo.step (i := 8) (by kernel_rfl) rfl (fun K hK => ?_)
    go_simp
    refine hK.out _ _ hHeld (fun hHeld => ?_)
    clear hK K
    (try simp only [Act.put, zI, zJ, zK])
    refine tU 9 153 (.pointer (some ⟨gi, 6, none⟩)) ?_
    simp only [Act.put, zI, zJ, zK]
    refine UpTo.last (by kernel_rfl) rfl (by kernel_rfl) (fun K hK => ?_)
    go_simp
    refine hK.out _ _ ?_
    clear hK K
    go_wp2_with fail
    go_roundw
    case rel => exact ⟨k + 1, m - 1, by have := HKM.out; omega, by rw [HWM.out], LpR.push stays_row (fun _ _ => rfl) HRC.out HO.out (HM.out HH0.out) HN0.out HK4.out HR4.out (by rw [HE3.out]) HG5.out HO5.out HAT.out (fun hz => by obtain rfl := HV5.out hz; rw [HE3.out]; exact ⟨(Av, cv), rfl, src_fresh HD5.out HB4.out HK2.out.size⟩)⟩
    case measure => simp only [intOf, HWM.out, Int.toNat_natCast]; omega
   ·
    have he0 : ((rdMany rdRow k u).2.2.1 == 0) = false := by simpa using h0
    obtain ⟨va, x0, x1, x2⟩ := HL.out.exit (N := N) clean_row stays_row (fun _ _ => rfl) (by have := HKM.out; omega) (.inr h0)
    have X0 := hD x0
    have X1 := hD x1
    have X2 := hD x2
    clear x0 x1 x2 h0 HL
    go_wp2_with fail
    apply key
    ·
     exact X0.out
    ·
     exact X1.out
    ·
     exact X2.out
  ·
   obtain rfl : m = 0 := by omega
   obtain rfl : k = N := by have := HKM.out; omega
   obtain ⟨va, x0, x1, x2⟩ := HL.out.exit (N := k) clean_row stays_row (fun _ _ => rfl) (Nat.le_refl _) (.inl rfl)
   have X0 := hD x0
   have X1 := hD x1
   have X2 := hD x2
   clear x0 x1 x2 HL
   go_wp2_with fail
   apply key
   ·
    exact X0.out
   ·
    exact X1.out
   ·
    exact X2.out
end Go.Proofs.YtfljignkjmabpaaGreat
namespace Go.Proofs.YtfljignkjmabpaaGreat
set_option maxRecDepth 100000
open Go.RowKit
set_option maxHeartbeats 16000000 in
theorem dread_s4 {w w3 : World} {gi g B : Nat} {s0 : St} {ok0 : Bool} {q0 : Unit × Bool × St} {q1 : Str × St} {q2 : Int × St} {v9 : World} {a2 : Value} {wk3 : World} {q3 : List (Sg) × Bool × St} {a3 : Value} {wk4 : World} {q4 : List (Nd) × Bool × St} {y0 y1 y7 y8 y9 ya yb yc yd ye yf yg yh yi yj yk yl ym yn yo yp yq yr ys yt yu yv yw yx yy yz yA yB yC yD yE yF yG yH yI yJ yK yL yM yN yO yP yQ yR yS yT yU yV yW yX yY yZ z0 z1 z2 z3 z4 z5 z6 z7 z8 z9 za zb zc zd ze zf zg zh zi zj zk zl zm zn zo zp zq zr zs zt zu zv zw zx zy zz zA zB zC zD zE zF zG zH zL zM zN zO zP zQ zR zS zT zU zV zW zX zY zZ x0 x1 x2 x3 x4 x5 x6 x7 x8 x9 xa xb xc xd xe xf xg xh xi xj xk xl xm xn xo xp xq xr xs xt xu xv xw xx xy xz xA xB xC xD xE xF xG xH xI xJ xK xL xM xN xO xP xQ xR xS xT xU xV xW xX xY xZ j0 j1 j2 j3 j4 j5 j6 j7 j8 j9 ja jb jc jd je jf jg jh ji jj jk jl jm jn jo jp jq jr js jt ju jv jw jx jy jz jA jB jC jD jE jF jG jH jI jJ jK jL jM jN jO jP jQ jR jS jT jU jV jW jX jY jZ u0 u1 u2 u3 u4 u5 u6 u7 u8 u9 ua ub uc ud ue uf ug uh ui uj uk ul um un uo up uq ur us ut uu uv uw ux : Value} (HBX : Hid (Bx w3 B (cz [] 0 noS noS noS noS noS noS 0 noS noS noS noS noS 0) 40)) (HB0 : Hid (Below B w w3)) (HZG : Hid (B < g)) (HBW : Hid (w.heap.size = B)) (HQ0 : Hid (rdMark s0 = q0)) (HOK : Hid (ok0 = !q0.2.1)) (HQ1 : Hid (rMeas 2 4096 q0.2.2 = q1)) (HQ2 : Hid (rNum 1 q1.2 = q2)) (HKN12 : Hid (Kr gi g w3 v9)) (HLT13 : Hid (g < v9.heap.size ∧ gi < v9.heap.size)) (HQ3 : Hid (rdList 1 rdSg q2.2 = q3)) (HOC3 : Hid (a2.oneCell' = true)) (HGL3 : Hid (q3.2.2.1 = 0 → GL sgA noSg datSg v9 wk3 4 a2 q3.1)) (HKN16 : Hid (Kr gi g v9 wk3)) (HLT17 : Hid (g < wk3.heap.size ∧ gi < wk3.heap.size)) (HKN19 : Hid (Kr gi g wk3 wk3)) (HLT20 : Hid (g < wk3.heap.size ∧ gi < wk3.heap.size)) (HQ4 : Hid (rdList 1 rdNd q3.2.2 = q4)) (HOC4 : Hid (a3.oneCell' = true)) (HGL4 : Hid (q4.2.2.1 = 0 → GL ndA noNd datNd wk3 wk4 2 a3 q4.1)) (HKN23 : Hid (Kr gi g wk3 wk4)) (HLT24 : Hid (g < wk4.heap.size ∧ gi < wk4.heap.size)) (HR22 : Hid (Rc wk4 wk4 B g gi (cz q1.1 q2.1 a2 a3 noS noS noS noS 0 noS noS noS noS noS 0) q4.2.2)) :
  Code.wp Tryz.prog (seqTail 8 (Tryz.f19.body.getD .skip)) (bodyPost Tryz.prog Tryz.f19 (Dread w (rdIm s0))) ⟨#[y0, y1, .pointer (some ⟨B, 0, none⟩), .bool false, .pointer (some ⟨g, 0, none⟩), .pointer (some ⟨gi, 0, none⟩), .bool ok0, y7, y8, y9, ya, yb, yc, yd, ye, yf, yg, yh, yi, yj, yk, yl, ym, yn, yo, yp, yq, yr, ys, yt, yu, yv, yw, yx, yy, yz, yA, yB, yC, yD, yE, yF, yG, yH, yI, yJ, yK, yL, yM, yN, yO, yP, yQ, yR, yS, yT, yU, yV, yW, yX, yY, yZ, z0, z1, z2, z3, z4, z5, z6, z7, z8, z9, za, zb, zc, zd, ze, zf, zg, zh, zi, zj, zk, zl, zm, zn, zo, zp, zq, zr, zs, zt, zu, zv, zw, zx, zy, zz, zA, zB, zC, zD, zE, zF, zG, zH, zL, zM, zN, zO, zP, zQ, zR, zS, zT, zU, zV, zW, zX, zY, zZ, x0, x1, x2, x3, x4, x5, x6, x7, x8, x9, xa, xb, xc, xd, xe, xf, xg, xh, xi, xj, xk, xl, xm, xn, xo, xp, xq, xr, xs, xt, xu, xv, xw, xx, xy, xz, xA, xB, xC, xD, xE, xF, xG, xH, xI, xJ, xK, xL, xM, xN, xO, xP, xQ, xR, xS, xT, xU, xV, xW, xX, xY, xZ, j0, j1, j2, j3, j4, j5, j6, j7, j8, j9, ja, jb, jc, jd, je, jf, jg, jh, ji, jj, jk, jl, jm, jn, jo, jp, jq, jr, js, jt, ju, jv, jw, jx, jy, jz, jA, jB, jC, jD, jE, jF, jG, jH, jI, jJ, jK, jL, jM, jN, jO, jP, jQ, jR, jS, jT, jU, jV, jW, jX, jY, jZ, u0, u1, u2, u3, u4, u5, u6, u7, u8, u9, ua, ub, uc, ud, ue, uf, ug, uh, ui, uj, uk, ul, um, un, uo, up, uq, ur, us, ut, uu, uv, uw, ux], []⟩ wk4 := by
 conv => arg 2; whnf
 have HN := hD (dwords_any B g q4.2.2 wk4 HR22.out.rq)
 go_upto_region 20 with (go_at_call 60; (with_reducible refine (HN.out).mono ?_); rintro en v25 ⟨A4, c4, L4, rfl, ho, hr, hv, hg⟩; have HR26 := hD (HR22.out.call hr hg); have k0 : v25.cell? ⟨gi, 4, none⟩ = some (noS) := HR26.out.bx.c 4; have k1 := HR26.out.bx.f 4; clear hr hg; have HO4 := hD ho; have HV4 := hD hv; clear ho hv)
 replace HO4 := hD (own_set (f := 4) (u := .slice A4 L4.length c4) HO4.out HLT24.out.2)
 have HR28 := hD (show Rc wk4 (v25.setCell ⟨gi, 4, none⟩ (.slice A4 L4.length c4)) B g gi (cz q1.1 q2.1 a2 a3 ((.slice A4 L4.length c4)) noS noS noS 0 noS noS noS noS noS 0) _ from HR26.out.set 4 (.slice A4 L4.length c4))
 change Code.wp _ _ _ _ (v25.setCell ⟨gi, 4, none⟩ (.slice A4 L4.length c4))
 generalize v25.setCell ⟨gi, 4, none⟩ (.slice A4 L4.length c4) = v27 at *
 clear k0 k1 HR26 HN HR22
 generalize hq5 : rdTx q4.2.2 = q5 at *
 have HQ5 := hD hq5
 clear hq5
 have HR29 := hD (HR28.out.rebase)
 have HKN30 := hD HR28.out.kr
 have HLT31 := hD (show g < v27.heap.size ∧ gi < v27.heap.size from ⟨Nat.lt_trans HR28.out.lt HR28.out.bx.lt, HR28.out.bx.lt⟩)
 clear HR28
 obtain ⟨N, u, hnn, hN⟩ := num_nat (size := 2) (by decide) (by decide) q5.2.2
 have HNN := hD hnn
 have HQ6 := hD (rdList_of (r := rdSym) hnn)
 clear hnn
 rename_i K1 ha1 K2 ha2
 have key : ∀ (y0 y1 y7 y8 y9 ya yb yc yd ye yf yg yh yi yj yk yl ym yn yo yp yq yr ys yt yu yv yw yx yy yz yA yB yC yD yE yF yG yH yI yJ yK yL yM yN yO yP yQ yR yS yT yU yV yW yX yY yZ z0 z1 z2 z3 z4 z5 z6 z7 z8 z9 za zb zc zd ze zf zg zh zi zj zk zl zm zn zo zp zq zr zs zt zu zv zw zx zy zz zA zB zC zD zE zF zG zH zL zM zN zO zP zQ zR zS zT zU zV zW zX zY zZ x0 x1 x2 x3 x4 x5 x6 x7 x8 x9 xa xb xc xd xe xf xg xh xi xj xk xl xm xn xo xp xq xr xs xt xu xv xw xx xy xz xA xB xC xD xE xF xG xH xI xJ xK xL xM xN xO xP xQ xR xS xT xU xV xW xX xY xZ j0 j1 j2 j3 j4 j5 j6 j7 j8 j9 ja jb jc jd je jf jg jh ji jj jk jl jm jn jo jp jq jr js jt ju jv jw jx jy jz jA jB jC jD jE jF jG jH jI jJ jK jL jM jN jO jP jQ jR jS jT jU jV jW jX jY jZ u0 u1 u2 u3 u4 u5 u6 u7 u8 u9 ua ub uc ud ue uf ug uh ui uj uk ul um un uo up uq ur us ut uu uv uw ux : Value) (wk6 : World) (a5 : Value) (ok1 : Bool), a5.oneCell' = true → Rc v27 wk6 B g gi (cz q1.1 q2.1 a2 a3 ((.slice A4 L4.length c4)) a5 noS noS 0 noS noS noS noS noS 0) (rdMany rdSym N u).2.2 → ((rdMany rdSym N u).2.2.1 = 0 → GL (fun y _ => symA y) noSy datNo v27 wk6 9 a5 (rdMany rdSym N u).1) → ((rdMany rdSym N u).2.2.1 = 0 → ok1 = (ok0 && !(rdMany rdSym N u).2.1)) → K1 ⟨#[y0, y1, .pointer (some ⟨B, 0, none⟩), .bool false, .pointer (some ⟨g, 0, none⟩), .pointer (some ⟨gi, 0, none⟩), .bool ok1, y7, y8, y9, ya, yb, yc, yd, ye, yf, yg, yh, yi, yj, yk, yl, ym, yn, yo, yp, yq, yr, ys, yt, yu, yv, yw, yx, yy, yz, yA, yB, yC, yD, yE, yF, yG, yH, yI, yJ, yK, yL, yM, yN, yO, yP, yQ, yR, yS, yT, yU, yV, yW, yX, yY, yZ, z0, z1, z2, z3, z4, z5, z6, z7, z8, z9, za, zb, zc, zd, ze, zf, zg, zh, zi, zj, zk, zl, zm, zn, zo, zp, zq, zr, zs, zt, zu, zv, zw, zx, zy, zz, zA, zB, zC, zD, zE, zF, zG, zH, zL, zM, zN, zO, zP, zQ, zR, zS, zT, zU, zV, zW, zX, zY, zZ, x0, x1, x2, x3, x4, x5, x6, x7, x8, x9, xa, xb, xc, xd, xe, xf, xg, xh, xi, xj, xk, xl, xm, xn, xo, xp, xq, xr, xs, xt, xu, xv, xw, xx, xy, xz, xA, xB, xC, xD, xE, xF, xG, xH, xI, xJ, xK, xL, xM, xN, xO, xP, xQ, xR, xS, xT, xU, xV, xW, xX, xY, xZ, j0, j1, j2, j3, j4, j5, j6, j7, j8, j9, ja, jb, jc, jd, je, jf, jg, jh, ji, jj, jk, jl, jm, jn, jo, jp, jq, jr, js, jt, ju, jv, jw, jx, jy, jz, jA, jB, jC, jD, jE, jF, jG, jH, jI, jJ, jK, jL, jM, jN, jO, jP, jQ, jR, jS, jT, jU, jV, jW, jX, jY, jZ, u0, u1, u2, u3, u4, u5, u6, u7, u8, u9, ua, ub, uc, ud, ue, uf, ug, uh, ui, uj, uk, ul, um, un, uo, up, uq, ur, us, ut, uu, uv, uw, ux], []⟩ wk6 := by
  intros; rename_i wk6 a5 ok1 h0 h1 h2 h3
  have HR32 := hD h1
  have HOC6 := hD h0
  have HGL6 := hD h2
  have HOK1 := hD h3
  clear h3
  clear h0 h1 h2 ha2 K2 HR29 HNN hN
  generalize rdMany rdSym N u = q6 at *
  have HR33 := hD (HR32.out.rebase)
  have HKN34 := hD HR32.out.kr
  have HLT35 := hD (show g < wk6.heap.size ∧ gi < wk6.heap.size from ⟨Nat.lt_trans HR32.out.lt HR32.out.bx.lt, HR32.out.bx.lt⟩)
  clear HR32
  refine ha1 _ _ ?_
  exact dread_s6 HBX HB0 HZG HBW HQ0 HOK HQ1 HQ2 HKN12 HLT13 HQ3 HOC3 HGL3 HKN16 HLT17 HKN19 HLT20 HQ4 HOC4 HGL4 HKN23 HLT24 HO4 HQ5 HV4 HKN30 HLT31 HQ6 HOC6 HGL6 HOK1 HKN34 HLT35 HR33
 clear ha1
 obtain ⟨i0, hi, hz0, hz1, hz2⟩ := info_parts Tryz.info_rlSym
 have HN := hD (show Calls Tryz.prog 56 #[.pointer (some ⟨g, 0, none⟩), .int .i64 2] v27 (fun e w' => e = .returned (.int .i64 (N : Int)) ∧ Rq w' B g u ∧ v27.grownBy w' (some g)) from by have q := rnum_d HR29.out.rq 2; rw [HNN.out] at q; exact q)
 go_wp2_with (go_at_call 56; (with_reducible refine (HN.out).mono ?_); rintro en v105 ⟨rfl, hr, hg⟩; have HR106 := hD (HR29.out.call hr hg); clear hr hg)
 clear HN HNN
 rename_i xw1 xe1 xw2 vq hvq
 injection hvq with hvq
 subst hvq
 go_loopw [13, 6] (fun t o wr => ∃ (k m : Nat) (okv : Bool), k + m = N ∧ t = .int .i64 (m : Int) ∧ o = .bool okv ∧ LpR rdSym (fun y _ => symA y) noSy datNo v27 B g gi (fun v => (cz q1.1 q2.1 a2 a3 ((.slice A4 L4.length c4)) v noS noS 0 noS noS noS noS noS 0)) 105 9 u k wr ∧ ((rdMany rdSym k u).2.2.1 = 0 → okv = (ok0 && !(rdMany rdSym k u).2.1))) (fun t _ _ => (intOf t).toNat)
 case atStart => exact ⟨0, N, ok0, by omega, rfl, rfl, LpR.start HR106.out, fun _ => by simp [rdMany]⟩
 case round =>
  obtain ⟨k, m, okv, hkm, rfl, rfl, hl, hok⟩ := hrel
  have HOV := hD hok
  clear hok
  have HL := hD hl
  have HKM := hD (show k + m = N ∧ N ≤ 65535 from ⟨hkm, hN⟩)
  obtain ⟨n, c, A, xs, hn, hrc, hown, hmk⟩ := hl
  have he := hrc.rq.e
  have HRC := hD hrc
  have HO := hD hown
  have HM := hD hmk
  have HN0 := hD hn
  have HGL := hD (show gi < v27.heap.size ∧ g < v27.heap.size from ⟨hrc.gt, Nat.lt_trans hrc.lt hrc.gt⟩)
  have HLW := hD (show gi < wr.heap.size ∧ g < wr.heap.size from ⟨hrc.bx.lt, Nat.lt_trans hrc.lt hrc.bx.lt⟩)
  clear HR106 HR29 hn hrc hown hmk hN hkm
  by_cases hlt : 0 < m
  ·
   by_cases h0 : (rdMany rdSym k u).2.2.1 = 0
   ·
    have HH0 := hD h0
    have HWM := hD (wrap_dec hlt HKM.out)
    rw [h0] at he
    clear h0 HL key
    have HN := hD (show Calls Tryz.prog 61 #[.pointer (some ⟨g, 0, none⟩)] wr (fun e w' => ∃ (y : Sym) (fine : Bool), e = .returned (.tuple #[.agg (symA y), .bool fine]) ∧ Rq w' B g (rdSym (rdMany rdSym k u).2.2).2.2 ∧ wr.grownBy w' (some g) ∧ ((rdSym (rdMany rdSym k u).2.2).2.2.1 = 0 → y = (rdSym (rdMany rdSym k u).2.2).1 ∧ fine = !(rdSym (rdMany rdSym k u).2.2).2.1)) from dsymbol_any B g _ wr HRC.out.rq)
    go_upto_region 24 with (go_at_call 61; (with_reducible refine (HN.out).mono ?_); rintro en x1 ⟨y, fine, rfl, hr, hg, hv⟩; have HR1 := hD (HRC.out.call hr hg); have HV1 := hD hv; have HK1 := hD (Kr.of_grown (gi := gi) hg); clear hr hg hv)
    clear HN
    have HBY := hD (Bx.new x1 (symA y) 105)
    have hby : Below x1.heap.size x1 (x1.alloc (.cells (symA y) 105)) := (Below.refl _ _).alloc (Nat.le_refl _) _
    have HR5 := hD (HR1.out.below hby)
    have HK5 := hD (HK1.out.trans (Kr.of_below hby))
    clear hby
    change Code.wp _ _ _ _ (x1.alloc (.cells (symA y) 105))
    generalize x1.alloc (.cells (symA y) 105) = x4 at *
    generalize x1.heap.size = gy at *
    have HB4 := hD (show Below x4.heap.size x4 (x4.alloc (.cells (symA y) 105)) from (Below.refl _ _).alloc (Nat.le_refl _) _)
    have HR4 := hD (HR5.out.below HB4.out)
    have HK4 := hD (HK5.out.trans (Kr.of_below HB4.out))
    have HOA := hD (own_kr HO.out HK4.out HGL.out.1 HGL.out.2)
    have HNW := hD (World.news_of_block (Bx.new x4 (symA y) 105))
    have hn0 := HN0.out
    have hkm' := HKM.out
    have m1 : n + 1 ≤ maxLen := by simp only [maxLen]; omega
    have m2 : (n + 1) * 88 ≤ 140737488355328 := Nat.le_trans (Nat.mul_le_mul_right 88 (show n + 1 ≤ 100000 by omega)) (Nat.le_of_ble_eq_true rfl)
    have HBS := hD (show v27.heap.size ≤ (x4.alloc (.cells (symA y) 105)).heap.size from Nat.le_trans HRC.out.kr.size HK4.out.size)
    have HBX4 := hD HR4.out.bx
    clear hn0 hkm'
    have f0 : x4.cell? ⟨gi, 5, none⟩ = some (.slice A n c) := HR5.out.bx.c 5
    have eq := HBY.out.c; have e0 := eq 0; have e1 := eq 1; have e2 := eq 2; have e3 := eq 3; have e4 := eq 4; have e5 := eq 5; have e6 := eq 6; have e7 := eq 7; have e8 := eq 8; clear eq
    simp only [gA, gB, gC] at e0 e1 e2 e3 e4 e5 e6 e7 e8
    cases okv with
    | true =>
     go_wp2_with (at_builtin; refine wpList_append_lies _ rfl (.tmp 124) (.tmp 126) 29 rfl v27.heap.size 105 i0 _ 9 88 Tryz.underlying29 hi hz0 hz1 hz2 rfl (by decide) (.slice A n c) n xs (by rfl) HOA.out ⟨x4.heap.size, 0, none⟩ 1 1 ((symA y) : Array Value).toList (by rfl) (by rfl) (by exact HNW.out) (by simp [Value.oneCell']) (by decide) m1 m2 HBS.out _ rfl ?_; intro g5 c5 w5 hown hgr hat hlt5; have HO5 := hD hown; have HG5 := hD hgr; have HAT := hD hat; have k0 : w5.cell? ⟨gi, 5, none⟩ = some (.slice A n c) := (hgr.cell_far _ HBX4.out.lt (fun e => by have := (HOA.out.lt gi e.symm).1; have := HGL.out.1; omega)).trans (HBX4.out.c 5); have k1 : w5.frozen? ⟨gi, 5, none⟩ = false := (hgr.frozen_far _ HBX4.out.lt (fun e => by have := (HOA.out.lt gi e.symm).1; have := HGL.out.1; omega)).trans (HBX4.out.f 5); clear hown hgr hat hlt5)
     go_roundw
     case rel => exact ⟨k + 1, m - 1, fine, by have := HKM.out; omega, by rw [HWM.out], rfl, LpR.push stays_no (fun _ _ => rfl) HRC.out HO.out (HM.out HH0.out) HN0.out HK4.out HR4.out rfl HG5.out HO5.out HAT.out (fun hz => by obtain ⟨e, _⟩ := HV1.out hz; rw [← e]; exact ⟨(none, 0), rfl, trivial⟩), fun hz => ok_step (HOV.out HH0.out) (fun h => (HV1.out h).2) hz⟩
     case measure => simp only [intOf, HWM.out, Int.toNat_natCast]; omega
    | false =>
     go_wp2_with (at_builtin; refine wpList_append_lies _ rfl (.tmp 124) (.tmp 126) 29 rfl v27.heap.size 105 i0 _ 9 88 Tryz.underlying29 hi hz0 hz1 hz2 rfl (by decide) (.slice A n c) n xs (by rfl) HOA.out ⟨x4.heap.size, 0, none⟩ 1 1 ((symA y) : Array Value).toList (by rfl) (by rfl) (by exact HNW.out) (by simp [Value.oneCell']) (by decide) m1 m2 HBS.out _ rfl ?_; intro g5 c5 w5 hown hgr hat hlt5; have HO5 := hD hown; have HG5 := hD hgr; have HAT := hD hat; have k0 : w5.cell? ⟨gi, 5, none⟩ = some (.slice A n c) := (hgr.cell_far _ HBX4.out.lt (fun e => by have := (HOA.out.lt gi e.symm).1; have := HGL.out.1; omega)).trans (HBX4.out.c 5); have k1 : w5.frozen? ⟨gi, 5, none⟩ = false := (hgr.frozen_far _ HBX4.out.lt (fun e => by have := (HOA.out.lt gi e.symm).1; have := HGL.out.1; omega)).trans (HBX4.out.f 5); clear hown hgr hat hlt5)
     go_roundw
     case rel => exact ⟨k + 1, m - 1, false, by have := HKM.out; omega, by rw [HWM.out], rfl, LpR.push stays_no (fun _ _ => rfl) HRC.out HO.out (HM.out HH0.out) HN0.out HK4.out HR4.out rfl HG5.out HO5.out HAT.out (fun hz => by obtain ⟨e, _⟩ := HV1.out hz; rw [← e]; exact ⟨(none, 0), rfl, trivial⟩), fun hz => ok_step (HOV.out HH0.out) (fun h => (HV1.out h).2) hz⟩
     case measure => simp only [intOf, HWM.out, Int.toNat_natCast]; omega
   ·
    have he0 : ((rdMany rdSym k u).2.2.1 == 0) = false := by simpa using h0
    obtain ⟨va, x0, x1, x2⟩ := HL.out.exit (N := N) clean_sym stays_no (fun _ _ => rfl) (by have := HKM.out; omega) (.inr h0)
    have X0 := hD x0
    have X1 := hD x1
    have X2 := hD x2
    have X3 := hD (fun h => absurd (by rw [(many_end clean_sym (by have := HKM.out; omega) h0).1] at h; exact h) h0 : (rdMany rdSym N u).2.2.1 = 0 → okv = (ok0 && !(rdMany rdSym N u).2.1))
    clear x0 x1 x2 h0 HL
    go_wp2_with fail
    apply key
    ·
     exact X0.out
    ·
     exact X1.out
    ·
     exact X2.out
    ·
     exact X3.out
  ·
   obtain rfl : m = 0 := by omega
   obtain rfl : k = N := by have := HKM.out; omega
   obtain ⟨va, x0, x1, x2⟩ := HL.out.exit (N := k) clean_sym stays_no (fun _ _ => rfl) (Nat.le_refl _) (.inl rfl)
   have X0 := hD x0
   have X1 := hD x1
   have X2 := hD x2
   have X3 := HOV
   clear x0 x1 x2 HL
   go_wp2_with fail
   apply key
   ·
    exact X0.out
   ·
    exact X1.out
   ·
    exact X2.out
   ·
    exact X3.out
end Go.Proofs.YtfljignkjmabpaaGreat
