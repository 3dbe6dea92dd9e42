/- A part of the proof. -/
import Derived.Test.YtfljignkjmabpaaGreatZDFf
set_option linter.unusedSimpArgs false
set_option linter.unusedVariables false
namespace Go.Proofs.YtfljignkjmabpaaGreat
set_option maxRecDepth 100000
open Go.RowKit
set_option maxHeartbeats 16000000 in
theorem dread_s3 {w w3 : World} {gi g B : Nat} {s0 : St} {ok0 : Bool} {q0 : Unit × Bool × St} {q1 : Str × St} {q2 : Int × St} {v9 : World} {a2 : Value} {wk3 : World} {q3 : List (Sg) × Bool × St} {y0 y1 y7 y8 y9 ya yb yc yd ye yf yg yh yi yj yk yl ym yn yo yp yq yr ys yt yu yv yw yx yy yz yA yB yC yD yE yF yG yH yI yJ yK yL yM yN yO yP yQ yR yS yT yU yV yW yX yY yZ z0 z1 z2 z3 z4 z5 z6 z7 z8 z9 za zb zc zd ze zf zg zh zi zj zk zl zm zn zo zp zq zr zs zt zu zv zw zx zy zz zA zB zC zD zE zF zG zH zL zM zN zO zP zQ zR zS zT zU zV zW zX zY zZ x0 x1 x2 x3 x4 x5 x6 x7 x8 x9 xa xb xc xd xe xf xg xh xi xj xk xl xm xn xo xp xq xr xs xt xu xv xw xx xy xz xA xB xC xD xE xF xG xH xI xJ xK xL xM xN xO xP xQ xR xS xT xU xV xW xX xY xZ j0 j1 j2 j3 j4 j5 j6 j7 j8 j9 ja jb jc jd je jf jg jh ji jj jk jl jm jn jo jp jq jr js jt ju jv jw jx jy jz jA jB jC jD jE jF jG jH jI jJ jK jL jM jN jO jP jQ jR jS jT jU jV jW jX jY jZ u0 u1 u2 u3 u4 u5 u6 u7 u8 u9 ua ub uc ud ue uf ug uh ui uj uk ul um un uo up uq ur us ut uu uv uw ux : Value} (HBX : Hid (Bx w3 B (cz [] 0 noS noS noS noS noS noS 0 noS noS noS noS noS 0) 40)) (HB0 : Hid (Below B w w3)) (HZG : Hid (B < g)) (HBW : Hid (w.heap.size = B)) (HQ0 : Hid (rdMark s0 = q0)) (HOK : Hid (ok0 = !q0.2.1)) (HQ1 : Hid (rMeas 2 4096 q0.2.2 = q1)) (HQ2 : Hid (rNum 1 q1.2 = q2)) (HKN12 : Hid (Kr gi g w3 v9)) (HLT13 : Hid (g < v9.heap.size ∧ gi < v9.heap.size)) (HQ3 : Hid (rdList 1 rdSg q2.2 = q3)) (HOC3 : Hid (a2.oneCell' = true)) (HGL3 : Hid (q3.2.2.1 = 0 → GL sgA noSg datSg v9 wk3 4 a2 q3.1)) (HKN16 : Hid (Kr gi g v9 wk3)) (HLT17 : Hid (g < wk3.heap.size ∧ gi < wk3.heap.size)) (HR15 : Hid (Rc wk3 wk3 B g gi (cz q1.1 q2.1 a2 noS noS noS noS noS 0 noS noS noS noS noS 0) q3.2.2)) :
  Code.wp Tryz.prog (seqTail 7 (Tryz.f19.body.getD .skip)) (bodyPost Tryz.prog Tryz.f19 (Dread w (rdIm s0))) ⟨#[y0, y1, .pointer (some ⟨B, 0, none⟩), .bool false, .pointer (some ⟨g, 0, none⟩), .pointer (some ⟨gi, 0, none⟩), .bool ok0, y7, y8, y9, ya, yb, yc, yd, ye, yf, yg, yh, yi, yj, yk, yl, ym, yn, yo, yp, yq, yr, ys, yt, yu, yv, yw, yx, yy, yz, yA, yB, yC, yD, yE, yF, yG, yH, yI, yJ, yK, yL, yM, yN, yO, yP, yQ, yR, yS, yT, yU, yV, yW, yX, yY, yZ, z0, z1, z2, z3, z4, z5, z6, z7, z8, z9, za, zb, zc, zd, ze, zf, zg, zh, zi, zj, zk, zl, zm, zn, zo, zp, zq, zr, zs, zt, zu, zv, zw, zx, zy, zz, zA, zB, zC, zD, zE, zF, zG, zH, zL, zM, zN, zO, zP, zQ, zR, zS, zT, zU, zV, zW, zX, zY, zZ, x0, x1, x2, x3, x4, x5, x6, x7, x8, x9, xa, xb, xc, xd, xe, xf, xg, xh, xi, xj, xk, xl, xm, xn, xo, xp, xq, xr, xs, xt, xu, xv, xw, xx, xy, xz, xA, xB, xC, xD, xE, xF, xG, xH, xI, xJ, xK, xL, xM, xN, xO, xP, xQ, xR, xS, xT, xU, xV, xW, xX, xY, xZ, j0, j1, j2, j3, j4, j5, j6, j7, j8, j9, ja, jb, jc, jd, je, jf, jg, jh, ji, jj, jk, jl, jm, jn, jo, jp, jq, jr, js, jt, ju, jv, jw, jx, jy, jz, jA, jB, jC, jD, jE, jF, jG, jH, jI, jJ, jK, jL, jM, jN, jO, jP, jQ, jR, jS, jT, jU, jV, jW, jX, jY, jZ, u0, u1, u2, u3, u4, u5, u6, u7, u8, u9, ua, ub, uc, ud, ue, uf, ug, uh, ui, uj, uk, ul, um, un, uo, up, uq, ur, us, ut, uu, uv, uw, ux], []⟩ wk3 := by
 conv => arg 2; whnf
 go_upto_region 14 with (fail)
 have HR18 := hD (HR15.out.rebase)
 have HKN19 := hD HR15.out.kr
 have HLT20 := hD (show g < wk3.heap.size ∧ gi < wk3.heap.size from ⟨Nat.lt_trans HR15.out.lt HR15.out.bx.lt, HR15.out.bx.lt⟩)
 clear HR15
 obtain ⟨N, u, hnn, hN⟩ := num_nat (size := 1) (by decide) (by decide) q3.2.2
 have HNN := hD hnn
 have HQ4 := hD (rdList_of (r := rdNd) hnn)
 clear hnn
 rename_i K1 ha1 K2 ha2
 have key : ∀ (y0 y1 y7 y8 y9 ya yb yc yd ye yf yg yh yi yj yk yl ym yn yo yp yq yr ys yt yu yv yw yx yy yz yA yB yC yD yE yF yG yH yI yJ yK yL yM yN yO yP yQ yR yS yT yU yV yW yX yY yZ z0 z1 z2 z3 z4 z5 z6 z7 z8 z9 za zb zc zd ze zf zg zh zi zj zk zl zm zn zo zp zq zr zs zt zu zv zw zx zy zz zA zB zC zD zE zF zG zH zL zM zN zO zP zQ zR zS zT zU zV zW zX zY zZ x0 x1 x2 x3 x4 x5 x6 x7 x8 x9 xa xb xc xd xe xf xg xh xi xj xk xl xm xn xo xp xq xr xs xt xu xv xw xx xy xz xA xB xC xD xE xF xG xH xI xJ xK xL xM xN xO xP xQ xR xS xT xU xV xW xX xY xZ j0 j1 j2 j3 j4 j5 j6 j7 j8 j9 ja jb jc jd je jf jg jh ji jj jk jl jm jn jo jp jq jr js jt ju jv jw jx jy jz jA jB jC jD jE jF jG jH jI jJ jK jL jM jN jO jP jQ jR jS jT jU jV jW jX jY jZ u0 u1 u2 u3 u4 u5 u6 u7 u8 u9 ua ub uc ud ue uf ug uh ui uj uk ul um un uo up uq ur us ut uu uv uw ux : Value) (wk4 : World) (a3 : Value) , a3.oneCell' = true → Rc wk3 wk4 B g gi (cz q1.1 q2.1 a2 a3 noS noS noS noS 0 noS noS noS noS noS 0) (rdMany rdNd N u).2.2 → ((rdMany rdNd N u).2.2.1 = 0 → GL ndA noNd datNd wk3 wk4 2 a3 (rdMany rdNd N u).1) → K1 ⟨#[y0, y1, .pointer (some ⟨B, 0, none⟩), .bool false, .pointer (some ⟨g, 0, none⟩), .pointer (some ⟨gi, 0, none⟩), .bool ok0, y7, y8, y9, ya, yb, yc, yd, ye, yf, yg, yh, yi, yj, yk, yl, ym, yn, yo, yp, yq, yr, ys, yt, yu, yv, yw, yx, yy, yz, yA, yB, yC, yD, yE, yF, yG, yH, yI, yJ, yK, yL, yM, yN, yO, yP, yQ, yR, yS, yT, yU, yV, yW, yX, yY, yZ, z0, z1, z2, z3, z4, z5, z6, z7, z8, z9, za, zb, zc, zd, ze, zf, zg, zh, zi, zj, zk, zl, zm, zn, zo, zp, zq, zr, zs, zt, zu, zv, zw, zx, zy, zz, zA, zB, zC, zD, zE, zF, zG, zH, zL, zM, zN, zO, zP, zQ, zR, zS, zT, zU, zV, zW, zX, zY, zZ, x0, x1, x2, x3, x4, x5, x6, x7, x8, x9, xa, xb, xc, xd, xe, xf, xg, xh, xi, xj, xk, xl, xm, xn, xo, xp, xq, xr, xs, xt, xu, xv, xw, xx, xy, xz, xA, xB, xC, xD, xE, xF, xG, xH, xI, xJ, xK, xL, xM, xN, xO, xP, xQ, xR, xS, xT, xU, xV, xW, xX, xY, xZ, j0, j1, j2, j3, j4, j5, j6, j7, j8, j9, ja, jb, jc, jd, je, jf, jg, jh, ji, jj, jk, jl, jm, jn, jo, jp, jq, jr, js, jt, ju, jv, jw, jx, jy, jz, jA, jB, jC, jD, jE, jF, jG, jH, jI, jJ, jK, jL, jM, jN, jO, jP, jQ, jR, jS, jT, jU, jV, jW, jX, jY, jZ, u0, u1, u2, u3, u4, u5, u6, u7, u8, u9, ua, ub, uc, ud, ue, uf, ug, uh, ui, uj, uk, ul, um, un, uo, up, uq, ur, us, ut, uu, uv, uw, ux], []⟩ wk4 := by
  intros; rename_i wk4 a3 h0 h1 h2
  have HR21 := hD h1
  have HOC4 := hD h0
  have HGL4 := hD h2
  clear h0 h1 h2 ha2 K2 HR18 HNN hN
  generalize rdMany rdNd N u = q4 at *
  have HR22 := hD (HR21.out.rebase)
  have HKN23 := hD HR21.out.kr
  have HLT24 := hD (show g < wk4.heap.size ∧ gi < wk4.heap.size from ⟨Nat.lt_trans HR21.out.lt HR21.out.bx.lt, HR21.out.bx.lt⟩)
  clear HR21
  refine ha1 _ _ ?_
  exact dread_s4 HBX HB0 HZG HBW HQ0 HOK HQ1 HQ2 HKN12 HLT13 HQ3 HOC3 HGL3 HKN16 HLT17 HKN19 HLT20 HQ4 HOC4 HGL4 HKN23 HLT24 HR22
 clear ha1
 obtain ⟨i0, hi, hz0, hz1, hz2⟩ := info_parts Tryz.info_rlNeed
 have HN := hD (show Calls Tryz.prog 56 #[.pointer (some ⟨g, 0, none⟩), .int .i64 1] wk3 (fun e w' => e = .returned (.int .i64 (N : Int)) ∧ Rq w' B g u ∧ wk3.grownBy w' (some g)) from by have q := rnum_d HR18.out.rq 1; rw [HNN.out] at q; exact q)
 go_wp2_with (go_at_call 56; (with_reducible refine (HN.out).mono ?_); rintro en v107 ⟨rfl, hr, hg⟩; have HR108 := hD (HR18.out.call hr hg); clear hr hg)
 clear HN HNN
 rename_i xw1 xe1 xw2 vq hvq
 injection hvq with hvq
 subst hvq
 go_loopw [11] (fun t wr => ∃ k m : Nat, k + m = N ∧ t = .int .i64 (m : Int) ∧ LpR rdNd ndA noNd datNd wk3 B g gi (fun v => (cz q1.1 q2.1 a2 v noS noS noS noS 0 noS noS noS noS noS 0)) 98 2 u k wr) (fun t _ => (intOf t).toNat)
 case atStart => exact ⟨0, N, by omega, rfl, LpR.start HR108.out⟩
 case round =>
  obtain ⟨k, m, hkm, rfl, hl⟩ := hrel
  have HL := hD hl
  have HKM := hD (show k + m = N ∧ N ≤ 65535 from ⟨hkm, hN⟩)
  obtain ⟨n, c, A, xs, hn, hrc, hown, hmk⟩ := hl
  have he := hrc.rq.e
  have HRC := hD hrc
  have HO := hD hown
  have HM := hD hmk
  have HN0 := hD hn
  have HGL := hD (show gi < wk3.heap.size ∧ g < wk3.heap.size from ⟨hrc.gt, Nat.lt_trans hrc.lt hrc.gt⟩)
  have HLW := hD (show gi < wr.heap.size ∧ g < wr.heap.size from ⟨hrc.bx.lt, Nat.lt_trans hrc.lt hrc.bx.lt⟩)
  clear HR108 HR18 hn hrc hown hmk hN hkm
  by_cases hlt : 0 < m
  ·
   by_cases h0 : (rdMany rdNd k u).2.2.1 = 0
   ·
    have HH0 := hD h0
    have HWM := hD (wrap_dec hlt HKM.out)
    rw [h0] at he
    clear h0 HL key
    obtain ⟨nm, vs, bb, s1, s2, e1, e2, e3⟩ := rdNd_at (rdMany rdNd k u).2.2
    have HE1 := hD e1
    have HE2 := hD e2
    have HE3 := hD e3
    clear e1 e2 e3
    have HN := hD (rtext_d HRC.out.rq)
    rw [HE1.out] at HN
    dsimp only at HN
    go_upto_region 18 with (go_at_call 55; (with_reducible refine (HN.out).mono ?_); rintro en x2 ⟨rfl, hr, hg⟩; have HR2 := hD ((HRC.out.call hr hg)); have HK2 := hD (Kr.of_grown (gi := gi) hg); clear hr hg)
    clear HN
    have HR2d := hD (HR2.out.below (drew_below x2))
    have HN := hD (dwords_any B g s1 x2.drew HR2d.out.rq)
    rw [HE2.out] at HN
    have HF := hD (show ∀ X, Sv g (row A) x2 X → X.cell? ⟨gi, 3, none⟩ = some (.slice A n c) from fun X hX => hX.cell (HR2.out.bx.c 3) (by have := HRC.out.lt; simp only; omega) (fun e => by have := (HO.out.lt gi (by rw [row_own]; exact e.symm)).1; have := HRC.out.gt; omega))
    refine UpTo.region 9 (Sv g (row A) x2) (by kernel_rfl) (Sv.drew _ _ _) (fun hHeld => ?_)
    refine tU 0 89 (.pointer (some ⟨gi, 3, none⟩)) ?_
    simp only [Act.put, zI, zJ, zK]
    refine tV 1 90 (.slice A n c) ?_ ?_
    ·
     intro X hX; have f0 := HF.out X hX; go_simp
    (try simp only [Act.put, zI, zJ, zK])
    refine tU 2 91 (str nm) ?_
    simp only [Act.put, zI, zJ, zK]
    refine tU 3 92 (.pointer (some ⟨g, 0, none⟩)) ?_
    simp only [Act.put, zI, zJ, zK]
    refine UpTo.step (i := 4) (by kernel_rfl) rfl (fun K hK => ?_)
    go_simp
    refine (HN.out).mono ?_
    rintro en x4 ⟨Av, cv, Lv, rfl, ho, hr, hv, hg⟩
    go_simp
    refine hK.out _ _ (hHeld.grown hg) (fun hHeld => ?_)
    clear hK K
    (try simp only [Act.put, zI, zJ, zK])
    have HR5 := hD (HR2d.out.call hr hg)
    have HK5 := hD ((HK2.out.trans (Kr.of_below (drew_below x2))).trans (Kr.of_grown (gi := gi) hg))
    have HD5 := hD ho
    have HV5 := hD hv
    clear hr hg ho hv
    have HB4 := hD (show Below x4.heap.size x4 (x4.alloc (.cells #[str nm, .slice Av Lv.length cv] 98)) from (Below.refl _ _).alloc (Nat.le_refl _) _)
    have HR4 := hD (HR5.out.below HB4.out)
    have HK4 := hD (HK5.out.trans (Kr.of_below HB4.out))
    have HOA := hD (own_kr HO.out HK4.out HGL.out.1 HGL.out.2)
    have HNW := hD (World.news_of_block (Bx.new x4 #[str nm, .slice Av Lv.length cv] 98))
    have hn0 := HN0.out
    have hkm' := HKM.out
    have m1 : n + 1 ≤ maxLen := by simp only [maxLen]; omega
    have m2 : (n + 1) * 40 ≤ 140737488355328 := Nat.le_trans (Nat.mul_le_mul_right 40 (show n + 1 ≤ 100000 by omega)) (Nat.le_of_ble_eq_true rfl)
    have HBS := hD (show wk3.heap.size ≤ (x4.alloc (.cells #[str nm, .slice Av Lv.length cv] 98)).heap.size from Nat.le_trans HRC.out.kr.size HK4.out.size)
    have HBX4 := hD HR4.out.bx
    clear hn0 hkm'
    refine tU 5 94 (.agg #[str nm, .slice Av Lv.length cv]) ?_
    simp only [Act.put, zI, zJ, zK]
    refine UpTo.step (i := 6) (by kernel_rfl) rfl (fun K hK => ?_)
    go_simp
    refine hK.out _ _ (hHeld.alloc _) (fun hHeld => ?_)
    clear hK K
    (try simp only [Act.put, zI, zJ, zK])
    refine UpTo.step (i := 7) (by kernel_rfl) rfl (fun K hK => ?_)
    refine step_append_lies _ rfl (.tmp 90) (.tmp 95) 27 rfl wk3.heap.size 98 i0 _ 2 40 Tryz.underlying27 hi hz0 hz1 hz2 rfl (by decide) (.slice A n c) n xs (by rfl) HOA.out ⟨x4.heap.size, 0, none⟩ 1 1 (#[str nm, .slice Av Lv.length cv] : Array Value).toList (by rfl) (by rfl) (by exact HNW.out) (by simp [Value.oneCell']) (by decide) m1 m2 HBS.out _ rfl ?_
    intro g5 c5 w5 hown hgr hat hlt5
    refine hK.out _ _ (hHeld.row (row_own A n c ▸ hgr)) (fun hHeld => ?_)
    clear hK K
    have HO5 := hD hown
    have HG5 := hD hgr
    have HAT := hD hat
    have k0 : w5.cell? ⟨gi, 3, none⟩ = some (.slice A n c) := (hgr.cell_far _ HBX4.out.lt (fun e => by have := (HOA.out.lt gi e.symm).1; have := HGL.out.1; omega)).trans (HBX4.out.c 3)
    have k1 : w5.frozen? ⟨gi, 3, none⟩ = false := (hgr.frozen_far _ HBX4.out.lt (fun e => by have := (HOA.out.lt gi e.symm).1; have := HGL.out.1; omega)).trans (HBX4.out.f 3)
    clear hown hgr hat hlt5
    (try simp only [Act.put, zI, zJ, zK])
    refine tU 8 97 (.pointer (some ⟨gi, 3, none⟩)) ?_
    simp only [Act.put, zI, zJ, zK]
    refine UpTo.last (by kernel_rfl) rfl (by kernel_rfl) (fun K hK => ?_)
    go_simp
    refine hK.out _ _ ?_
    clear hK K
    go_wp2_with fail
    go_roundw
    case rel => exact ⟨k + 1, m - 1, by have := HKM.out; omega, by rw [HWM.out], LpR.push stays_nd (fun _ _ => rfl) HRC.out HO.out (HM.out HH0.out) HN0.out HK4.out HR4.out (by rw [HE3.out]) HG5.out HO5.out HAT.out (fun hz => by obtain rfl := HV5.out hz; rw [HE3.out]; exact ⟨(Av, cv), rfl, src_fresh HD5.out HB4.out HK2.out.size⟩)⟩
    case measure => simp only [intOf, HWM.out, Int.toNat_natCast]; omega
   ·
    have he0 : ((rdMany rdNd k u).2.2.1 == 0) = false := by simpa using h0
    obtain ⟨va, x0, x1, x2⟩ := HL.out.exit (N := N) clean_nd stays_nd (fun _ _ => rfl) (by have := HKM.out; omega) (.inr h0)
    have X0 := hD x0
    have X1 := hD x1
    have X2 := hD x2
    clear x0 x1 x2 h0 HL
    go_wp2_with fail
    apply key
    ·
     exact X0.out
    ·
     exact X1.out
    ·
     exact X2.out
  ·
   obtain rfl : m = 0 := by omega
   obtain rfl : k = N := by have := HKM.out; omega
   obtain ⟨va, x0, x1, x2⟩ := HL.out.exit (N := k) clean_nd stays_nd (fun _ _ => rfl) (Nat.le_refl _) (.inl rfl)
   have X0 := hD x0
   have X1 := hD x1
   have X2 := hD x2
   clear x0 x1 x2 HL
   go_wp2_with fail
   apply key
   ·
    exact X0.out
   ·
    exact X1.out
   ·
    exact X2.out
end Go.Proofs.YtfljignkjmabpaaGreat
namespace Go.Proofs.YtfljignkjmabpaaGreat
set_option maxRecDepth 100000
open Go.RowKit
set_option maxHeartbeats 40000000 in
theorem dread_any (P : Nat → Prop) (A : Option Addr) (n c : Nat) (l : Str) (w : World) (h : Src w P A n c (cells l)) (hP : ∀ k, P k → k < w.heap.size) (hn : n ≤ 140737488355328) (hc : c ≤ 9223372036854775807) : Calls Tryz.prog 19 #[.slice A n c] w (Dread w (rdIm (0, l))) := by
 obtain ⟨hs1, hs2, hs3⟩ := dread_start P A n c l w h hP hn hc
 have HRC := hD hs1
 have HBX := hD hs2
 have HB0 := hD hs3
 clear h hP hn hc hs1 hs2 hs3
 go_enter Tryz.func19, Tryz.ntmps19
 go_upto_region 3 with (fail)
 change Code.wp _ _ _ _ (((w.alloc (.cells (cz [] 0 noS noS noS noS noS noS 0 noS noS noS noS noS 0) 40)).alloc (.cells #[.slice A n c, .int .i64 0] 118)).alloc (.cells (cz [] 0 noS noS noS noS noS noS 0 noS noS noS noS noS 0) 40))
 generalize (((w.alloc (.cells (cz [] 0 noS noS noS noS noS noS 0 noS noS noS noS noS 0) 40)).alloc (.cells #[.slice A n c, .int .i64 0] 118)).alloc (.cells (cz [] 0 noS noS noS noS noS noS 0 noS noS noS noS noS 0) 40)) = w3 at *
 have HZG := hD (show w.heap.size < w.heap.size + 1 from by omega)
 generalize hgi : w.heap.size + 2 = gi at *
 clear hgi
 generalize hg : w.heap.size + 1 = g at *
 generalize hBw : w.heap.size = B at *
 have HBW := hD hBw
 clear hg hBw
 generalize hs0 : ((0 : Int), l) = s0 at *
 clear hs0
 have HN := hD (rtext_d HRC.out.rq)
 go_upto_region 4 with (go_at_call 55; (with_reducible refine (HN.out).mono ?_); rintro en v1 ⟨rfl, hr, hg⟩; have HR2 := hD (HRC.out.call hr hg); clear hr hg)
 clear HN HRC
 have HQ0 := hD (show rdMark s0 = mkMark (rMeas 2 4096 s0) from rfl)
 generalize rMeas 2 4096 s0 = t0 at *
 obtain ⟨l0, s1⟩ := t0
 generalize hok : (l0 == [99, 108, 101, 118, 105, 115, 49]) = ok0
 have HOK := hD (show ok0 = !(mkMark (l0, s1)).2.1 by rw [← hok]; unfold mkMark; rw [Bool.eq_iff_iff]; simp [mark])
 clear hok
 have HS1 := hD (show (mkMark (l0, s1)).2.2 = s1 from rfl)
 generalize mkMark (l0, s1) = q0 at *
 obtain rfl := HS1.out
 clear HS1
 have HN := hD (rtext_d HR2.out.rq)
 go_upto_region 5 with (go_at_call 55; (with_reducible refine (HN.out).mono ?_); rintro en v3 ⟨rfl, hr, hg⟩; have HR4 := hD (HR2.out.call hr hg); have k0 : v3.cell? ⟨gi, 0, none⟩ = some (str []) := HR4.out.bx.c 0; have k1 := HR4.out.bx.f 0; clear hr hg)
 have HR6 := hD (show Rc w3 (v3.setCell ⟨gi, 0, none⟩ (str (rMeas 2 4096 q0.2.2).1)) B g gi (cz ((rMeas 2 4096 q0.2.2).1) 0 noS noS noS noS noS noS 0 noS noS noS noS noS 0) _ from HR4.out.set 0 (str (rMeas 2 4096 q0.2.2).1))
 change Code.wp _ _ _ _ (v3.setCell ⟨gi, 0, none⟩ (str (rMeas 2 4096 q0.2.2).1))
 generalize v3.setCell ⟨gi, 0, none⟩ (str (rMeas 2 4096 q0.2.2).1) = v5 at *
 clear k0 k1 HR4 HN HR2
 generalize hq1 : rMeas 2 4096 q0.2.2 = q1 at *
 have HQ1 := hD hq1
 clear hq1
 have HN := hD (rnum_d HR6.out.rq 1)
 go_upto_region 6 with (go_at_call 56; (with_reducible refine (HN.out).mono ?_); rintro en v7 ⟨rfl, hr, hg⟩; have HR8 := hD (HR6.out.call hr hg); have k0 : v7.cell? ⟨gi, 1, none⟩ = some (.int .i64 0) := HR8.out.bx.c 1; have k1 := HR8.out.bx.f 1; clear hr hg)
 have HR10 := hD (show Rc w3 (v7.setCell ⟨gi, 1, none⟩ (.int .i64 (rNum 1 q1.2).1)) B g gi (cz q1.1 ((rNum 1 q1.2).1) noS noS noS noS noS noS 0 noS noS noS noS noS 0) _ from HR8.out.set 1 (.int .i64 (rNum 1 q1.2).1))
 change Code.wp _ _ _ _ (v7.setCell ⟨gi, 1, none⟩ (.int .i64 (rNum 1 q1.2).1))
 generalize v7.setCell ⟨gi, 1, none⟩ (.int .i64 (rNum 1 q1.2).1) = v9 at *
 clear k0 k1 HR8 HN HR6
 generalize hq2 : rNum 1 q1.2 = q2 at *
 have HQ2 := hD hq2
 clear hq2
 have HR11 := hD (HR10.out.rebase)
 have HKN12 := hD HR10.out.kr
 have HLT13 := hD (show g < v9.heap.size ∧ gi < v9.heap.size from ⟨Nat.lt_trans HR10.out.lt HR10.out.bx.lt, HR10.out.bx.lt⟩)
 clear HR10
 obtain ⟨N, u, hnn, hN⟩ := num_nat (size := 1) (by decide) (by decide) q2.2
 have HNN := hD hnn
 have HQ3 := hD (rdList_of (r := rdSg) hnn)
 clear hnn
 rename_i K1 ha1 K2 ha2
 have key : ∀ (y0 y1 y7 y8 y9 ya yb yc yd ye yf yg yh yi yj yk yl ym yn yo yp yq yr ys yt yu yv yw yx yy yz yA yB yC yD yE yF yG yH yI yJ yK yL yM yN yO yP yQ yR yS yT yU yV yW yX yY yZ z0 z1 z2 z3 z4 z5 z6 z7 z8 z9 za zb zc zd ze zf zg zh zi zj zk zl zm zn zo zp zq zr zs zt zu zv zw zx zy zz zA zB zC zD zE zF zG zH zL zM zN zO zP zQ zR zS zT zU zV zW zX zY zZ x0 x1 x2 x3 x4 x5 x6 x7 x8 x9 xa xb xc xd xe xf xg xh xi xj xk xl xm xn xo xp xq xr xs xt xu xv xw xx xy xz xA xB xC xD xE xF xG xH xI xJ xK xL xM xN xO xP xQ xR xS xT xU xV xW xX xY xZ j0 j1 j2 j3 j4 j5 j6 j7 j8 j9 ja jb jc jd je jf jg jh ji jj jk jl jm jn jo jp jq jr js jt ju jv jw jx jy jz jA jB jC jD jE jF jG jH jI jJ jK jL jM jN jO jP jQ jR jS jT jU jV jW jX jY jZ u0 u1 u2 u3 u4 u5 u6 u7 u8 u9 ua ub uc ud ue uf ug uh ui uj uk ul um un uo up uq ur us ut uu uv uw ux : Value) (wk3 : World) (a2 : Value) , a2.oneCell' = true → Rc v9 wk3 B g gi (cz q1.1 q2.1 a2 noS noS noS noS noS 0 noS noS noS noS noS 0) (rdMany rdSg N u).2.2 → ((rdMany rdSg N u).2.2.1 = 0 → GL sgA noSg datSg v9 wk3 4 a2 (rdMany rdSg N u).1) → K1 ⟨#[y0, y1, .pointer (some ⟨B, 0, none⟩), .bool false, .pointer (some ⟨g, 0, none⟩), .pointer (some ⟨gi, 0, none⟩), .bool ok0, y7, y8, y9, ya, yb, yc, yd, ye, yf, yg, yh, yi, yj, yk, yl, ym, yn, yo, yp, yq, yr, ys, yt, yu, yv, yw, yx, yy, yz, yA, yB, yC, yD, yE, yF, yG, yH, yI, yJ, yK, yL, yM, yN, yO, yP, yQ, yR, yS, yT, yU, yV, yW, yX, yY, yZ, z0, z1, z2, z3, z4, z5, z6, z7, z8, z9, za, zb, zc, zd, ze, zf, zg, zh, zi, zj, zk, zl, zm, zn, zo, zp, zq, zr, zs, zt, zu, zv, zw, zx, zy, zz, zA, zB, zC, zD, zE, zF, zG, zH, zL, zM, zN, zO, zP, zQ, zR, zS, zT, zU, zV, zW, zX, zY, zZ, x0, x1, x2, x3, x4, x5, x6, x7, x8, x9, xa, xb, xc, xd, xe, xf, xg, xh, xi, xj, xk, xl, xm, xn, xo, xp, xq, xr, xs, xt, xu, xv, xw, xx, xy, xz, xA, xB, xC, xD, xE, xF, xG, xH, xI, xJ, xK, xL, xM, xN, xO, xP, xQ, xR, xS, xT, xU, xV, xW, xX, xY, xZ, j0, j1, j2, j3, j4, j5, j6, j7, j8, j9, ja, jb, jc, jd, je, jf, jg, jh, ji, jj, jk, jl, jm, jn, jo, jp, jq, jr, js, jt, ju, jv, jw, jx, jy, jz, jA, jB, jC, jD, jE, jF, jG, jH, jI, jJ, jK, jL, jM, jN, jO, jP, jQ, jR, jS, jT, jU, jV, jW, jX, jY, jZ, u0, u1, u2, u3, u4, u5, u6, u7, u8, u9, ua, ub, uc, ud, ue, uf, ug, uh, ui, uj, uk, ul, um, un, uo, up, uq, ur, us, ut, uu, uv, uw, ux], []⟩ wk3 := by
  intros; rename_i wk3 a2 h0 h1 h2
  have HR14 := hD h1
  have HOC3 := hD h0
  have HGL3 := hD h2
  clear h0 h1 h2 ha2 K2 HR11 HNN hN
  generalize rdMany rdSg N u = q3 at *
  have HR15 := hD (HR14.out.rebase)
  have HKN16 := hD HR14.out.kr
  have HLT17 := hD (show g < wk3.heap.size ∧ gi < wk3.heap.size from ⟨Nat.lt_trans HR14.out.lt HR14.out.bx.lt, HR14.out.bx.lt⟩)
  clear HR14
  refine ha1 _ _ ?_
  exact dread_s3 HBX HB0 HZG HBW HQ0 HOK HQ1 HQ2 HKN12 HLT13 HQ3 HOC3 HGL3 HKN16 HLT17 HR15
 clear ha1
 obtain ⟨i0, hi, hz0, hz1, hz2⟩ := info_parts Tryz.info_rlSeg
 have HN := hD (show Calls Tryz.prog 56 #[.pointer (some ⟨g, 0, none⟩), .int .i64 1] v9 (fun e w' => e = .returned (.int .i64 (N : Int)) ∧ Rq w' B g u ∧ v9.grownBy w' (some g)) from by have q := rnum_d HR11.out.rq 1; rw [HNN.out] at q; exact q)
 go_wp2_with (go_at_call 56; (with_reducible refine (HN.out).mono ?_); rintro en v109 ⟨rfl, hr, hg⟩; have HR110 := hD (HR11.out.call hr hg); clear hr hg)
 clear HN HNN
 rename_i xw1 xe1 xw2 vq hvq
 injection hvq with hvq
 subst hvq
 go_loopw [7] (fun t wr => ∃ k m : Nat, k + m = N ∧ t = .int .i64 (m : Int) ∧ LpR rdSg sgA noSg datSg v9 B g gi (fun v => (cz q1.1 q2.1 v noS noS noS noS noS 0 noS noS noS noS noS 0)) 61 4 u k wr) (fun t _ => (intOf t).toNat)
 case atStart => exact ⟨0, N, by omega, rfl, LpR.start HR110.out⟩
 case round =>
  obtain ⟨k, m, hkm, rfl, hl⟩ := hrel
  have HL := hD hl
  have HKM := hD (show k + m = N ∧ N ≤ 65535 from ⟨hkm, hN⟩)
  obtain ⟨n, c, A, xs, hn, hrc, hown, hmk⟩ := hl
  have he := hrc.rq.e
  have HRC := hD hrc
  have HO := hD hown
  have HM := hD hmk
  have HN0 := hD hn
  have HGL := hD (show gi < v9.heap.size ∧ g < v9.heap.size from ⟨hrc.gt, Nat.lt_trans hrc.lt hrc.gt⟩)
  have HLW := hD (show gi < wr.heap.size ∧ g < wr.heap.size from ⟨hrc.bx.lt, Nat.lt_trans hrc.lt hrc.bx.lt⟩)
  clear HR110 HR11 hn hrc hown hmk hN hkm
  by_cases hlt : 0 < m
  ·
   by_cases h0 : (rdMany rdSg k u).2.2.1 = 0
   ·
    have HH0 := hD h0
    have HWM := hD (wrap_dec hlt HKM.out)
    rw [h0] at he
    clear h0 HL key
    obtain ⟨a, b, p, bs, s1, s2, s3, e1, e2, e3, e4⟩ := rdSg_at (rdMany rdSg k u).2.2
    have HE1 := hD e1
    have HE2 := hD e2
    have HE3 := hD e3
    have HE4 := hD e4
    have HBL := hD (show bs.length ≤ 1048576 by have := rBlock_short s2; rw [e3] at this; exact this)
    clear e1 e2 e3 e4
    have HN := hD (show Calls Tryz.prog 57 #[.pointer (some ⟨g, 0, none⟩), .int .i64 2, .int .i64 4] wr _ from dlist_any B g _ 4 2 wr HRC.out.rq (by omega))
    rw [HE1.out] at HN
    dsimp only at HN
    go_upto_region 10 with (go_at_call 57; (with_reducible refine (HN.out).mono ?_); rintro en x1 ⟨Ax, cx, Lx, rfl, ho, hl, hr, hv, hg⟩; have HR1 := hD (HRC.out.call hr hg); have HX1 := hD ho; have HLX := hD hl; have HVX := hD hv; have HK1 := hD (Kr.of_grown (gi := gi) hg); clear hr hg ho hl hv)
    clear HN
    have HN := hD (rnum_d HR1.out.rq 1)
    rw [HE2.out] at HN
    dsimp only at HN
    go_upto_region 11 with (go_at_call 56; (with_reducible refine (HN.out).mono ?_); rintro en x2 ⟨rfl, hr, hg⟩; have HR2 := hD (HR1.out.call hr hg); have HK2 := hD (HK1.out.trans (Kr.of_grown (gi := gi) hg)); have HX2 := hD (own_kr HX1.out (Kr.of_grown (gi := gi) hg) HLW.out.1 HLW.out.2); clear hr hg)
    clear HN
    have HN := hD (rblock_d HR2.out.rq)
    rw [HE3.out] at HN
    dsimp only at HN
    go_upto_region 12 with (first
     | (go_at_call 59; (with_reducible refine (HN.out).mono ?_); rintro en x3 ⟨Ab, cb, rfl, hs, hr, hg⟩; have HR3 := hD (HR2.out.call hr hg); have HK3 := hD (HK2.out.trans (Kr.of_grown (gi := gi) hg)); have HX3 := hD (own_kr HX2.out (Kr.of_grown (gi := gi) hg) HLW.out.1 HLW.out.2); have HNB := hD (dbytes_any _ Ab cb bs x3 hs HBL.out); clear hr hg hs)
     | (go_at_call 58; (with_reducible refine (HNB.out).mono ?_); rintro en x4 ⟨Ad, cd, rfl, ho, hb⟩; have HR5 := hD (HR3.out.below hb); have HK5 := hD (HK3.out.trans (Kr.of_below hb)); have HX5 := hD (own_kr HX3.out (Kr.of_below (G := gi) (g := g) hb) HLW.out.1 HLW.out.2); have HD5 := hD ho; clear hb ho))
    have HX := HX5
    clear HN HNB HR1 HR2 HR3 HX1 HX2 HX3 HX5 HK1 HK2
    have HS3 := hD (show s3.1 = 0 → s1.1 = 0 from fun h => was_num HE2.out (was_meas HE3.out h))
    rcases two_of HLX.out with ⟨a1, b1, rfl⟩ | hlt2
    ·
     obtain ⟨qx, rfl, hq, hql, hcx⟩ := ints_cells HX.out (by simp)
     have HC0 := hD (show x4.cell? ⟨qx, 0, none⟩ = some (.int .i64 a1) from hcx 0 (by simp))
     have HC1 := hD (show x4.cell? ⟨qx, 1, none⟩ = some (.int .i64 b1) from hcx 1 (by simp))
     have HF := hD (show ∀ X, Sv g (row A) x4 X → X.cell? ⟨gi, 2, none⟩ = some (.slice A n c) ∧ X.cell? ⟨qx, 0, none⟩ = some (.int .i64 a1) ∧ X.cell? ⟨qx, 1, none⟩ = some (.int .i64 b1) from fun X hX => ⟨hX.cell (HR5.out.bx.c 2) (by have := HRC.out.lt; simp only; omega) (fun e => by have := (HO.out.lt gi (by rw [row_own]; exact e.symm)).1; have := HRC.out.gt; omega), hX.cell HC0.out (by have := HLW.out.2; simp only; omega) (fun e => by have := (HO.out.lt qx (by rw [row_own]; exact e.symm)).2; omega), hX.cell HC1.out (by have := HLW.out.2; simp only; omega) (fun e => by have := (HO.out.lt qx (by rw [row_own]; exact e.symm)).2; omega)⟩)
     clear hq hql hcx
     go_upto_region 13 with (fail)
     have HB4 := hD (show Below x4.heap.size x4 (x4.drew.alloc (.cells #[.int .i64 a1, .int .i64 b1, .slice Ad bs.length cd, .int .i64 p] 61)) from (drew_below x4).trans (((Below.refl _ _).alloc (Nat.le_refl _) _).mono (Nat.le_refl _)))
     have HR4 := hD (HR5.out.below HB4.out)
     have HK4 := hD (HK5.out.trans (Kr.of_below HB4.out))
     have HOA := hD (own_kr HO.out HK4.out HGL.out.1 HGL.out.2)
     have HNW := hD (World.news_of_block (Bx.new x4.drew #[.int .i64 a1, .int .i64 b1, .slice Ad bs.length cd, .int .i64 p] 61))
     have hn0 := HN0.out
     have hkm' := HKM.out
     have m1 : n + 1 ≤ maxLen := by simp only [maxLen]; omega
     have m2 : (n + 1) * 48 ≤ 140737488355328 := Nat.le_trans (Nat.mul_le_mul_right 48 (show n + 1 ≤ 100000 by omega)) (Nat.le_of_ble_eq_true rfl)
     have HBS := hD (show v9.heap.size ≤ (x4.drew.alloc (.cells #[.int .i64 a1, .int .i64 b1, .slice Ad bs.length cd, .int .i64 p] 61)).heap.size from Nat.le_trans HRC.out.kr.size HK4.out.size)
     have HBX4 := hD HR4.out.bx
     clear hn0 hkm'
     refine UpTo.region 14 (Sv g (row A) x4) (by kernel_rfl) (Sv.drew _ _ _) (fun hHeld => ?_)
     refine tU 0 60 (.pointer (some ⟨gi, 2, none⟩)) ?_
     simp only [Act.put, zI, zJ, zK]
     refine tV 1 61 (.slice A n c) ?_ ?_
     ·
      intro X hX; obtain ⟨f0, f1, f2⟩ := HF.out X hX; go_simp
     (try simp only [Act.put, zI, zJ, zK])
     refine tU 2 62 (.slice (some ⟨qx, 0, none⟩) 2 cx) ?_
     simp only [Act.put, zI, zJ, zK]
     refine tU 3 63 (.pointer (some ⟨qx, 0, none⟩)) ?_
     simp only [Act.put, zI, zJ, zK]
     refine tV 4 64 (.int .i64 a1) ?_ ?_
     ·
      intro X hX; obtain ⟨f0, f1, f2⟩ := HF.out X hX; go_simp
     (try simp only [Act.put, zI, zJ, zK])
     refine tU 5 65 (.slice (some ⟨qx, 0, none⟩) 2 cx) ?_
     simp only [Act.put, zI, zJ, zK]
     refine tU 6 66 (.pointer (some ⟨qx, 1, none⟩)) ?_
     simp only [Act.put, zI, zJ, zK]
     refine tV 7 67 (.int .i64 b1) ?_ ?_
     ·
      intro X hX; obtain ⟨f0, f1, f2⟩ := HF.out X hX; go_simp
     (try simp only [Act.put, zI, zJ, zK])
     refine tU 8 68 (.int .i64 p) ?_
     simp only [Act.put, zI, zJ, zK]
     refine tU 9 69 (.slice Ad bs.length cd) ?_
     simp only [Act.put, zI, zJ, zK]
     refine tU 10 70 (.agg #[.int .i64 a1, .int .i64 b1, .slice Ad bs.length cd, .int .i64 p]) ?_
     simp only [Act.put, zI, zJ, zK]
     refine UpTo.step (i := 11) (by kernel_rfl) rfl (fun K hK => ?_)
     go_simp
     refine hK.out _ _ (hHeld.alloc _) (fun hHeld => ?_)
     clear hK K
     (try simp only [Act.put, zI, zJ, zK])
     refine UpTo.step (i := 12) (by kernel_rfl) rfl (fun K hK => ?_)
     refine step_append_lies _ rfl (.tmp 61) (.tmp 71) 26 rfl v9.heap.size 61 i0 _ 4 48 Tryz.underlying26 hi hz0 hz1 hz2 rfl (by decide) (.slice A n c) n xs (by rfl) HOA.out ⟨x4.heap.size, 0, none⟩ 1 1 (#[.int .i64 a1, .int .i64 b1, .slice Ad bs.length cd, .int .i64 p] : Array Value).toList (by rfl) (by rfl) (by exact HNW.out) (by simp [Value.oneCell']) (by decide) m1 m2 HBS.out _ rfl ?_
     intro g5 c5 w5 hown hgr hat hlt5
     refine hK.out _ _ (hHeld.row (row_own A n c ▸ hgr)) (fun hHeld => ?_)
     clear hK K
     have HO5 := hD hown
     have HG5 := hD hgr
     have HAT := hD hat
     have k0 : w5.cell? ⟨gi, 2, none⟩ = some (.slice A n c) := (hgr.cell_far _ HBX4.out.lt (fun e => by have := (HOA.out.lt gi e.symm).1; have := HGL.out.1; omega)).trans (HBX4.out.c 2)
     have k1 : w5.frozen? ⟨gi, 2, none⟩ = false := (hgr.frozen_far _ HBX4.out.lt (fun e => by have := (HOA.out.lt gi e.symm).1; have := HGL.out.1; omega)).trans (HBX4.out.f 2)
     clear hown hgr hat hlt5
     (try simp only [Act.put, zI, zJ, zK])
     refine tU 13 73 (.pointer (some ⟨gi, 2, none⟩)) ?_
     simp only [Act.put, zI, zJ, zK]
     refine UpTo.last (by kernel_rfl) rfl (by kernel_rfl) (fun K hK => ?_)
     go_simp
     refine hK.out _ _ ?_
     clear hK K
     go_wp2_with fail
     go_roundw
     case rel => exact ⟨k + 1, m - 1, by have := HKM.out; omega, by rw [HWM.out], LpR.push stays_sg (fun _ _ => rfl) HRC.out HO.out (HM.out HH0.out) HN0.out HK4.out HR4.out (by rw [HE4.out]) HG5.out HO5.out HAT.out (fun hz => by have e1 := HVX.out (HS3.out hz); simp only [List.cons.injEq, and_true] at e1; obtain ⟨rfl, rfl⟩ := e1; rw [HE4.out]; exact ⟨(Ad, cd), rfl, src_fresh HD5.out HB4.out HK3.out.size⟩)⟩
     case measure => simp only [intOf, HWM.out, Int.toNat_natCast]; omega
    ·
     have hl2 : ((Lx.length : Int) == 2) = false := beq_eq_false_iff_ne.2 (by omega)
     go_wp2_with fail
     go_roundw
     case rel => exact ⟨k + 1, m - 1, by have := HKM.out; omega, by rw [HWM.out], LpR.skip HR5.out (by rw [HE4.out]) (own_kr HO.out HK5.out HGL.out.1 HGL.out.2) HN0.out (fun hz => by have e1 := HVX.out (HS3.out hz); rw [e1] at hlt2; simp at hlt2)⟩
     case measure => simp only [intOf, HWM.out, Int.toNat_natCast]; omega
   ·
    have he0 : ((rdMany rdSg k u).2.2.1 == 0) = false := by simpa using h0
    obtain ⟨va, x0, x1, x2⟩ := HL.out.exit (N := N) clean_sg stays_sg (fun _ _ => rfl) (by have := HKM.out; omega) (.inr h0)
    have X0 := hD x0
    have X1 := hD x1
    have X2 := hD x2
    clear x0 x1 x2 h0 HL
    go_wp2_with fail
    apply key
    ·
     exact X0.out
    ·
     exact X1.out
    ·
     exact X2.out
  ·
   obtain rfl : m = 0 := by omega
   obtain rfl : k = N := by have := HKM.out; omega
   obtain ⟨va, x0, x1, x2⟩ := HL.out.exit (N := k) clean_sg stays_sg (fun _ _ => rfl) (Nat.le_refl _) (.inl rfl)
   have X0 := hD x0
   have X1 := hD x1
   have X2 := hD x2
   clear x0 x1 x2 HL
   go_wp2_with fail
   apply key
   ·
    exact X0.out
   ·
    exact X1.out
   ·
    exact X2.out
end Go.Proofs.YtfljignkjmabpaaGreat
