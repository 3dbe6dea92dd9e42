/- A part of the proof. -/
import Derived.Test.YtfljignkjmabpaaGreatZDA
set_option linter.unusedSimpArgs false
set_option linter.unusedVariables false
namespace Go.Proofs.YtfljignkjmabpaaGreat
set_option maxRecDepth 100000
open Go.RowKit
theorem rNum_top {size : Int} (h2 : size ≤ 2) (s : St) : (rNum size s).1 ≤ 65535 := by
 by_cases hs : sized size = true
 ·
  obtain ⟨k, rfl⟩ : ∃ k : Nat, size = k := ⟨size.toNat, by simp only [sized, decide_eq_true_eq] at hs; omega⟩
  unfold rNum
  rw [if_pos hs, Int.toNat_natCast]
  show val (rTake k s).1 ≤ 65535
  have hl := rTake_len k s
  rw [val_small _ (by omega)]
  have h1 := valN_lt (rTake k s).1
  have h3 : 256 ^ (rTake k s).1.length ≤ 256 ^ 2 := Nat.pow_le_pow_right (by omega) (by omega)
  omega
 ·
  unfold rNum
  rw [if_neg hs]
  exact (by decide : (0 : Int) ≤ 65535)
theorem src_old {wr w2 w4 w5 : World} {G g B0 : Nat} {A A5 a : Option Addr} {n c : Nat} {xs : List Value} (h : Src wr (fun q => (B0 ≤ q ∧ q < wr.heap.size) ∧ row A ≠ some q) a n c xs) (hk : Kr G g wr w2) (hb : Below w2.heap.size w2 w4) (hgr : w4.grownBy w5 (row A)) (hG : G < B0) (hg : g < B0) (hat : row A5 = row A ∨ row A5 = some w4.heap.size) :
  Src w5 (fun q => (B0 ≤ q ∧ q < w5.heap.size) ∧ row A5 ≠ some q) a n c xs := by
 have z1 := hk.size
 have z2 := hb.size
 have z3 := hgr.size
 refine (h.keep fun q hq hl => ?_).weak fun q hq => ⟨⟨hq.1.1, by omega⟩, ?_⟩
 ·
  rw [hgr.block q (by omega) (Ne.symm hq.2), hb.block q (by omega), hk.block q hl (by omega) (by omega)]
 ·
  rcases hat with e | e
  ·
   rw [e]; exact hq.2
  ·
   rw [e]
   intro e2
   injection e2 with e2
   omega
theorem src_item {wr w2 w4 w5 : World} {B0 : Nat} {A A5 a : Option Addr} {n c : Nat} {xs : List Value} (h : Src w2 (fun q => wr.heap.size ≤ q ∧ q < w2.heap.size) a n c xs) (hB : B0 ≤ wr.heap.size) (hr : ∀ q, row A = some q → q < wr.heap.size) (hb : Below w2.heap.size w2 w4) (hgr : w4.grownBy w5 (row A)) (hat : row A5 = row A ∨ row A5 = some w4.heap.size) :
  Src w5 (fun q => (B0 ≤ q ∧ q < w5.heap.size) ∧ row A5 ≠ some q) a n c xs := by
 have z2 := hb.size
 have z3 := hgr.size
 have hne : ∀ q, wr.heap.size ≤ q → row A ≠ some q := fun q hq e => by have := hr q e; omega
 refine (h.keep fun q hq hl => ?_).weak fun q hq => ⟨⟨by omega, by omega⟩, ?_⟩
 ·
  rw [hgr.block q (by omega) (Ne.symm (hne q hq.1)), hb.block q hq.2]
 ·
  rcases hat with e | e
  ·
   rw [e]; exact hne q hq.1
  ·
   rw [e]
   intro e2
   injection e2 with e2
   omega
def NoDat (_ : Nat) : Prop := True
theorem els_nil (w : World) (P : Nat → Prop) (sz : Nat) (E : Nat → Array Value) : Els w P none 0 0 sz E := ⟨fun _ => ⟨rfl, rfl⟩, Nat.le_refl _, (by intro ad h; cases h), (by intro ad h; cases h)⟩
theorem getD_old {α : Type} {l : List α} {y d : α} {i : Nat} (h : i < l.length) : (l ++ [y]).getD i d = l.getD i d := by
 rw [List.getD_eq_getElem?_getD, List.getElem?_append_left h, ← List.getD_eq_getElem?_getD]
theorem getD_last {α : Type} {l : List α} {y d : α} {i : Nat} (h : i = l.length) : (l ++ [y]).getD i d = y := by
 subst h
 rw [List.getD_eq_getElem?_getD, List.getElem?_append_right (Nat.le_refl _)]
 simp
theorem own_snoc {α : Type} {w : World} {base sz k : Nat} {e : TypeId} {v : Value} {ys : List α} {y d : α} {B : Nat → Option Addr × Nat} {Bq : Option Addr × Nat} {arr : α → Option Addr × Nat → Array Value} (hl : ys.length = k)
  (h : w.ownsRow base e sz v (k + 1) (flatE (fun i => arr (ys.getD i d) (B i)) k ++ (arr y Bq).toList)) : w.ownsRow base e sz v (k + 1) (flatE (fun i => arr ((ys ++ [y]).getD i d) (if i = k then Bq else B i)) (k + 1)) := by
 have e1 : flatE (fun i => arr ((ys ++ [y]).getD i d) (if i = k then Bq else B i)) (k + 1) = flatE (fun i => arr (ys.getD i d) (B i)) k ++ (arr y Bq).toList := by
  show flatE (fun i => arr ((ys ++ [y]).getD i d) (if i = k then Bq else B i)) k ++ (arr ((ys ++ [y]).getD k d) (if k = k then Bq else B k)).toList = _
  rw [if_pos rfl, getD_last hl.symm]
  congr 1
  refine flatE_congr k fun i hi => ?_
  rw [if_neg (by omega), getD_old (by omega)]
 rw [e1]
 exact h
theorem Tryz.info_rlSeg : (Tryz.prog.info? 61).map (fun i => (i.zero, i.size, i.bytes)) = some (some (.agg #[.int .i64 0, .int .i64 0, .slice none 0 0, .int .i64 0]), 4, 48) := by kernel_rfl
def ItrlSeg (w : World) (G g : Nat) (bad : Bool) (t : St) (en : Ending) (w' : World) : Prop :=
 ∃ (y : Sg) (B : Option Addr × Nat), en = .returned (.agg (sgA y B)) ∧ Src w' (fun k => w.heap.size ≤ k ∧ k < w'.heap.size) B.1 y.bs.length B.2 (cells y.bs) ∧ ((rdSg t).2.2.1 = 0 → y = (rdSg t).1) ∧ Ri w' G g (bad || (rdSg t).2.1) (rdSg t).2.2 ∧ Kr G g w w'
def LsrlSeg (w : World) (G g : Nat) (bad : Bool) (r : List (Sg) × Bool × St) (en : Ending) (w' : World) : Prop :=
 ∃ (A : Option Addr) (c : Nat) (ys : List (Sg)) (B : Nat → Option Addr × Nat), en = .returned (.slice A ys.length c) ∧ Els w' (fun k => w.heap.size ≤ k ∧ k < w'.heap.size) A ys.length c 4 (fun k => sgA (ys.getD k noSg) (B k)) ∧ (∀ k, k < ys.length → Src w' (fun q => w.heap.size ≤ q ∧ q < w'.heap.size) (B k).1 (ys.getD k noSg).bs.length (B k).2 (cells (ys.getD k noSg).bs)) ∧
  (r.2.2.1 = 0 → ys = r.1) ∧ Ri w' G g (bad || r.2.1) r.2.2 ∧ Kr G g w w'
set_option maxHeartbeats 2000000 in
theorem rlSeg_any {G g : Nat} {bad : Bool} {s : St} (size : Int) (hsz : size ≤ 2) (fn : Nat) (w : World) (h : Ri w G g bad s) (hE : ∀ (args : Array Value) (X : World), (callFunc fn args).run Tryz.prog X = .ok (.enter fn args) X)
  (HF : ∀ (X : World) (b : Bool) (t : St), Ri X G g b t → Kr G g w X → Calls Tryz.prog fn #[.pointer (some ⟨G, 0, none⟩)] X (ItrlSeg X G g b t)) :
  Calls Tryz.prog 40 #[.pointer (some ⟨G, 0, none⟩), .int .i64 size, .func (.func fn) #[.pointer (some ⟨G, 0, none⟩)] #[]] w (LsrlSeg w G g bad (rdList size rdSg s)) := by
 obtain ⟨i0, hi, hz0, hz1, hz2⟩ := info_parts Tryz.info_rlSeg
 have hc := h.c0
 have HN := hD (h.num size)
 have HP := hD HF
 have HG := hD (show g < G ∧ G < w.heap.size from ⟨h.lt, h.gt⟩)
 have hn0 := rNum_nn (size := size) (by omega) s
 have hn1 := rNum_top (size := size) hsz s
 have HL := hD (show rdList size rdSg s = rdMany rdSg (rNum size s).1.toNat (rNum size s).2 from rfl)
 rw [HL.out]
 clear h HF HL
 generalize rNum size s = t1 at *
 obtain ⟨n, s1⟩ := t1
 simp only at HN hn0 hn1 ⊢
 obtain ⟨N, rfl⟩ : ∃ N : Nat, n = (N : Int) := ⟨n.toNat, by omega⟩
 rw [Int.toNat_natCast]
 have hN : N ≤ 65535 := by omega
 clear hn0 hn1
 go_enter Tryz.func40, Tryz.ntmps40
 go_wp2_with (go_at_call 39; (with_reducible refine (HN.out).mono ?_); rintro en w1 ⟨rfl, h1, h2⟩; have H1 := hD h1; have H2 := hD h2; clear h1 h2)
 clear HN hc
 go_loopw [7, 15] (fun v t wr => ∃ (k : Nat) (A : Option Addr) (c : Nat) (ys : List (Sg)) (B : Nat → Option Addr × Nat), k ≤ N ∧ t = .int .i64 k ∧ v = .slice A k c ∧ ys.length = k ∧ ys = (rdMany rdSg k s1).1 ∧ wr.ownsRow w.heap.size 61 4 (.slice A k c) k (flatE (fun k => sgA (ys.getD k noSg) (B k)) k) ∧
  (∀ i, i < k → Src wr (fun q => (w.heap.size ≤ q ∧ q < wr.heap.size) ∧ row A ≠ some q) (B i).1 (ys.getD i noSg).bs.length (B i).2 (cells (ys.getD i noSg).bs)) ∧ Ri wr G g (bad || (rdMany rdSg k s1).2.1) (rdMany rdSg k s1).2.2 ∧ Kr G g w wr) (fun _ t _ => N - (intOf t).toNat)
 case atStart => exact ⟨0, none, 0, [], fun _ => (none, 0), Nat.zero_le _, rfl, rfl, rfl, rfl, World.ownsRow_nil _ _ _ _, (by intro i hi; omega), by rw [show (bad || (rdMany rdSg 0 s1).2.1) = bad from Bool.or_false _]; exact H1.out, H2.out⟩
 case round =>
  obtain ⟨k, A, c, ys, B, hk, rfl, rfl, hyl, hys, hown, hdat, hri, hkr⟩ := hrel
  have HYL := hD hyl
  have HYS := hD hys
  have HOW := hD hown
  have HD := hD hdat
  have HRI := hD hri
  have HKR := hD hkr
  clear hyl hys hown hdat hri hkr
  by_cases hlt : k < N
  ·
   have HC := hD (HP.out wr _ _ HRI.out HKR.out)
   have HSN := hD (rdMany_snoc rdSg k s1)
   have HST := hD (fun he => rdMany_stop' (r := rdSg) clean_sg (k := k + 1) (n := N) (by omega) s1 he)
   generalize hb0 : (bad || (rdMany rdSg k s1).2.1) = bk at *
   have HB0 := hD hb0
   generalize ht0 : (rdMany rdSg k s1).2.2 = tk at *
   have HT0 := hD ht0
   clear hb0 ht0
   have hg0 := HG.out.1
   have hzr := HKR.out.size
   have hrl : ∀ q, row A = some q → q < wr.heap.size := fun q hq => (HOW.out.lt q (by rw [row_own]; exact hq)).2
   have HRL := hD hrl
   clear hrl
   have hk0 : (0 : Int) ≤ (k : Int) := by omega
   go_upto_region 5 with ((with_reducible refine (HC.out).mono ?_); rintro en w2 ⟨y, Bq, rfl, hd, hv, h1, h2⟩; have HDQ := hD hd; have HV := hD hv; have HR2 := hD h1; have HK2 := hD h2; clear hd hv h1 h2)
   have hbx : Below w2.heap.size w2 (w2.alloc (.cells (sgA y Bq) 61)) := (Below.refl _ _).alloc (Nat.le_refl _) _
   have HR3 := hD (HR2.out.below hbx)
   have HB3 := hD hbx
   have HBX := hD (Bx.new w2 (sgA y Bq) 61)
   change Code.wp _ _ _ _ (w2.alloc (.cells (sgA y Bq) 61))
   clear hbx
   generalize w2.alloc (.cells (sgA y Bq) 61) = w3 at *
   generalize hbq : (bk || (rdSg tk).2.1) = b2 at *
   have HB2 := hD hbq
   generalize htq : (rdSg tk).2.2 = t2 at *
   have HT2 := hD htq
   clear hbq htq
   have HFA := hD (HR3.out.fault)
   have hc3 := HR3.out.c0
   obtain ⟨e2, l2⟩ := t2
   simp only at HFA HV
   by_cases he : e2 = 0
   ·
    subst he
    have HYV := hD (HV.out rfl)
    have m1 : k + 1 ≤ maxLen := by simp only [maxLen]; omega
    have m2 : (k + 1) * 48 ≤ 140737488355328 := by omega
    have hb4 : Below w2.heap.size w2 (w3.alloc (.cells (sgA y Bq) 61)) := HB3.out.alloc HB3.out.size _
    have HB4 := hD hb4
    have HO4 := hD (own_keep HOW.out (w' := w3.alloc (.cells (sgA y Bq) 61)) fun q hq => by
     have hq2 := HRL.out q (by rw [← row_own A k c]; exact hq)
     have hq3 := (HOW.out.lt q hq).1
     have hq4 := HG.out.2
     rw [HB4.out.block q (by have := HK2.out.size; omega), HK2.out.block q hq2 (by omega) (by omega)])
    have HNW := hD (show ∀ j u, ((sgA y Bq) : Array Value).toList[j]? = some u → (w3.alloc (.cells (sgA y Bq) 61)).cell? ((⟨w3.heap.size, 0, none⟩ : Addr).add j) = some u from (src_new w3 ((sgA y Bq) : Array Value).toList 61).at_ _ rfl)
    have H1C := hD (show ∀ u ∈ ((sgA y Bq) : Array Value).toList, u.oneCell' = true from by
     intro u hu
     simp only [List.mem_cons, List.not_mem_nil, or_false] at hu
     rcases hu with rfl | rfl | rfl | rfl <;> rfl)
    have HBS := hD (show w.heap.size ≤ (w3.alloc (.cells (sgA y Bq) 61)).heap.size from Nat.le_trans hzr (Nat.le_trans HK2.out.size hb4.size))
    have HR4 := hD (HR2.out.below hb4)
    clear hb4
    have d0 := HBX.out.c 0
    have d1 := HBX.out.c 1
    have d2 := HBX.out.c 2
    have d3 := HBX.out.c 3
    simp only [gA, gB, gC] at d0 d1 d2 d3
    go_wp2_with (first
     | (go_at_call 130; (with_reducible refine (HFA.out).mono ?_); rintro en wf ⟨rfl, rfl⟩)
     | (at_builtin; refine wpList_append_own_at _ rfl _ _ _ rfl w.heap.size 61 i0 _ 4 48 Tryz.underlying26 hi hz0 hz1 hz2 rfl (by decide) (.slice A k c) k _ rfl HO4.out ⟨w3.heap.size, 0, none⟩ 1 1 ((sgA y Bq) : Array Value).toList rfl rfl HNW.out H1C.out m1 m2 HBS.out ?_; intro v' w5 hown' hgw hnil hat; obtain ⟨A5, c5, rfl⟩ := own_sl hown'))
    have hgr : (w3.alloc (.cells (sgA y Bq) 61)).grownBy w5 (row A) := by rw [← row_own A k c]; exact hgw
    have hat2 : row A5 = row A ∨ row A5 = some (w3.alloc (.cells (sgA y Bq) 61)).heap.size := by simpa only [row_own] using hat
    have HGR := hD hgr
    have HAT := hD hat2
    have HOS := hD (own_snoc (y := y) (d := noSg) (B := B) (Bq := Bq) (arr := fun y B => sgA y B) HYL.out hown')
    have hlow : ∀ q, q < w.heap.size → row A ≠ some q := fun q hq e => by
     have := (HOW.out.lt q (by rw [row_own A k c]; exact e)).1
     omega
    have HR5 := hD (HR4.out.keep (w' := w5) (fun q hq => hgr.block q (by have := HG.out; have := HBS.out; omega) (Ne.symm (hlow q (by have := HG.out; omega)))) (hgr.block G (by have := HG.out; have := HBS.out; omega) (Ne.symm (hlow G HG.out.2))))
    have hkk := HKR.out.trans (HK2.out.trans (Kr.of_below HB4.out))
    have HK5 := hD (show Kr G g w w5 from ⟨hgr.os.trans hkk.os, hgr.tape.trans hkk.tape, hgr.output.trans hkk.output, Nat.le_trans hkk.size hgr.size, fun q hq h1 h2 => (hgr.block q (Nat.lt_of_lt_of_le hq HBS.out) (Ne.symm (hlow q hq))).trans (hkk.block q hq h1 h2)⟩)
    have HDN := hD (show ∀ i, i < k + 1 → Src w5 (fun q => (w.heap.size ≤ q ∧ q < w5.heap.size) ∧ row A5 ≠ some q) (if i = k then Bq else B i).1 ((ys ++ [y]).getD i noSg).bs.length (if i = k then Bq else B i).2 (cells ((ys ++ [y]).getD i noSg).bs) from fun i hi => by
     by_cases hik : i = k
     ·
      rw [if_pos hik, getD_last (hik.trans HYL.out.symm)]
      exact src_item HDQ.out hzr HRL.out HB4.out HGR.out HAT.out
     ·
      rw [if_neg hik, getD_old (by rw [HYL.out]; omega)]
      exact src_old (HD.out i (by omega)) HK2.out HB4.out HGR.out (by have := HG.out; omega) (by have := HG.out; omega) HAT.out)
    have HYN := hD (show ys ++ [y] = (rdMany rdSg (k + 1) s1).1 by
     rw [HSN.out]
     show _ = (rdMany rdSg k s1).1 ++ [(rdSg tk).1]
     rw [← HYV.out, ← HYS.out])
    have HRN := hD (show Ri w5 G g (bad || (rdMany rdSg (k + 1) s1).2.1) (rdMany rdSg (k + 1) s1).2.2 by
     rw [HSN.out]
     show Ri w5 G g (bad || ((rdMany rdSg k s1).2.1 || (rdSg tk).2.1)) (0, l2)
     rw [← Bool.or_assoc, HB0.out, HB2.out]
     exact HR5.out)
    clear hown' hgw hnil hat hgr hat2 hlow hkk
    go_wp2_with fail
    go_roundw
    case rel => exact ⟨k + 1, A5, c5, ys ++ [y], fun i => if i = k then Bq else B i, by omega, by go_num, rfl, by rw [List.length_append, HYL.out]; rfl, HYN.out, HOS.out, HDN.out, HRN.out, HK5.out⟩
    case measure => simp [intOf]; omega
   ·
    have heb : (e2 != 0) = true := by simpa using he
    go_wp2_with (go_at_call 130; (with_reducible refine (HFA.out).mono ?_); rintro en wf ⟨rfl, rfl⟩)
    go_ret
    have hst := HST.out (by rw [HSN.out]; exact he)
    rw [HSN.out] at hst
    simp only at hst
    refine ⟨none, 0, [], fun _ => (none, 0), rfl, els_nil _ _ _ _, (by intro i hi; simp at hi), fun h0 => ?_, ?_, ?_⟩
    ·
     rw [hst.1] at h0; exact absurd h0 he
    ·
     rw [hst.1, hst.2, ← Bool.or_assoc, HB0.out, HB2.out]; exact HR3.out
    ·
     exact HKR.out.trans (HK2.out.trans (Kr.of_below HB3.out))
  ·
   obtain rfl : k = N := by omega
   have e := HYL.out
   subst e
   go_wp2
   go_ret
   exact ⟨A, c, ys, B, rfl, els_of_own (fun _ _ => rfl) HOW.out, fun i hi => (HD.out i hi).weak fun _ hq => hq.1, fun _ => HYS.out, HRI.out, HKR.out⟩
theorem Tryz.info_rlNeed : (Tryz.prog.info? 98).map (fun i => (i.zero, i.size, i.bytes)) = some (some (.agg #[.string ⟨#[]⟩, .slice none 0 0]), 2, 40) := by kernel_rfl
def ItrlNeed (w : World) (G g : Nat) (bad : Bool) (t : St) (en : Ending) (w' : World) : Prop :=
 ∃ (y : Nd) (B : Option Addr × Nat), en = .returned (.agg (ndA y B)) ∧ Src w' (fun k => w.heap.size ≤ k ∧ k < w'.heap.size) B.1 y.vers.length B.2 (strs y.vers) ∧ ((rdNd t).2.2.1 = 0 → y = (rdNd t).1) ∧ Ri w' G g (bad || (rdNd t).2.1) (rdNd t).2.2 ∧ Kr G g w w'
def LsrlNeed (w : World) (G g : Nat) (bad : Bool) (r : List (Nd) × Bool × St) (en : Ending) (w' : World) : Prop :=
 ∃ (A : Option Addr) (c : Nat) (ys : List (Nd)) (B : Nat → Option Addr × Nat), en = .returned (.slice A ys.length c) ∧ Els w' (fun k => w.heap.size ≤ k ∧ k < w'.heap.size) A ys.length c 2 (fun k => ndA (ys.getD k noNd) (B k)) ∧ (∀ k, k < ys.length → Src w' (fun q => w.heap.size ≤ q ∧ q < w'.heap.size) (B k).1 (ys.getD k noNd).vers.length (B k).2 (strs (ys.getD k noNd).vers)) ∧
  (r.2.2.1 = 0 → ys = r.1) ∧ Ri w' G g (bad || r.2.1) r.2.2 ∧ Kr G g w w'
set_option maxHeartbeats 2000000 in
theorem rlNeed_any {G g : Nat} {bad : Bool} {s : St} (size : Int) (hsz : size ≤ 2) (fn : Nat) (w : World) (h : Ri w G g bad s) (hE : ∀ (args : Array Value) (X : World), (callFunc fn args).run Tryz.prog X = .ok (.enter fn args) X)
  (HF : ∀ (X : World) (b : Bool) (t : St), Ri X G g b t → Kr G g w X → Calls Tryz.prog fn #[.pointer (some ⟨G, 0, none⟩)] X (ItrlNeed X G g b t)) :
  Calls Tryz.prog 42 #[.pointer (some ⟨G, 0, none⟩), .int .i64 size, .func (.func fn) #[.pointer (some ⟨G, 0, none⟩)] #[]] w (LsrlNeed w G g bad (rdList size rdNd s)) := by
 obtain ⟨i0, hi, hz0, hz1, hz2⟩ := info_parts Tryz.info_rlNeed
 have hc := h.c0
 have HN := hD (h.num size)
 have HP := hD HF
 have HG := hD (show g < G ∧ G < w.heap.size from ⟨h.lt, h.gt⟩)
 have hn0 := rNum_nn (size := size) (by omega) s
 have hn1 := rNum_top (size := size) hsz s
 have HL := hD (show rdList size rdNd s = rdMany rdNd (rNum size s).1.toNat (rNum size s).2 from rfl)
 rw [HL.out]
 clear h HF HL
 generalize rNum size s = t1 at *
 obtain ⟨n, s1⟩ := t1
 simp only at HN hn0 hn1 ⊢
 obtain ⟨N, rfl⟩ : ∃ N : Nat, n = (N : Int) := ⟨n.toNat, by omega⟩
 rw [Int.toNat_natCast]
 have hN : N ≤ 65535 := by omega
 clear hn0 hn1
 go_enter Tryz.func42, Tryz.ntmps42
 go_wp2_with (go_at_call 39; (with_reducible refine (HN.out).mono ?_); rintro en w1 ⟨rfl, h1, h2⟩; have H1 := hD h1; have H2 := hD h2; clear h1 h2)
 clear HN hc
 go_loopw [7, 15] (fun v t wr => ∃ (k : Nat) (A : Option Addr) (c : Nat) (ys : List (Nd)) (B : Nat → Option Addr × Nat), k ≤ N ∧ t = .int .i64 k ∧ v = .slice A k c ∧ ys.length = k ∧ ys = (rdMany rdNd k s1).1 ∧ wr.ownsRow w.heap.size 98 2 (.slice A k c) k (flatE (fun k => ndA (ys.getD k noNd) (B k)) k) ∧
  (∀ i, i < k → Src wr (fun q => (w.heap.size ≤ q ∧ q < wr.heap.size) ∧ row A ≠ some q) (B i).1 (ys.getD i noNd).vers.length (B i).2 (strs (ys.getD i noNd).vers)) ∧ Ri wr G g (bad || (rdMany rdNd k s1).2.1) (rdMany rdNd k s1).2.2 ∧ Kr G g w wr) (fun _ t _ => N - (intOf t).toNat)
 case atStart => exact ⟨0, none, 0, [], fun _ => (none, 0), Nat.zero_le _, rfl, rfl, rfl, rfl, World.ownsRow_nil _ _ _ _, (by intro i hi; omega), by rw [show (bad || (rdMany rdNd 0 s1).2.1) = bad from Bool.or_false _]; exact H1.out, H2.out⟩
 case round =>
  obtain ⟨k, A, c, ys, B, hk, rfl, rfl, hyl, hys, hown, hdat, hri, hkr⟩ := hrel
  have HYL := hD hyl
  have HYS := hD hys
  have HOW := hD hown
  have HD := hD hdat
  have HRI := hD hri
  have HKR := hD hkr
  clear hyl hys hown hdat hri hkr
  by_cases hlt : k < N
  ·
   have HC := hD (HP.out wr _ _ HRI.out HKR.out)
   have HSN := hD (rdMany_snoc rdNd k s1)
   have HST := hD (fun he => rdMany_stop' (r := rdNd) clean_nd (k := k + 1) (n := N) (by omega) s1 he)
   generalize hb0 : (bad || (rdMany rdNd k s1).2.1) = bk at *
   have HB0 := hD hb0
   generalize ht0 : (rdMany rdNd k s1).2.2 = tk at *
   have HT0 := hD ht0
   clear hb0 ht0
   have hg0 := HG.out.1
   have hzr := HKR.out.size
   have hrl : ∀ q, row A = some q → q < wr.heap.size := fun q hq => (HOW.out.lt q (by rw [row_own]; exact hq)).2
   have HRL := hD hrl
   clear hrl
   have hk0 : (0 : Int) ≤ (k : Int) := by omega
   go_upto_region 5 with ((with_reducible refine (HC.out).mono ?_); rintro en w2 ⟨y, Bq, rfl, hd, hv, h1, h2⟩; have HDQ := hD hd; have HV := hD hv; have HR2 := hD h1; have HK2 := hD h2; clear hd hv h1 h2)
   have hbx : Below w2.heap.size w2 (w2.alloc (.cells (ndA y Bq) 98)) := (Below.refl _ _).alloc (Nat.le_refl _) _
   have HR3 := hD (HR2.out.below hbx)
   have HB3 := hD hbx
   have HBX := hD (Bx.new w2 (ndA y Bq) 98)
   change Code.wp _ _ _ _ (w2.alloc (.cells (ndA y Bq) 98))
   clear hbx
   generalize w2.alloc (.cells (ndA y Bq) 98) = w3 at *
   generalize hbq : (bk || (rdNd tk).2.1) = b2 at *
   have HB2 := hD hbq
   generalize htq : (rdNd tk).2.2 = t2 at *
   have HT2 := hD htq
   clear hbq htq
   have HFA := hD (HR3.out.fault)
   have hc3 := HR3.out.c0
   obtain ⟨e2, l2⟩ := t2
   simp only at HFA HV
   by_cases he : e2 = 0
   ·
    subst he
    have HYV := hD (HV.out rfl)
    have m1 : k + 1 ≤ maxLen := by simp only [maxLen]; omega
    have m2 : (k + 1) * 40 ≤ 140737488355328 := by omega
    have hb4 : Below w2.heap.size w2 (w3.alloc (.cells (ndA y Bq) 98)) := HB3.out.alloc HB3.out.size _
    have HB4 := hD hb4
    have HO4 := hD (own_keep HOW.out (w' := w3.alloc (.cells (ndA y Bq) 98)) fun q hq => by
     have hq2 := HRL.out q (by rw [← row_own A k c]; exact hq)
     have hq3 := (HOW.out.lt q hq).1
     have hq4 := HG.out.2
     rw [HB4.out.block q (by have := HK2.out.size; omega), HK2.out.block q hq2 (by omega) (by omega)])
    have HNW := hD (show ∀ j u, ((ndA y Bq) : Array Value).toList[j]? = some u → (w3.alloc (.cells (ndA y Bq) 98)).cell? ((⟨w3.heap.size, 0, none⟩ : Addr).add j) = some u from (src_new w3 ((ndA y Bq) : Array Value).toList 98).at_ _ rfl)
    have H1C := hD (show ∀ u ∈ ((ndA y Bq) : Array Value).toList, u.oneCell' = true from by
     intro u hu
     simp only [List.mem_cons, List.not_mem_nil, or_false] at hu
     rcases hu with rfl | rfl <;> rfl)
    have HBS := hD (show w.heap.size ≤ (w3.alloc (.cells (ndA y Bq) 98)).heap.size from Nat.le_trans hzr (Nat.le_trans HK2.out.size hb4.size))
    have HR4 := hD (HR2.out.below hb4)
    clear hb4
    have d0 := HBX.out.c 0
    have d1 := HBX.out.c 1
    simp only [gA, gB, gC] at d0 d1
    go_wp2_with (first
     | (go_at_call 130; (with_reducible refine (HFA.out).mono ?_); rintro en wf ⟨rfl, rfl⟩)
     | (at_builtin; refine wpList_append_own_at _ rfl _ _ _ rfl w.heap.size 98 i0 _ 2 40 Tryz.underlying27 hi hz0 hz1 hz2 rfl (by decide) (.slice A k c) k _ rfl HO4.out ⟨w3.heap.size, 0, none⟩ 1 1 ((ndA y Bq) : Array Value).toList rfl rfl HNW.out H1C.out m1 m2 HBS.out ?_; intro v' w5 hown' hgw hnil hat; obtain ⟨A5, c5, rfl⟩ := own_sl hown'))
    have hgr : (w3.alloc (.cells (ndA y Bq) 98)).grownBy w5 (row A) := by rw [← row_own A k c]; exact hgw
    have hat2 : row A5 = row A ∨ row A5 = some (w3.alloc (.cells (ndA y Bq) 98)).heap.size := by simpa only [row_own] using hat
    have HGR := hD hgr
    have HAT := hD hat2
    have HOS := hD (own_snoc (y := y) (d := noNd) (B := B) (Bq := Bq) (arr := fun y B => ndA y B) HYL.out hown')
    have hlow : ∀ q, q < w.heap.size → row A ≠ some q := fun q hq e => by
     have := (HOW.out.lt q (by rw [row_own A k c]; exact e)).1
     omega
    have HR5 := hD (HR4.out.keep (w' := w5) (fun q hq => hgr.block q (by have := HG.out; have := HBS.out; omega) (Ne.symm (hlow q (by have := HG.out; omega)))) (hgr.block G (by have := HG.out; have := HBS.out; omega) (Ne.symm (hlow G HG.out.2))))
    have hkk := HKR.out.trans (HK2.out.trans (Kr.of_below HB4.out))
    have HK5 := hD (show Kr G g w w5 from ⟨hgr.os.trans hkk.os, hgr.tape.trans hkk.tape, hgr.output.trans hkk.output, Nat.le_trans hkk.size hgr.size, fun q hq h1 h2 => (hgr.block q (Nat.lt_of_lt_of_le hq HBS.out) (Ne.symm (hlow q hq))).trans (hkk.block q hq h1 h2)⟩)
    have HDN := hD (show ∀ i, i < k + 1 → Src w5 (fun q => (w.heap.size ≤ q ∧ q < w5.heap.size) ∧ row A5 ≠ some q) (if i = k then Bq else B i).1 ((ys ++ [y]).getD i noNd).vers.length (if i = k then Bq else B i).2 (strs ((ys ++ [y]).getD i noNd).vers) from fun i hi => by
     by_cases hik : i = k
     ·
      rw [if_pos hik, getD_last (hik.trans HYL.out.symm)]
      exact src_item HDQ.out hzr HRL.out HB4.out HGR.out HAT.out
     ·
      rw [if_neg hik, getD_old (by rw [HYL.out]; omega)]
      exact src_old (HD.out i (by omega)) HK2.out HB4.out HGR.out (by have := HG.out; omega) (by have := HG.out; omega) HAT.out)
    have HYN := hD (show ys ++ [y] = (rdMany rdNd (k + 1) s1).1 by
     rw [HSN.out]
     show _ = (rdMany rdNd k s1).1 ++ [(rdNd tk).1]
     rw [← HYV.out, ← HYS.out])
    have HRN := hD (show Ri w5 G g (bad || (rdMany rdNd (k + 1) s1).2.1) (rdMany rdNd (k + 1) s1).2.2 by
     rw [HSN.out]
     show Ri w5 G g (bad || ((rdMany rdNd k s1).2.1 || (rdNd tk).2.1)) (0, l2)
     rw [← Bool.or_assoc, HB0.out, HB2.out]
     exact HR5.out)
    clear hown' hgw hnil hat hgr hat2 hlow hkk
    go_wp2_with fail
    go_roundw
    case rel => exact ⟨k + 1, A5, c5, ys ++ [y], fun i => if i = k then Bq else B i, by omega, by go_num, rfl, by rw [List.length_append, HYL.out]; rfl, HYN.out, HOS.out, HDN.out, HRN.out, HK5.out⟩
    case measure => simp [intOf]; omega
   ·
    have heb : (e2 != 0) = true := by simpa using he
    go_wp2_with (go_at_call 130; (with_reducible refine (HFA.out).mono ?_); rintro en wf ⟨rfl, rfl⟩)
    go_ret
    have hst := HST.out (by rw [HSN.out]; exact he)
    rw [HSN.out] at hst
    simp only at hst
    refine ⟨none, 0, [], fun _ => (none, 0), rfl, els_nil _ _ _ _, (by intro i hi; simp at hi), fun h0 => ?_, ?_, ?_⟩
    ·
     rw [hst.1] at h0; exact absurd h0 he
    ·
     rw [hst.1, hst.2, ← Bool.or_assoc, HB0.out, HB2.out]; exact HR3.out
    ·
     exact HKR.out.trans (HK2.out.trans (Kr.of_below HB3.out))
  ·
   obtain rfl : k = N := by omega
   have e := HYL.out
   subst e
   go_wp2
   go_ret
   exact ⟨A, c, ys, B, rfl, els_of_own (fun _ _ => rfl) HOW.out, fun i hi => (HD.out i hi).weak fun _ hq => hq.1, fun _ => HYS.out, HRI.out, HKR.out⟩
theorem Tryz.info_rlSym : (Tryz.prog.info? 105).map (fun i => (i.zero, i.size, i.bytes)) = some (some (.agg #[.string ⟨#[]⟩, .string ⟨#[]⟩, .bool false, .int .i64 0, .bool false, .int .i64 0, .bool false, .int .i64 0, .int .i64 0]), 9, 88) := by kernel_rfl
def ItrlSym (w : World) (G g : Nat) (bad : Bool) (t : St) (en : Ending) (w' : World) : Prop :=
 ∃ (y : Sym) (B : Option Addr × Nat), en = .returned (.agg (symA y)) ∧ NoDat 0 ∧ ((rdSym t).2.2.1 = 0 → y = (rdSym t).1) ∧ Ri w' G g (bad || (rdSym t).2.1) (rdSym t).2.2 ∧ Kr G g w w'
def LsrlSym (w : World) (G g : Nat) (bad : Bool) (r : List (Sym) × Bool × St) (en : Ending) (w' : World) : Prop :=
 ∃ (A : Option Addr) (c : Nat) (ys : List (Sym)) (B : Nat → Option Addr × Nat), en = .returned (.slice A ys.length c) ∧ Els w' (fun k => w.heap.size ≤ k ∧ k < w'.heap.size) A ys.length c 9 (fun k => symA (ys.getD k noSy)) ∧ (∀ k, k < ys.length → NoDat 0) ∧
  (r.2.2.1 = 0 → ys = r.1) ∧ Ri w' G g (bad || r.2.1) r.2.2 ∧ Kr G g w w'
set_option maxHeartbeats 2000000 in
theorem rlSym_any {G g : Nat} {bad : Bool} {s : St} (size : Int) (hsz : size ≤ 2) (fn : Nat) (w : World) (h : Ri w G g bad s) (hE : ∀ (args : Array Value) (X : World), (callFunc fn args).run Tryz.prog X = .ok (.enter fn args) X)
  (HF : ∀ (X : World) (b : Bool) (t : St), Ri X G g b t → Kr G g w X → Calls Tryz.prog fn #[.pointer (some ⟨G, 0, none⟩)] X (ItrlSym X G g b t)) :
  Calls Tryz.prog 45 #[.pointer (some ⟨G, 0, none⟩), .int .i64 size, .func (.func fn) #[.pointer (some ⟨G, 0, none⟩)] #[]] w (LsrlSym w G g bad (rdList size rdSym s)) := by
 obtain ⟨i0, hi, hz0, hz1, hz2⟩ := info_parts Tryz.info_rlSym
 have hc := h.c0
 have HN := hD (h.num size)
 have HP := hD HF
 have HG := hD (show g < G ∧ G < w.heap.size from ⟨h.lt, h.gt⟩)
 have hn0 := rNum_nn (size := size) (by omega) s
 have hn1 := rNum_top (size := size) hsz s
 have HL := hD (show rdList size rdSym s = rdMany rdSym (rNum size s).1.toNat (rNum size s).2 from rfl)
 rw [HL.out]
 clear h HF HL
 generalize rNum size s = t1 at *
 obtain ⟨n, s1⟩ := t1
 simp only at HN hn0 hn1 ⊢
 obtain ⟨N, rfl⟩ : ∃ N : Nat, n = (N : Int) := ⟨n.toNat, by omega⟩
 rw [Int.toNat_natCast]
 have hN : N ≤ 65535 := by omega
 clear hn0 hn1
 go_enter Tryz.func45, Tryz.ntmps45
 go_wp2_with (go_at_call 39; (with_reducible refine (HN.out).mono ?_); rintro en w1 ⟨rfl, h1, h2⟩; have H1 := hD h1; have H2 := hD h2; clear h1 h2)
 clear HN hc
 go_loopw [7, 15] (fun v t wr => ∃ (k : Nat) (A : Option Addr) (c : Nat) (ys : List (Sym)) (B : Nat → Option Addr × Nat), k ≤ N ∧ t = .int .i64 k ∧ v = .slice A k c ∧ ys.length = k ∧ ys = (rdMany rdSym k s1).1 ∧ wr.ownsRow w.heap.size 105 9 (.slice A k c) k (flatE (fun k => symA (ys.getD k noSy)) k) ∧
  (∀ i, i < k → NoDat 0) ∧ Ri wr G g (bad || (rdMany rdSym k s1).2.1) (rdMany rdSym k s1).2.2 ∧ Kr G g w wr) (fun _ t _ => N - (intOf t).toNat)
 case atStart => exact ⟨0, none, 0, [], fun _ => (none, 0), Nat.zero_le _, rfl, rfl, rfl, rfl, World.ownsRow_nil _ _ _ _, (by intro i hi; omega), by rw [show (bad || (rdMany rdSym 0 s1).2.1) = bad from Bool.or_false _]; exact H1.out, H2.out⟩
 case round =>
  obtain ⟨k, A, c, ys, B, hk, rfl, rfl, hyl, hys, hown, hdat, hri, hkr⟩ := hrel
  have HYL := hD hyl
  have HYS := hD hys
  have HOW := hD hown
  have HD := hD hdat
  have HRI := hD hri
  have HKR := hD hkr
  clear hyl hys hown hdat hri hkr
  by_cases hlt : k < N
  ·
   have HC := hD (HP.out wr _ _ HRI.out HKR.out)
   have HSN := hD (rdMany_snoc rdSym k s1)
   have HST := hD (fun he => rdMany_stop' (r := rdSym) clean_sym (k := k + 1) (n := N) (by omega) s1 he)
   generalize hb0 : (bad || (rdMany rdSym k s1).2.1) = bk at *
   have HB0 := hD hb0
   generalize ht0 : (rdMany rdSym k s1).2.2 = tk at *
   have HT0 := hD ht0
   clear hb0 ht0
   have hg0 := HG.out.1
   have hzr := HKR.out.size
   have hrl : ∀ q, row A = some q → q < wr.heap.size := fun q hq => (HOW.out.lt q (by rw [row_own]; exact hq)).2
   have HRL := hD hrl
   clear hrl
   have hk0 : (0 : Int) ≤ (k : Int) := by omega
   go_upto_region 5 with ((with_reducible refine (HC.out).mono ?_); rintro en w2 ⟨y, Bq, rfl, hd, hv, h1, h2⟩; have HDQ := hD hd; have HV := hD hv; have HR2 := hD h1; have HK2 := hD h2; clear hd hv h1 h2)
   have hbx : Below w2.heap.size w2 (w2.alloc (.cells (symA y) 105)) := (Below.refl _ _).alloc (Nat.le_refl _) _
   have HR3 := hD (HR2.out.below hbx)
   have HB3 := hD hbx
   have HBX := hD (Bx.new w2 (symA y) 105)
   change Code.wp _ _ _ _ (w2.alloc (.cells (symA y) 105))
   clear hbx
   generalize w2.alloc (.cells (symA y) 105) = w3 at *
   generalize hbq : (bk || (rdSym tk).2.1) = b2 at *
   have HB2 := hD hbq
   generalize htq : (rdSym tk).2.2 = t2 at *
   have HT2 := hD htq
   clear hbq htq
   have HFA := hD (HR3.out.fault)
   have hc3 := HR3.out.c0
   obtain ⟨e2, l2⟩ := t2
   simp only at HFA HV
   by_cases he : e2 = 0
   ·
    subst he
    have HYV := hD (HV.out rfl)
    have m1 : k + 1 ≤ maxLen := by simp only [maxLen]; omega
    have m2 : (k + 1) * 88 ≤ 140737488355328 := by omega
    have hb4 : Below w2.heap.size w2 (w3.alloc (.cells (symA y) 105)) := HB3.out.alloc HB3.out.size _
    have HB4 := hD hb4
    have HO4 := hD (own_keep HOW.out (w' := w3.alloc (.cells (symA y) 105)) fun q hq => by
     have hq2 := HRL.out q (by rw [← row_own A k c]; exact hq)
     have hq3 := (HOW.out.lt q hq).1
     have hq4 := HG.out.2
     rw [HB4.out.block q (by have := HK2.out.size; omega), HK2.out.block q hq2 (by omega) (by omega)])
    have HNW := hD (show ∀ j u, ((symA y) : Array Value).toList[j]? = some u → (w3.alloc (.cells (symA y) 105)).cell? ((⟨w3.heap.size, 0, none⟩ : Addr).add j) = some u from (src_new w3 ((symA y) : Array Value).toList 105).at_ _ rfl)
    have H1C := hD (show ∀ u ∈ ((symA y) : Array Value).toList, u.oneCell' = true from by
     intro u hu
     simp only [List.mem_cons, List.not_mem_nil, or_false] at hu
     rcases hu with rfl | rfl | rfl | rfl | rfl | rfl | rfl | rfl | rfl <;> rfl)
    have HBS := hD (show w.heap.size ≤ (w3.alloc (.cells (symA y) 105)).heap.size from Nat.le_trans hzr (Nat.le_trans HK2.out.size hb4.size))
    have HR4 := hD (HR2.out.below hb4)
    clear hb4
    have dq := HBX.out.c; have d0 := dq 0; have d1 := dq 1; have d2 := dq 2; have d3 := dq 3; have d4 := dq 4; have d5 := dq 5; have d6 := dq 6; have d7 := dq 7; have d8 := dq 8; clear dq
    simp only [gA, gB, gC] at d0 d1 d2 d3 d4 d5 d6 d7 d8
    go_wp2_with (first
     | (go_at_call 130; (with_reducible refine (HFA.out).mono ?_); rintro en wf ⟨rfl, rfl⟩)
     | (at_builtin; refine wpList_append_own_at _ rfl _ _ _ rfl w.heap.size 105 i0 _ 9 88 Tryz.underlying29 hi hz0 hz1 hz2 rfl (by decide) (.slice A k c) k _ rfl HO4.out ⟨w3.heap.size, 0, none⟩ 1 1 ((symA y) : Array Value).toList rfl rfl HNW.out H1C.out m1 m2 HBS.out ?_; intro v' w5 hown' hgw hnil hat; obtain ⟨A5, c5, rfl⟩ := own_sl hown'))
    have hgr : (w3.alloc (.cells (symA y) 105)).grownBy w5 (row A) := by rw [← row_own A k c]; exact hgw
    have hat2 : row A5 = row A ∨ row A5 = some (w3.alloc (.cells (symA y) 105)).heap.size := by simpa only [row_own] using hat
    have HGR := hD hgr
    have HAT := hD hat2
    have HOS := hD (own_snoc (y := y) (d := noSy) (B := B) (Bq := Bq) (arr := fun y B => symA y) HYL.out hown')
    have hlow : ∀ q, q < w.heap.size → row A ≠ some q := fun q hq e => by
     have := (HOW.out.lt q (by rw [row_own A k c]; exact e)).1
     omega
    have HR5 := hD (HR4.out.keep (w' := w5) (fun q hq => hgr.block q (by have := HG.out; have := HBS.out; omega) (Ne.symm (hlow q (by have := HG.out; omega)))) (hgr.block G (by have := HG.out; have := HBS.out; omega) (Ne.symm (hlow G HG.out.2))))
    have hkk := HKR.out.trans (HK2.out.trans (Kr.of_below HB4.out))
    have HK5 := hD (show Kr G g w w5 from ⟨hgr.os.trans hkk.os, hgr.tape.trans hkk.tape, hgr.output.trans hkk.output, Nat.le_trans hkk.size hgr.size, fun q hq h1 h2 => (hgr.block q (Nat.lt_of_lt_of_le hq HBS.out) (Ne.symm (hlow q hq))).trans (hkk.block q hq h1 h2)⟩)
    have HDN := hD (show ∀ i, i < k + 1 → NoDat 0 from fun i hi => trivial)
    have HYN := hD (show ys ++ [y] = (rdMany rdSym (k + 1) s1).1 by
     rw [HSN.out]
     show _ = (rdMany rdSym k s1).1 ++ [(rdSym tk).1]
     rw [← HYV.out, ← HYS.out])
    have HRN := hD (show Ri w5 G g (bad || (rdMany rdSym (k + 1) s1).2.1) (rdMany rdSym (k + 1) s1).2.2 by
     rw [HSN.out]
     show Ri w5 G g (bad || ((rdMany rdSym k s1).2.1 || (rdSym tk).2.1)) (0, l2)
     rw [← Bool.or_assoc, HB0.out, HB2.out]
     exact HR5.out)
    clear hown' hgw hnil hat hgr hat2 hlow hkk
    go_wp2_with fail
    go_roundw
    case rel => exact ⟨k + 1, A5, c5, ys ++ [y], fun i => if i = k then Bq else B i, by omega, by go_num, rfl, by rw [List.length_append, HYL.out]; rfl, HYN.out, HOS.out, HDN.out, HRN.out, HK5.out⟩
    case measure => simp [intOf]; omega
   ·
    have heb : (e2 != 0) = true := by simpa using he
    go_wp2_with (go_at_call 130; (with_reducible refine (HFA.out).mono ?_); rintro en wf ⟨rfl, rfl⟩)
    go_ret
    have hst := HST.out (by rw [HSN.out]; exact he)
    rw [HSN.out] at hst
    simp only at hst
    refine ⟨none, 0, [], fun _ => (none, 0), rfl, els_nil _ _ _ _, (by intro i hi; simp at hi), fun h0 => ?_, ?_, ?_⟩
    ·
     rw [hst.1] at h0; exact absurd h0 he
    ·
     rw [hst.1, hst.2, ← Bool.or_assoc, HB0.out, HB2.out]; exact HR3.out
    ·
     exact HKR.out.trans (HK2.out.trans (Kr.of_below HB3.out))
  ·
   obtain rfl : k = N := by omega
   have e := HYL.out
   subst e
   go_wp2
   go_ret
   exact ⟨A, c, ys, B, rfl, els_of_own (fun _ _ => rfl) HOW.out, fun _ _ => trivial, fun _ => HYS.out, HRI.out, HKR.out⟩
theorem Tryz.info_rlRel : (Tryz.prog.info? 57).map (fun i => (i.zero, i.size, i.bytes)) = some (some (.agg #[.int .i64 0, .int .i64 0, .int .i64 0, .int .i64 0]), 4, 32) := by kernel_rfl
def ItrlRel (w : World) (G g : Nat) (bad : Bool) (t : St) (en : Ending) (w' : World) : Prop :=
 ∃ (y : Rl) (B : Option Addr × Nat), en = .returned (.agg (rlA y)) ∧ NoDat 0 ∧ ((rdRl t).2.2.1 = 0 → y = (rdRl t).1) ∧ Ri w' G g (bad || (rdRl t).2.1) (rdRl t).2.2 ∧ Kr G g w w'
def LsrlRel (w : World) (G g : Nat) (bad : Bool) (r : List (Rl) × Bool × St) (en : Ending) (w' : World) : Prop :=
 ∃ (A : Option Addr) (c : Nat) (ys : List (Rl)) (B : Nat → Option Addr × Nat), en = .returned (.slice A ys.length c) ∧ Els w' (fun k => w.heap.size ≤ k ∧ k < w'.heap.size) A ys.length c 4 (fun k => rlA (ys.getD k noRl)) ∧ (∀ k, k < ys.length → NoDat 0) ∧
  (r.2.2.1 = 0 → ys = r.1) ∧ Ri w' G g (bad || r.2.1) r.2.2 ∧ Kr G g w w'
set_option maxHeartbeats 2000000 in
theorem rlRel_any {G g : Nat} {bad : Bool} {s : St} (size : Int) (hsz : size ≤ 2) (fn : Nat) (w : World) (h : Ri w G g bad s) (hE : ∀ (args : Array Value) (X : World), (callFunc fn args).run Tryz.prog X = .ok (.enter fn args) X)
  (HF : ∀ (X : World) (b : Bool) (t : St), Ri X G g b t → Kr G g w X → Calls Tryz.prog fn #[.pointer (some ⟨G, 0, none⟩)] X (ItrlRel X G g b t)) :
  Calls Tryz.prog 48 #[.pointer (some ⟨G, 0, none⟩), .int .i64 size, .func (.func fn) #[.pointer (some ⟨G, 0, none⟩)] #[]] w (LsrlRel w G g bad (rdList size rdRl s)) := by
 obtain ⟨i0, hi, hz0, hz1, hz2⟩ := info_parts Tryz.info_rlRel
 have hc := h.c0
 have HN := hD (h.num size)
 have HP := hD HF
 have HG := hD (show g < G ∧ G < w.heap.size from ⟨h.lt, h.gt⟩)
 have hn0 := rNum_nn (size := size) (by omega) s
 have hn1 := rNum_top (size := size) hsz s
 have HL := hD (show rdList size rdRl s = rdMany rdRl (rNum size s).1.toNat (rNum size s).2 from rfl)
 rw [HL.out]
 clear h HF HL
 generalize rNum size s = t1 at *
 obtain ⟨n, s1⟩ := t1
 simp only at HN hn0 hn1 ⊢
 obtain ⟨N, rfl⟩ : ∃ N : Nat, n = (N : Int) := ⟨n.toNat, by omega⟩
 rw [Int.toNat_natCast]
 have hN : N ≤ 65535 := by omega
 clear hn0 hn1
 go_enter Tryz.func48, Tryz.ntmps48
 go_wp2_with (go_at_call 39; (with_reducible refine (HN.out).mono ?_); rintro en w1 ⟨rfl, h1, h2⟩; have H1 := hD h1; have H2 := hD h2; clear h1 h2)
 clear HN hc
 go_loopw [7, 15] (fun v t wr => ∃ (k : Nat) (A : Option Addr) (c : Nat) (ys : List (Rl)) (B : Nat → Option Addr × Nat), k ≤ N ∧ t = .int .i64 k ∧ v = .slice A k c ∧ ys.length = k ∧ ys = (rdMany rdRl k s1).1 ∧ wr.ownsRow w.heap.size 57 4 (.slice A k c) k (flatE (fun k => rlA (ys.getD k noRl)) k) ∧
  (∀ i, i < k → NoDat 0) ∧ Ri wr G g (bad || (rdMany rdRl k s1).2.1) (rdMany rdRl k s1).2.2 ∧ Kr G g w wr) (fun _ t _ => N - (intOf t).toNat)
 case atStart => exact ⟨0, none, 0, [], fun _ => (none, 0), Nat.zero_le _, rfl, rfl, rfl, rfl, World.ownsRow_nil _ _ _ _, (by intro i hi; omega), by rw [show (bad || (rdMany rdRl 0 s1).2.1) = bad from Bool.or_false _]; exact H1.out, H2.out⟩
 case round =>
  obtain ⟨k, A, c, ys, B, hk, rfl, rfl, hyl, hys, hown, hdat, hri, hkr⟩ := hrel
  have HYL := hD hyl
  have HYS := hD hys
  have HOW := hD hown
  have HD := hD hdat
  have HRI := hD hri
  have HKR := hD hkr
  clear hyl hys hown hdat hri hkr
  by_cases hlt : k < N
  ·
   have HC := hD (HP.out wr _ _ HRI.out HKR.out)
   have HSN := hD (rdMany_snoc rdRl k s1)
   have HST := hD (fun he => rdMany_stop' (r := rdRl) clean_rl (k := k + 1) (n := N) (by omega) s1 he)
   generalize hb0 : (bad || (rdMany rdRl k s1).2.1) = bk at *
   have HB0 := hD hb0
   generalize ht0 : (rdMany rdRl k s1).2.2 = tk at *
   have HT0 := hD ht0
   clear hb0 ht0
   have hg0 := HG.out.1
   have hzr := HKR.out.size
   have hrl : ∀ q, row A = some q → q < wr.heap.size := fun q hq => (HOW.out.lt q (by rw [row_own]; exact hq)).2
   have HRL := hD hrl
   clear hrl
   have hk0 : (0 : Int) ≤ (k : Int) := by omega
   go_upto_region 5 with ((with_reducible refine (HC.out).mono ?_); rintro en w2 ⟨y, Bq, rfl, hd, hv, h1, h2⟩; have HDQ := hD hd; have HV := hD hv; have HR2 := hD h1; have HK2 := hD h2; clear hd hv h1 h2)
   have hbx : Below w2.heap.size w2 (w2.alloc (.cells (rlA y) 57)) := (Below.refl _ _).alloc (Nat.le_refl _) _
   have HR3 := hD (HR2.out.below hbx)
   have HB3 := hD hbx
   have HBX := hD (Bx.new w2 (rlA y) 57)
   change Code.wp _ _ _ _ (w2.alloc (.cells (rlA y) 57))
   clear hbx
   generalize w2.alloc (.cells (rlA y) 57) = w3 at *
   generalize hbq : (bk || (rdRl tk).2.1) = b2 at *
   have HB2 := hD hbq
   generalize htq : (rdRl tk).2.2 = t2 at *
   have HT2 := hD htq
   clear hbq htq
   have HFA := hD (HR3.out.fault)
   have hc3 := HR3.out.c0
   obtain ⟨e2, l2⟩ := t2
   simp only at HFA HV
   by_cases he : e2 = 0
   ·
    subst he
    have HYV := hD (HV.out rfl)
    have m1 : k + 1 ≤ maxLen := by simp only [maxLen]; omega
    have m2 : (k + 1) * 32 ≤ 140737488355328 := by omega
    have hb4 : Below w2.heap.size w2 (w3.alloc (.cells (rlA y) 57)) := HB3.out.alloc HB3.out.size _
    have HB4 := hD hb4
    have HO4 := hD (own_keep HOW.out (w' := w3.alloc (.cells (rlA y) 57)) fun q hq => by
     have hq2 := HRL.out q (by rw [← row_own A k c]; exact hq)
     have hq3 := (HOW.out.lt q hq).1
     have hq4 := HG.out.2
     rw [HB4.out.block q (by have := HK2.out.size; omega), HK2.out.block q hq2 (by omega) (by omega)])
    have HNW := hD (show ∀ j u, ((rlA y) : Array Value).toList[j]? = some u → (w3.alloc (.cells (rlA y) 57)).cell? ((⟨w3.heap.size, 0, none⟩ : Addr).add j) = some u from (src_new w3 ((rlA y) : Array Value).toList 57).at_ _ rfl)
    have H1C := hD (show ∀ u ∈ ((rlA y) : Array Value).toList, u.oneCell' = true from by
     intro u hu
     simp only [List.mem_cons, List.not_mem_nil, or_false] at hu
     rcases hu with rfl | rfl | rfl | rfl <;> rfl)
    have HBS := hD (show w.heap.size ≤ (w3.alloc (.cells (rlA y) 57)).heap.size from Nat.le_trans hzr (Nat.le_trans HK2.out.size hb4.size))
    have HR4 := hD (HR2.out.below hb4)
    clear hb4
    have d0 := HBX.out.c 0
    have d1 := HBX.out.c 1
    have d2 := HBX.out.c 2
    have d3 := HBX.out.c 3
    simp only [gA, gB, gC] at d0 d1 d2 d3
    go_wp2_with (first
     | (go_at_call 130; (with_reducible refine (HFA.out).mono ?_); rintro en wf ⟨rfl, rfl⟩)
     | (at_builtin; refine wpList_append_own_at _ rfl _ _ _ rfl w.heap.size 57 i0 _ 4 32 Tryz.underlying36 hi hz0 hz1 hz2 rfl (by decide) (.slice A k c) k _ rfl HO4.out ⟨w3.heap.size, 0, none⟩ 1 1 ((rlA y) : Array Value).toList rfl rfl HNW.out H1C.out m1 m2 HBS.out ?_; intro v' w5 hown' hgw hnil hat; obtain ⟨A5, c5, rfl⟩ := own_sl hown'))
    have hgr : (w3.alloc (.cells (rlA y) 57)).grownBy w5 (row A) := by rw [← row_own A k c]; exact hgw
    have hat2 : row A5 = row A ∨ row A5 = some (w3.alloc (.cells (rlA y) 57)).heap.size := by simpa only [row_own] using hat
    have HGR := hD hgr
    have HAT := hD hat2
    have HOS := hD (own_snoc (y := y) (d := noRl) (B := B) (Bq := Bq) (arr := fun y B => rlA y) HYL.out hown')
    have hlow : ∀ q, q < w.heap.size → row A ≠ some q := fun q hq e => by
     have := (HOW.out.lt q (by rw [row_own A k c]; exact e)).1
     omega
    have HR5 := hD (HR4.out.keep (w' := w5) (fun q hq => hgr.block q (by have := HG.out; have := HBS.out; omega) (Ne.symm (hlow q (by have := HG.out; omega)))) (hgr.block G (by have := HG.out; have := HBS.out; omega) (Ne.symm (hlow G HG.out.2))))
    have hkk := HKR.out.trans (HK2.out.trans (Kr.of_below HB4.out))
    have HK5 := hD (show Kr G g w w5 from ⟨hgr.os.trans hkk.os, hgr.tape.trans hkk.tape, hgr.output.trans hkk.output, Nat.le_trans hkk.size hgr.size, fun q hq h1 h2 => (hgr.block q (Nat.lt_of_lt_of_le hq HBS.out) (Ne.symm (hlow q hq))).trans (hkk.block q hq h1 h2)⟩)
    have HDN := hD (show ∀ i, i < k + 1 → NoDat 0 from fun i hi => trivial)
    have HYN := hD (show ys ++ [y] = (rdMany rdRl (k + 1) s1).1 by
     rw [HSN.out]
     show _ = (rdMany rdRl k s1).1 ++ [(rdRl tk).1]
     rw [← HYV.out, ← HYS.out])
    have HRN := hD (show Ri w5 G g (bad || (rdMany rdRl (k + 1) s1).2.1) (rdMany rdRl (k + 1) s1).2.2 by
     rw [HSN.out]
     show Ri w5 G g (bad || ((rdMany rdRl k s1).2.1 || (rdRl tk).2.1)) (0, l2)
     rw [← Bool.or_assoc, HB0.out, HB2.out]
     exact HR5.out)
    clear hown' hgw hnil hat hgr hat2 hlow hkk
    go_wp2_with fail
    go_roundw
    case rel => exact ⟨k + 1, A5, c5, ys ++ [y], fun i => if i = k then Bq else B i, by omega, by go_num, rfl, by rw [List.length_append, HYL.out]; rfl, HYN.out, HOS.out, HDN.out, HRN.out, HK5.out⟩
    case measure => simp [intOf]; omega
   ·
    have heb : (e2 != 0) = true := by simpa using he
    go_wp2_with (go_at_call 130; (with_reducible refine (HFA.out).mono ?_); rintro en wf ⟨rfl, rfl⟩)
    go_ret
    have hst := HST.out (by rw [HSN.out]; exact he)
    rw [HSN.out] at hst
    simp only at hst
    refine ⟨none, 0, [], fun _ => (none, 0), rfl, els_nil _ _ _ _, (by intro i hi; simp at hi), fun h0 => ?_, ?_, ?_⟩
    ·
     rw [hst.1] at h0; exact absurd h0 he
    ·
     rw [hst.1, hst.2, ← Bool.or_assoc, HB0.out, HB2.out]; exact HR3.out
    ·
     exact HKR.out.trans (HK2.out.trans (Kr.of_below HB3.out))
  ·
   obtain rfl : k = N := by omega
   have e := HYL.out
   subst e
   go_wp2
   go_ret
   exact ⟨A, c, ys, B, rfl, els_of_own (fun _ _ => rfl) HOW.out, fun _ _ => trivial, fun _ => HYS.out, HRI.out, HKR.out⟩
theorem Tryz.info_rlSlot : (Tryz.prog.info? 112).map (fun i => (i.zero, i.size, i.bytes)) = some (some (.agg #[.int .i64 0, .int .i64 0, .int .i64 0]), 3, 24) := by kernel_rfl
def ItrlSlot (w : World) (G g : Nat) (bad : Bool) (t : St) (en : Ending) (w' : World) : Prop :=
 ∃ (y : Sl) (B : Option Addr × Nat), en = .returned (.agg (slA y)) ∧ NoDat 0 ∧ ((rdSl t).2.2.1 = 0 → y = (rdSl t).1) ∧ Ri w' G g (bad || (rdSl t).2.1) (rdSl t).2.2 ∧ Kr G g w w'
def LsrlSlot (w : World) (G g : Nat) (bad : Bool) (r : List (Sl) × Bool × St) (en : Ending) (w' : World) : Prop :=
 ∃ (A : Option Addr) (c : Nat) (ys : List (Sl)) (B : Nat → Option Addr × Nat), en = .returned (.slice A ys.length c) ∧ Els w' (fun k => w.heap.size ≤ k ∧ k < w'.heap.size) A ys.length c 3 (fun k => slA (ys.getD k noSl)) ∧ (∀ k, k < ys.length → NoDat 0) ∧
  (r.2.2.1 = 0 → ys = r.1) ∧ Ri w' G g (bad || r.2.1) r.2.2 ∧ Kr G g w w'
set_option maxHeartbeats 2000000 in
theorem rlSlot_any {G g : Nat} {bad : Bool} {s : St} (size : Int) (hsz : size ≤ 2) (fn : Nat) (w : World) (h : Ri w G g bad s) (hE : ∀ (args : Array Value) (X : World), (callFunc fn args).run Tryz.prog X = .ok (.enter fn args) X)
  (HF : ∀ (X : World) (b : Bool) (t : St), Ri X G g b t → Kr G g w X → Calls Tryz.prog fn #[.pointer (some ⟨G, 0, none⟩)] X (ItrlSlot X G g b t)) :
  Calls Tryz.prog 50 #[.pointer (some ⟨G, 0, none⟩), .int .i64 size, .func (.func fn) #[.pointer (some ⟨G, 0, none⟩)] #[]] w (LsrlSlot w G g bad (rdList size rdSl s)) := by
 obtain ⟨i0, hi, hz0, hz1, hz2⟩ := info_parts Tryz.info_rlSlot
 have hc := h.c0
 have HN := hD (h.num size)
 have HP := hD HF
 have HG := hD (show g < G ∧ G < w.heap.size from ⟨h.lt, h.gt⟩)
 have hn0 := rNum_nn (size := size) (by omega) s
 have hn1 := rNum_top (size := size) hsz s
 have HL := hD (show rdList size rdSl s = rdMany rdSl (rNum size s).1.toNat (rNum size s).2 from rfl)
 rw [HL.out]
 clear h HF HL
 generalize rNum size s = t1 at *
 obtain ⟨n, s1⟩ := t1
 simp only at HN hn0 hn1 ⊢
 obtain ⟨N, rfl⟩ : ∃ N : Nat, n = (N : Int) := ⟨n.toNat, by omega⟩
 rw [Int.toNat_natCast]
 have hN : N ≤ 65535 := by omega
 clear hn0 hn1
 go_enter Tryz.func50, Tryz.ntmps50
 go_wp2_with (go_at_call 39; (with_reducible refine (HN.out).mono ?_); rintro en w1 ⟨rfl, h1, h2⟩; have H1 := hD h1; have H2 := hD h2; clear h1 h2)
 clear HN hc
 go_loopw [7, 15] (fun v t wr => ∃ (k : Nat) (A : Option Addr) (c : Nat) (ys : List (Sl)) (B : Nat → Option Addr × Nat), k ≤ N ∧ t = .int .i64 k ∧ v = .slice A k c ∧ ys.length = k ∧ ys = (rdMany rdSl k s1).1 ∧ wr.ownsRow w.heap.size 112 3 (.slice A k c) k (flatE (fun k => slA (ys.getD k noSl)) k) ∧
  (∀ i, i < k → NoDat 0) ∧ Ri wr G g (bad || (rdMany rdSl k s1).2.1) (rdMany rdSl k s1).2.2 ∧ Kr G g w wr) (fun _ t _ => N - (intOf t).toNat)
 case atStart => exact ⟨0, none, 0, [], fun _ => (none, 0), Nat.zero_le _, rfl, rfl, rfl, rfl, World.ownsRow_nil _ _ _ _, (by intro i hi; omega), by rw [show (bad || (rdMany rdSl 0 s1).2.1) = bad from Bool.or_false _]; exact H1.out, H2.out⟩
 case round =>
  obtain ⟨k, A, c, ys, B, hk, rfl, rfl, hyl, hys, hown, hdat, hri, hkr⟩ := hrel
  have HYL := hD hyl
  have HYS := hD hys
  have HOW := hD hown
  have HD := hD hdat
  have HRI := hD hri
  have HKR := hD hkr
  clear hyl hys hown hdat hri hkr
  by_cases hlt : k < N
  ·
   have HC := hD (HP.out wr _ _ HRI.out HKR.out)
   have HSN := hD (rdMany_snoc rdSl k s1)
   have HST := hD (fun he => rdMany_stop' (r := rdSl) clean_sl (k := k + 1) (n := N) (by omega) s1 he)
   generalize hb0 : (bad || (rdMany rdSl k s1).2.1) = bk at *
   have HB0 := hD hb0
   generalize ht0 : (rdMany rdSl k s1).2.2 = tk at *
   have HT0 := hD ht0
   clear hb0 ht0
   have hg0 := HG.out.1
   have hzr := HKR.out.size
   have hrl : ∀ q, row A = some q → q < wr.heap.size := fun q hq => (HOW.out.lt q (by rw [row_own]; exact hq)).2
   have HRL := hD hrl
   clear hrl
   have hk0 : (0 : Int) ≤ (k : Int) := by omega
   go_upto_region 5 with ((with_reducible refine (HC.out).mono ?_); rintro en w2 ⟨y, Bq, rfl, hd, hv, h1, h2⟩; have HDQ := hD hd; have HV := hD hv; have HR2 := hD h1; have HK2 := hD h2; clear hd hv h1 h2)
   have hbx : Below w2.heap.size w2 (w2.alloc (.cells (slA y) 112)) := (Below.refl _ _).alloc (Nat.le_refl _) _
   have HR3 := hD (HR2.out.below hbx)
   have HB3 := hD hbx
   have HBX := hD (Bx.new w2 (slA y) 112)
   change Code.wp _ _ _ _ (w2.alloc (.cells (slA y) 112))
   clear hbx
   generalize w2.alloc (.cells (slA y) 112) = w3 at *
   generalize hbq : (bk || (rdSl tk).2.1) = b2 at *
   have HB2 := hD hbq
   generalize htq : (rdSl tk).2.2 = t2 at *
   have HT2 := hD htq
   clear hbq htq
   have HFA := hD (HR3.out.fault)
   have hc3 := HR3.out.c0
   obtain ⟨e2, l2⟩ := t2
   simp only at HFA HV
   by_cases he : e2 = 0
   ·
    subst he
    have HYV := hD (HV.out rfl)
    have m1 : k + 1 ≤ maxLen := by simp only [maxLen]; omega
    have m2 : (k + 1) * 24 ≤ 140737488355328 := by omega
    have hb4 : Below w2.heap.size w2 (w3.alloc (.cells (slA y) 112)) := HB3.out.alloc HB3.out.size _
    have HB4 := hD hb4
    have HO4 := hD (own_keep HOW.out (w' := w3.alloc (.cells (slA y) 112)) fun q hq => by
     have hq2 := HRL.out q (by rw [← row_own A k c]; exact hq)
     have hq3 := (HOW.out.lt q hq).1
     have hq4 := HG.out.2
     rw [HB4.out.block q (by have := HK2.out.size; omega), HK2.out.block q hq2 (by omega) (by omega)])
    have HNW := hD (show ∀ j u, ((slA y) : Array Value).toList[j]? = some u → (w3.alloc (.cells (slA y) 112)).cell? ((⟨w3.heap.size, 0, none⟩ : Addr).add j) = some u from (src_new w3 ((slA y) : Array Value).toList 112).at_ _ rfl)
    have H1C := hD (show ∀ u ∈ ((slA y) : Array Value).toList, u.oneCell' = true from by
     intro u hu
     simp only [List.mem_cons, List.not_mem_nil, or_false] at hu
     rcases hu with rfl | rfl | rfl <;> rfl)
    have HBS := hD (show w.heap.size ≤ (w3.alloc (.cells (slA y) 112)).heap.size from Nat.le_trans hzr (Nat.le_trans HK2.out.size hb4.size))
    have HR4 := hD (HR2.out.below hb4)
    clear hb4
    have d0 := HBX.out.c 0
    have d1 := HBX.out.c 1
    have d2 := HBX.out.c 2
    simp only [gA, gB, gC] at d0 d1 d2
    go_wp2_with (first
     | (go_at_call 130; (with_reducible refine (HFA.out).mono ?_); rintro en wf ⟨rfl, rfl⟩)
     | (at_builtin; refine wpList_append_own_at _ rfl _ _ _ rfl w.heap.size 112 i0 _ 3 24 Tryz.underlying37 hi hz0 hz1 hz2 rfl (by decide) (.slice A k c) k _ rfl HO4.out ⟨w3.heap.size, 0, none⟩ 1 1 ((slA y) : Array Value).toList rfl rfl HNW.out H1C.out m1 m2 HBS.out ?_; intro v' w5 hown' hgw hnil hat; obtain ⟨A5, c5, rfl⟩ := own_sl hown'))
    have hgr : (w3.alloc (.cells (slA y) 112)).grownBy w5 (row A) := by rw [← row_own A k c]; exact hgw
    have hat2 : row A5 = row A ∨ row A5 = some (w3.alloc (.cells (slA y) 112)).heap.size := by simpa only [row_own] using hat
    have HGR := hD hgr
    have HAT := hD hat2
    have HOS := hD (own_snoc (y := y) (d := noSl) (B := B) (Bq := Bq) (arr := fun y B => slA y) HYL.out hown')
    have hlow : ∀ q, q < w.heap.size → row A ≠ some q := fun q hq e => by
     have := (HOW.out.lt q (by rw [row_own A k c]; exact e)).1
     omega
    have HR5 := hD (HR4.out.keep (w' := w5) (fun q hq => hgr.block q (by have := HG.out; have := HBS.out; omega) (Ne.symm (hlow q (by have := HG.out; omega)))) (hgr.block G (by have := HG.out; have := HBS.out; omega) (Ne.symm (hlow G HG.out.2))))
    have hkk := HKR.out.trans (HK2.out.trans (Kr.of_below HB4.out))
    have HK5 := hD (show Kr G g w w5 from ⟨hgr.os.trans hkk.os, hgr.tape.trans hkk.tape, hgr.output.trans hkk.output, Nat.le_trans hkk.size hgr.size, fun q hq h1 h2 => (hgr.block q (Nat.lt_of_lt_of_le hq HBS.out) (Ne.symm (hlow q hq))).trans (hkk.block q hq h1 h2)⟩)
    have HDN := hD (show ∀ i, i < k + 1 → NoDat 0 from fun i hi => trivial)
    have HYN := hD (show ys ++ [y] = (rdMany rdSl (k + 1) s1).1 by
     rw [HSN.out]
     show _ = (rdMany rdSl k s1).1 ++ [(rdSl tk).1]
     rw [← HYV.out, ← HYS.out])
    have HRN := hD (show Ri w5 G g (bad || (rdMany rdSl (k + 1) s1).2.1) (rdMany rdSl (k + 1) s1).2.2 by
     rw [HSN.out]
     show Ri w5 G g (bad || ((rdMany rdSl k s1).2.1 || (rdSl tk).2.1)) (0, l2)
     rw [← Bool.or_assoc, HB0.out, HB2.out]
     exact HR5.out)
    clear hown' hgw hnil hat hgr hat2 hlow hkk
    go_wp2_with fail
    go_roundw
    case rel => exact ⟨k + 1, A5, c5, ys ++ [y], fun i => if i = k then Bq else B i, by omega, by go_num, rfl, by rw [List.length_append, HYL.out]; rfl, HYN.out, HOS.out, HDN.out, HRN.out, HK5.out⟩
    case measure => simp [intOf]; omega
   ·
    have heb : (e2 != 0) = true := by simpa using he
    go_wp2_with (go_at_call 130; (with_reducible refine (HFA.out).mono ?_); rintro en wf ⟨rfl, rfl⟩)
    go_ret
    have hst := HST.out (by rw [HSN.out]; exact he)
    rw [HSN.out] at hst
    simp only at hst
    refine ⟨none, 0, [], fun _ => (none, 0), rfl, els_nil _ _ _ _, (by intro i hi; simp at hi), fun h0 => ?_, ?_, ?_⟩
    ·
     rw [hst.1] at h0; exact absurd h0 he
    ·
     rw [hst.1, hst.2, ← Bool.or_assoc, HB0.out, HB2.out]; exact HR3.out
    ·
     exact HKR.out.trans (HK2.out.trans (Kr.of_below HB3.out))
  ·
   obtain rfl : k = N := by omega
   have e := HYL.out
   subst e
   go_wp2
   go_ret
   exact ⟨A, c, ys, B, rfl, els_of_own (fun _ _ => rfl) HOW.out, fun _ _ => trivial, fun _ => HYS.out, HRI.out, HKR.out⟩
theorem Tryz.info_rlStr : (Tryz.prog.info? 9).map (fun i => (i.zero, i.size, i.bytes)) = some (some (.string ⟨#[]⟩), 1, 16) := by kernel_rfl
def ItrlStr (w : World) (G g : Nat) (bad : Bool) (t : St) (en : Ending) (w' : World) : Prop :=
 ∃ (y : Str) (B : Option Addr × Nat), en = .returned (str y) ∧ NoDat 0 ∧ ((rdText t).2.2.1 = 0 → y = (rdText t).1) ∧ Ri w' G g (bad || (rdText t).2.1) (rdText t).2.2 ∧ Kr G g w w'
def LsrlStr (w : World) (G g : Nat) (bad : Bool) (r : List (Str) × Bool × St) (en : Ending) (w' : World) : Prop :=
 ∃ (A : Option Addr) (c : Nat) (ys : List (Str)) (B : Nat → Option Addr × Nat), en = .returned (.slice A ys.length c) ∧ Els w' (fun k => w.heap.size ≤ k ∧ k < w'.heap.size) A ys.length c 1 (fun k => #[str (ys.getD k [])]) ∧ (∀ k, k < ys.length → NoDat 0) ∧
  (r.2.2.1 = 0 → ys = r.1) ∧ Ri w' G g (bad || r.2.1) r.2.2 ∧ Kr G g w w'
set_option maxHeartbeats 2000000 in
theorem rlStr_any {G g : Nat} {bad : Bool} {s : St} (size : Int) (hsz : size ≤ 2) (fn : Nat) (w : World) (h : Ri w G g bad s) (hE : ∀ (args : Array Value) (X : World), (callFunc fn args).run Tryz.prog X = .ok (.enter fn args) X)
  (HF : ∀ (X : World) (b : Bool) (t : St), Ri X G g b t → Kr G g w X → Calls Tryz.prog fn #[.pointer (some ⟨g, 0, none⟩)] X (ItrlStr X G g b t)) :
  Calls Tryz.prog 131 #[.pointer (some ⟨G, 0, none⟩), .int .i64 size, .func (.func fn) #[.pointer (some ⟨g, 0, none⟩)] #[]] w (LsrlStr w G g bad (rdList size rdText s)) := by
 obtain ⟨i0, hi, hz0, hz1, hz2⟩ := info_parts Tryz.info_rlStr
 have hc := h.c0
 have HN := hD (h.num size)
 have HP := hD HF
 have HG := hD (show g < G ∧ G < w.heap.size from ⟨h.lt, h.gt⟩)
 have hn0 := rNum_nn (size := size) (by omega) s
 have hn1 := rNum_top (size := size) hsz s
 have HL := hD (show rdList size rdText s = rdMany rdText (rNum size s).1.toNat (rNum size s).2 from rfl)
 rw [HL.out]
 clear h HF HL
 generalize rNum size s = t1 at *
 obtain ⟨n, s1⟩ := t1
 simp only at HN hn0 hn1 ⊢
 obtain ⟨N, rfl⟩ : ∃ N : Nat, n = (N : Int) := ⟨n.toNat, by omega⟩
 rw [Int.toNat_natCast]
 have hN : N ≤ 65535 := by omega
 clear hn0 hn1
 go_enter Tryz.func131, Tryz.ntmps131
 go_wp2_with (go_at_call 39; (with_reducible refine (HN.out).mono ?_); rintro en w1 ⟨rfl, h1, h2⟩; have H1 := hD h1; have H2 := hD h2; clear h1 h2)
 clear HN hc
 go_loopw [7, 15] (fun v t wr => ∃ (k : Nat) (A : Option Addr) (c : Nat) (ys : List (Str)) (B : Nat → Option Addr × Nat), k ≤ N ∧ t = .int .i64 k ∧ v = .slice A k c ∧ ys.length = k ∧ ys = (rdMany rdText k s1).1 ∧ wr.ownsRow w.heap.size 9 1 (.slice A k c) k (flatE (fun k => #[str (ys.getD k [])]) k) ∧
  (∀ i, i < k → NoDat 0) ∧ Ri wr G g (bad || (rdMany rdText k s1).2.1) (rdMany rdText k s1).2.2 ∧ Kr G g w wr) (fun _ t _ => N - (intOf t).toNat)
 case atStart => exact ⟨0, none, 0, [], fun _ => (none, 0), Nat.zero_le _, rfl, rfl, rfl, rfl, World.ownsRow_nil _ _ _ _, (by intro i hi; omega), by rw [show (bad || (rdMany rdText 0 s1).2.1) = bad from Bool.or_false _]; exact H1.out, H2.out⟩
 case round =>
  obtain ⟨k, A, c, ys, B, hk, rfl, rfl, hyl, hys, hown, hdat, hri, hkr⟩ := hrel
  have HYL := hD hyl
  have HYS := hD hys
  have HOW := hD hown
  have HD := hD hdat
  have HRI := hD hri
  have HKR := hD hkr
  clear hyl hys hown hdat hri hkr
  by_cases hlt : k < N
  ·
   have HC := hD (HP.out wr _ _ HRI.out HKR.out)
   have HSN := hD (rdMany_snoc rdText k s1)
   have HST := hD (fun he => rdMany_stop' (r := rdText) clean_text (k := k + 1) (n := N) (by omega) s1 he)
   generalize hb0 : (bad || (rdMany rdText k s1).2.1) = bk at *
   have HB0 := hD hb0
   generalize ht0 : (rdMany rdText k s1).2.2 = tk at *
   have HT0 := hD ht0
   clear hb0 ht0
   have hg0 := HG.out.1
   have hzr := HKR.out.size
   have hrl : ∀ q, row A = some q → q < wr.heap.size := fun q hq => (HOW.out.lt q (by rw [row_own]; exact hq)).2
   have HRL := hD hrl
   clear hrl
   have hk0 : (0 : Int) ≤ (k : Int) := by omega
   go_upto_region 5 with ((with_reducible refine (HC.out).mono ?_); rintro en w2 ⟨y, Bq, rfl, hd, hv, h1, h2⟩; have HDQ := hD hd; have HV := hD hv; have HR2 := hD h1; have HK2 := hD h2; clear hd hv h1 h2)
   have HR3 := hD HR2.out
   have HB3 := hD (Below.refl w2.heap.size w2)
   generalize hbq : (bk || (rdText tk).2.1) = b2 at *
   have HB2 := hD hbq
   generalize htq : (rdText tk).2.2 = t2 at *
   have HT2 := hD htq
   clear hbq htq
   have HFA := hD (HR3.out.fault)
   have hc3 := HR3.out.c0
   obtain ⟨e2, l2⟩ := t2
   simp only at HFA HV
   by_cases he : e2 = 0
   ·
    subst he
    have HYV := hD (HV.out rfl)
    have m1 : k + 1 ≤ maxLen := by simp only [maxLen]; omega
    have m2 : (k + 1) * 16 ≤ 140737488355328 := by omega
    have hb4 : Below w2.heap.size w2 (w2.alloc (.cells #[str y] 9)) := HB3.out.alloc HB3.out.size _
    have HB4 := hD hb4
    have HO4 := hD (own_keep HOW.out (w' := w2.alloc (.cells #[str y] 9)) fun q hq => by
     have hq2 := HRL.out q (by rw [← row_own A k c]; exact hq)
     have hq3 := (HOW.out.lt q hq).1
     have hq4 := HG.out.2
     rw [HB4.out.block q (by have := HK2.out.size; omega), HK2.out.block q hq2 (by omega) (by omega)])
    have HNW := hD (show ∀ j u, (#[str y] : Array Value).toList[j]? = some u → (w2.alloc (.cells #[str y] 9)).cell? ((⟨w2.heap.size, 0, none⟩ : Addr).add j) = some u from (src_new w2 (#[str y] : Array Value).toList 9).at_ _ rfl)
    have H1C := hD (show ∀ u ∈ (#[str y] : Array Value).toList, u.oneCell' = true from by
     intro u hu
     simp only [List.mem_cons, List.not_mem_nil, or_false] at hu
     rcases hu with rfl <;> rfl)
    have HBS := hD (show w.heap.size ≤ (w2.alloc (.cells #[str y] 9)).heap.size from Nat.le_trans hzr (Nat.le_trans HK2.out.size hb4.size))
    have HR4 := hD (HR2.out.below hb4)
    clear hb4
    go_wp2_with (first
     | (go_at_call 130; (with_reducible refine (HFA.out).mono ?_); rintro en wf ⟨rfl, rfl⟩)
     | (at_builtin; refine wpList_append_own_at _ rfl _ _ _ rfl w.heap.size 9 i0 _ 1 16 Tryz.underlying28 hi hz0 hz1 hz2 rfl (by decide) (.slice A k c) k _ rfl HO4.out ⟨w2.heap.size, 0, none⟩ 1 1 (#[str y] : Array Value).toList rfl rfl HNW.out H1C.out m1 m2 HBS.out ?_; intro v' w5 hown' hgw hnil hat; obtain ⟨A5, c5, rfl⟩ := own_sl hown'))
    have hgr : (w2.alloc (.cells #[str y] 9)).grownBy w5 (row A) := by rw [← row_own A k c]; exact hgw
    have hat2 : row A5 = row A ∨ row A5 = some (w2.alloc (.cells #[str y] 9)).heap.size := by simpa only [row_own] using hat
    have HGR := hD hgr
    have HAT := hD hat2
    have HOS := hD (own_snoc (y := y) (d := []) (B := B) (Bq := Bq) (arr := fun y B => #[str y]) HYL.out hown')
    have hlow : ∀ q, q < w.heap.size → row A ≠ some q := fun q hq e => by
     have := (HOW.out.lt q (by rw [row_own A k c]; exact e)).1
     omega
    have HR5 := hD (HR4.out.keep (w' := w5) (fun q hq => hgr.block q (by have := HG.out; have := HBS.out; omega) (Ne.symm (hlow q (by have := HG.out; omega)))) (hgr.block G (by have := HG.out; have := HBS.out; omega) (Ne.symm (hlow G HG.out.2))))
    have hkk := HKR.out.trans (HK2.out.trans (Kr.of_below HB4.out))
    have HK5 := hD (show Kr G g w w5 from ⟨hgr.os.trans hkk.os, hgr.tape.trans hkk.tape, hgr.output.trans hkk.output, Nat.le_trans hkk.size hgr.size, fun q hq h1 h2 => (hgr.block q (Nat.lt_of_lt_of_le hq HBS.out) (Ne.symm (hlow q hq))).trans (hkk.block q hq h1 h2)⟩)
    have HDN := hD (show ∀ i, i < k + 1 → NoDat 0 from fun i hi => trivial)
    have HYN := hD (show ys ++ [y] = (rdMany rdText (k + 1) s1).1 by
     rw [HSN.out]
     show _ = (rdMany rdText k s1).1 ++ [(rdText tk).1]
     rw [← HYV.out, ← HYS.out])
    have HRN := hD (show Ri w5 G g (bad || (rdMany rdText (k + 1) s1).2.1) (rdMany rdText (k + 1) s1).2.2 by
     rw [HSN.out]
     show Ri w5 G g (bad || ((rdMany rdText k s1).2.1 || (rdText tk).2.1)) (0, l2)
     rw [← Bool.or_assoc, HB0.out, HB2.out]
     exact HR5.out)
    clear hown' hgw hnil hat hgr hat2 hlow hkk
    go_wp2_with fail
    go_roundw
    case rel => exact ⟨k + 1, A5, c5, ys ++ [y], fun i => if i = k then Bq else B i, by omega, by go_num, rfl, by rw [List.length_append, HYL.out]; rfl, HYN.out, HOS.out, HDN.out, HRN.out, HK5.out⟩
    case measure => simp [intOf]; omega
   ·
    have heb : (e2 != 0) = true := by simpa using he
    go_wp2_with (go_at_call 130; (with_reducible refine (HFA.out).mono ?_); rintro en wf ⟨rfl, rfl⟩)
    go_ret
    have hst := HST.out (by rw [HSN.out]; exact he)
    rw [HSN.out] at hst
    simp only at hst
    refine ⟨none, 0, [], fun _ => (none, 0), rfl, els_nil _ _ _ _, (by intro i hi; simp at hi), fun h0 => ?_, ?_, ?_⟩
    ·
     rw [hst.1] at h0; exact absurd h0 he
    ·
     rw [hst.1, hst.2, ← Bool.or_assoc, HB0.out, HB2.out]; exact HR3.out
    ·
     exact HKR.out.trans (HK2.out.trans (Kr.of_below HB3.out))
  ·
   obtain rfl : k = N := by omega
   have e := HYL.out
   subst e
   go_wp2
   go_ret
   exact ⟨A, c, ys, B, rfl, els_of_own (fun _ _ => rfl) HOW.out, fun _ _ => trivial, fun _ => HYS.out, HRI.out, HKR.out⟩
theorem Tryz.info_rlRow : (Tryz.prog.info? 38).map (fun i => (i.zero, i.size, i.bytes)) = some (some (.slice none 0 0), 1, 24) := by kernel_rfl
def ItrlRow (w : World) (G g : Nat) (bad : Bool) (t : St) (en : Ending) (w' : World) : Prop :=
 ∃ (y : List Int) (B : Option Addr × Nat), en = .returned (.slice B.1 y.length B.2) ∧ Src w' (fun k => w.heap.size ≤ k ∧ k < w'.heap.size) B.1 y.length B.2 (ints y) ∧ ((rdRow t).2.2.1 = 0 → y = (rdRow t).1) ∧ Ri w' G g (bad || (rdRow t).2.1) (rdRow t).2.2 ∧ Kr G g w w'
def LsrlRow (w : World) (G g : Nat) (bad : Bool) (r : List (List Int) × Bool × St) (en : Ending) (w' : World) : Prop :=
 ∃ (A : Option Addr) (c : Nat) (ys : List (List Int)) (B : Nat → Option Addr × Nat), en = .returned (.slice A ys.length c) ∧ Els w' (fun k => w.heap.size ≤ k ∧ k < w'.heap.size) A ys.length c 1 (fun k => #[.slice (B k).1 (ys.getD k []).length (B k).2]) ∧ (∀ k, k < ys.length → Src w' (fun q => w.heap.size ≤ q ∧ q < w'.heap.size) (B k).1 (ys.getD k []).length (B k).2 (ints (ys.getD k []))) ∧
  (r.2.2.1 = 0 → ys = r.1) ∧ Ri w' G g (bad || r.2.1) r.2.2 ∧ Kr G g w w'
set_option maxHeartbeats 2000000 in
theorem rlRow_any {G g : Nat} {bad : Bool} {s : St} (size : Int) (hsz : size ≤ 2) (fn : Nat) (w : World) (h : Ri w G g bad s) (hE : ∀ (args : Array Value) (X : World), (callFunc fn args).run Tryz.prog X = .ok (.enter fn args) X)
  (HF : ∀ (X : World) (b : Bool) (t : St), Ri X G g b t → Kr G g w X → Calls Tryz.prog fn #[.pointer (some ⟨G, 0, none⟩)] X (ItrlRow X G g b t)) :
  Calls Tryz.prog 133 #[.pointer (some ⟨G, 0, none⟩), .int .i64 size, .func (.func fn) #[.pointer (some ⟨G, 0, none⟩)] #[]] w (LsrlRow w G g bad (rdList size rdRow s)) := by
 obtain ⟨i0, hi, hz0, hz1, hz2⟩ := info_parts Tryz.info_rlRow
 have hc := h.c0
 have HN := hD (h.num size)
 have HP := hD HF
 have HG := hD (show g < G ∧ G < w.heap.size from ⟨h.lt, h.gt⟩)
 have hn0 := rNum_nn (size := size) (by omega) s
 have hn1 := rNum_top (size := size) hsz s
 have HL := hD (show rdList size rdRow s = rdMany rdRow (rNum size s).1.toNat (rNum size s).2 from rfl)
 rw [HL.out]
 clear h HF HL
 generalize rNum size s = t1 at *
 obtain ⟨n, s1⟩ := t1
 simp only at HN hn0 hn1 ⊢
 obtain ⟨N, rfl⟩ : ∃ N : Nat, n = (N : Int) := ⟨n.toNat, by omega⟩
 rw [Int.toNat_natCast]
 have hN : N ≤ 65535 := by omega
 clear hn0 hn1
 go_enter Tryz.func133, Tryz.ntmps133
 go_wp2_with (go_at_call 39; (with_reducible refine (HN.out).mono ?_); rintro en w1 ⟨rfl, h1, h2⟩; have H1 := hD h1; have H2 := hD h2; clear h1 h2)
 clear HN hc
 go_loopw [7, 15] (fun v t wr => ∃ (k : Nat) (A : Option Addr) (c : Nat) (ys : List (List Int)) (B : Nat → Option Addr × Nat), k ≤ N ∧ t = .int .i64 k ∧ v = .slice A k c ∧ ys.length = k ∧ ys = (rdMany rdRow k s1).1 ∧ wr.ownsRow w.heap.size 38 1 (.slice A k c) k (flatE (fun k => #[.slice (B k).1 (ys.getD k []).length (B k).2]) k) ∧
  (∀ i, i < k → Src wr (fun q => (w.heap.size ≤ q ∧ q < wr.heap.size) ∧ row A ≠ some q) (B i).1 (ys.getD i []).length (B i).2 (ints (ys.getD i []))) ∧ Ri wr G g (bad || (rdMany rdRow k s1).2.1) (rdMany rdRow k s1).2.2 ∧ Kr G g w wr) (fun _ t _ => N - (intOf t).toNat)
 case atStart => exact ⟨0, none, 0, [], fun _ => (none, 0), Nat.zero_le _, rfl, rfl, rfl, rfl, World.ownsRow_nil _ _ _ _, (by intro i hi; omega), by rw [show (bad || (rdMany rdRow 0 s1).2.1) = bad from Bool.or_false _]; exact H1.out, H2.out⟩
 case round =>
  obtain ⟨k, A, c, ys, B, hk, rfl, rfl, hyl, hys, hown, hdat, hri, hkr⟩ := hrel
  have HYL := hD hyl
  have HYS := hD hys
  have HOW := hD hown
  have HD := hD hdat
  have HRI := hD hri
  have HKR := hD hkr
  clear hyl hys hown hdat hri hkr
  by_cases hlt : k < N
  ·
   have HC := hD (HP.out wr _ _ HRI.out HKR.out)
   have HSN := hD (rdMany_snoc rdRow k s1)
   have HST := hD (fun he => rdMany_stop' (r := rdRow) clean_row (k := k + 1) (n := N) (by omega) s1 he)
   generalize hb0 : (bad || (rdMany rdRow k s1).2.1) = bk at *
   have HB0 := hD hb0
   generalize ht0 : (rdMany rdRow k s1).2.2 = tk at *
   have HT0 := hD ht0
   clear hb0 ht0
   have hg0 := HG.out.1
   have hzr := HKR.out.size
   have hrl : ∀ q, row A = some q → q < wr.heap.size := fun q hq => (HOW.out.lt q (by rw [row_own]; exact hq)).2
   have HRL := hD hrl
   clear hrl
   have hk0 : (0 : Int) ≤ (k : Int) := by omega
   go_upto_region 5 with ((with_reducible refine (HC.out).mono ?_); rintro en w2 ⟨y, Bq, rfl, hd, hv, h1, h2⟩; have HDQ := hD hd; have HV := hD hv; have HR2 := hD h1; have HK2 := hD h2; clear hd hv h1 h2)
   have HR3 := hD HR2.out
   have HB3 := hD (Below.refl w2.heap.size w2)
   generalize hbq : (bk || (rdRow tk).2.1) = b2 at *
   have HB2 := hD hbq
   generalize htq : (rdRow tk).2.2 = t2 at *
   have HT2 := hD htq
   clear hbq htq
   have HFA := hD (HR3.out.fault)
   have hc3 := HR3.out.c0
   obtain ⟨e2, l2⟩ := t2
   simp only at HFA HV
   by_cases he : e2 = 0
   ·
    subst he
    have HYV := hD (HV.out rfl)
    have m1 : k + 1 ≤ maxLen := by simp only [maxLen]; omega
    have m2 : (k + 1) * 24 ≤ 140737488355328 := by omega
    have hb4 : Below w2.heap.size w2 (w2.alloc (.cells #[.slice Bq.1 y.length Bq.2] 38)) := HB3.out.alloc HB3.out.size _
    have HB4 := hD hb4
    have HO4 := hD (own_keep HOW.out (w' := w2.alloc (.cells #[.slice Bq.1 y.length Bq.2] 38)) fun q hq => by
     have hq2 := HRL.out q (by rw [← row_own A k c]; exact hq)
     have hq3 := (HOW.out.lt q hq).1
     have hq4 := HG.out.2
     rw [HB4.out.block q (by have := HK2.out.size; omega), HK2.out.block q hq2 (by omega) (by omega)])
    have HNW := hD (show ∀ j u, (#[.slice Bq.1 y.length Bq.2] : Array Value).toList[j]? = some u → (w2.alloc (.cells #[.slice Bq.1 y.length Bq.2] 38)).cell? ((⟨w2.heap.size, 0, none⟩ : Addr).add j) = some u from (src_new w2 (#[.slice Bq.1 y.length Bq.2] : Array Value).toList 38).at_ _ rfl)
    have H1C := hD (show ∀ u ∈ (#[.slice Bq.1 y.length Bq.2] : Array Value).toList, u.oneCell' = true from by
     intro u hu
     simp only [List.mem_cons, List.not_mem_nil, or_false] at hu
     rcases hu with rfl <;> rfl)
    have HBS := hD (show w.heap.size ≤ (w2.alloc (.cells #[.slice Bq.1 y.length Bq.2] 38)).heap.size from Nat.le_trans hzr (Nat.le_trans HK2.out.size hb4.size))
    have HR4 := hD (HR2.out.below hb4)
    clear hb4
    go_wp2_with (first
     | (go_at_call 130; (with_reducible refine (HFA.out).mono ?_); rintro en wf ⟨rfl, rfl⟩)
     | (at_builtin; refine wpList_append_own_at _ rfl _ _ _ rfl w.heap.size 38 i0 _ 1 24 Tryz.underlying30 hi hz0 hz1 hz2 rfl (by decide) (.slice A k c) k _ rfl HO4.out ⟨w2.heap.size, 0, none⟩ 1 1 (#[.slice Bq.1 y.length Bq.2] : Array Value).toList rfl rfl HNW.out H1C.out m1 m2 HBS.out ?_; intro v' w5 hown' hgw hnil hat; obtain ⟨A5, c5, rfl⟩ := own_sl hown'))
    have hgr : (w2.alloc (.cells #[.slice Bq.1 y.length Bq.2] 38)).grownBy w5 (row A) := by rw [← row_own A k c]; exact hgw
    have hat2 : row A5 = row A ∨ row A5 = some (w2.alloc (.cells #[.slice Bq.1 y.length Bq.2] 38)).heap.size := by simpa only [row_own] using hat
    have HGR := hD hgr
    have HAT := hD hat2
    have HOS := hD (own_snoc (y := y) (d := []) (B := B) (Bq := Bq) (arr := fun y B => #[.slice B.1 y.length B.2]) HYL.out hown')
    have hlow : ∀ q, q < w.heap.size → row A ≠ some q := fun q hq e => by
     have := (HOW.out.lt q (by rw [row_own A k c]; exact e)).1
     omega
    have HR5 := hD (HR4.out.keep (w' := w5) (fun q hq => hgr.block q (by have := HG.out; have := HBS.out; omega) (Ne.symm (hlow q (by have := HG.out; omega)))) (hgr.block G (by have := HG.out; have := HBS.out; omega) (Ne.symm (hlow G HG.out.2))))
    have hkk := HKR.out.trans (HK2.out.trans (Kr.of_below HB4.out))
    have HK5 := hD (show Kr G g w w5 from ⟨hgr.os.trans hkk.os, hgr.tape.trans hkk.tape, hgr.output.trans hkk.output, Nat.le_trans hkk.size hgr.size, fun q hq h1 h2 => (hgr.block q (Nat.lt_of_lt_of_le hq HBS.out) (Ne.symm (hlow q hq))).trans (hkk.block q hq h1 h2)⟩)
    have HDN := hD (show ∀ i, i < k + 1 → Src w5 (fun q => (w.heap.size ≤ q ∧ q < w5.heap.size) ∧ row A5 ≠ some q) (if i = k then Bq else B i).1 ((ys ++ [y]).getD i []).length (if i = k then Bq else B i).2 (ints ((ys ++ [y]).getD i [])) from fun i hi => by
     by_cases hik : i = k
     ·
      rw [if_pos hik, getD_last (hik.trans HYL.out.symm)]
      exact src_item HDQ.out hzr HRL.out HB4.out HGR.out HAT.out
     ·
      rw [if_neg hik, getD_old (by rw [HYL.out]; omega)]
      exact src_old (HD.out i (by omega)) HK2.out HB4.out HGR.out (by have := HG.out; omega) (by have := HG.out; omega) HAT.out)
    have HYN := hD (show ys ++ [y] = (rdMany rdRow (k + 1) s1).1 by
     rw [HSN.out]
     show _ = (rdMany rdRow k s1).1 ++ [(rdRow tk).1]
     rw [← HYV.out, ← HYS.out])
    have HRN := hD (show Ri w5 G g (bad || (rdMany rdRow (k + 1) s1).2.1) (rdMany rdRow (k + 1) s1).2.2 by
     rw [HSN.out]
     show Ri w5 G g (bad || ((rdMany rdRow k s1).2.1 || (rdRow tk).2.1)) (0, l2)
     rw [← Bool.or_assoc, HB0.out, HB2.out]
     exact HR5.out)
    clear hown' hgw hnil hat hgr hat2 hlow hkk
    go_wp2_with fail
    go_roundw
    case rel => exact ⟨k + 1, A5, c5, ys ++ [y], fun i => if i = k then Bq else B i, by omega, by go_num, rfl, by rw [List.length_append, HYL.out]; rfl, HYN.out, HOS.out, HDN.out, HRN.out, HK5.out⟩
    case measure => simp [intOf]; omega
   ·
    have heb : (e2 != 0) = true := by simpa using he
    go_wp2_with (go_at_call 130; (with_reducible refine (HFA.out).mono ?_); rintro en wf ⟨rfl, rfl⟩)
    go_ret
    have hst := HST.out (by rw [HSN.out]; exact he)
    rw [HSN.out] at hst
    simp only at hst
    refine ⟨none, 0, [], fun _ => (none, 0), rfl, els_nil _ _ _ _, (by intro i hi; simp at hi), fun h0 => ?_, ?_, ?_⟩
    ·
     rw [hst.1] at h0; exact absurd h0 he
    ·
     rw [hst.1, hst.2, ← Bool.or_assoc, HB0.out, HB2.out]; exact HR3.out
    ·
     exact HKR.out.trans (HK2.out.trans (Kr.of_below HB3.out))
  ·
   obtain rfl : k = N := by omega
   have e := HYL.out
   subst e
   go_wp2
   go_ret
   exact ⟨A, c, ys, B, rfl, els_of_own (fun _ _ => rfl) HOW.out, fun i hi => (HD.out i hi).weak fun _ hq => hq.1, fun _ => HYS.out, HRI.out, HKR.out⟩
theorem Tryz.info_rlWord : (Tryz.prog.info? 52).map (fun i => (i.zero, i.size, i.bytes)) = some (some (.int .u64 0), 1, 8) := by kernel_rfl
def ItrlWord (w : World) (G g : Nat) (bad : Bool) (t : St) (en : Ending) (w' : World) : Prop :=
 ∃ (y : UInt64) (B : Option Addr × Nat), en = .returned (Siv.u64v y) ∧ NoDat 0 ∧ ((rdWd t).2.2.1 = 0 → y = (rdWd t).1) ∧ Ri w' G g (bad || (rdWd t).2.1) (rdWd t).2.2 ∧ Kr G g w w'
def LsrlWord (w : World) (G g : Nat) (bad : Bool) (r : List (UInt64) × Bool × St) (en : Ending) (w' : World) : Prop :=
 ∃ (A : Option Addr) (c : Nat) (ys : List (UInt64)) (B : Nat → Option Addr × Nat), en = .returned (.slice A ys.length c) ∧ Els w' (fun k => w.heap.size ≤ k ∧ k < w'.heap.size) A ys.length c 1 (fun k => #[Siv.u64v (ys.getD k 0)]) ∧ (∀ k, k < ys.length → NoDat 0) ∧
  (r.2.2.1 = 0 → ys = r.1) ∧ Ri w' G g (bad || r.2.1) r.2.2 ∧ Kr G g w w'
set_option maxHeartbeats 2000000 in
theorem rlWord_any {G g : Nat} {bad : Bool} {s : St} (size : Int) (hsz : size ≤ 2) (fn : Nat) (w : World) (h : Ri w G g bad s) (hE : ∀ (args : Array Value) (X : World), (callFunc fn args).run Tryz.prog X = .ok (.enter fn args) X)
  (HF : ∀ (X : World) (b : Bool) (t : St), Ri X G g b t → Kr G g w X → Calls Tryz.prog fn #[.pointer (some ⟨G, 0, none⟩)] X (ItrlWord X G g b t)) :
  Calls Tryz.prog 188 #[.pointer (some ⟨G, 0, none⟩), .int .i64 size, .func (.func fn) #[.pointer (some ⟨G, 0, none⟩)] #[]] w (LsrlWord w G g bad (rdList size rdWd s)) := by
 obtain ⟨i0, hi, hz0, hz1, hz2⟩ := info_parts Tryz.info_rlWord
 have hc := h.c0
 have HN := hD (h.num size)
 have HP := hD HF
 have HG := hD (show g < G ∧ G < w.heap.size from ⟨h.lt, h.gt⟩)
 have hn0 := rNum_nn (size := size) (by omega) s
 have hn1 := rNum_top (size := size) hsz s
 have HL := hD (show rdList size rdWd s = rdMany rdWd (rNum size s).1.toNat (rNum size s).2 from rfl)
 rw [HL.out]
 clear h HF HL
 generalize rNum size s = t1 at *
 obtain ⟨n, s1⟩ := t1
 simp only at HN hn0 hn1 ⊢
 obtain ⟨N, rfl⟩ : ∃ N : Nat, n = (N : Int) := ⟨n.toNat, by omega⟩
 rw [Int.toNat_natCast]
 have hN : N ≤ 65535 := by omega
 clear hn0 hn1
 go_enter Tryz.func188, Tryz.ntmps188
 go_wp2_with (go_at_call 39; (with_reducible refine (HN.out).mono ?_); rintro en w1 ⟨rfl, h1, h2⟩; have H1 := hD h1; have H2 := hD h2; clear h1 h2)
 clear HN hc
 go_loopw [7, 15] (fun v t wr => ∃ (k : Nat) (A : Option Addr) (c : Nat) (ys : List (UInt64)) (B : Nat → Option Addr × Nat), k ≤ N ∧ t = .int .i64 k ∧ v = .slice A k c ∧ ys.length = k ∧ ys = (rdMany rdWd k s1).1 ∧ wr.ownsRow w.heap.size 52 1 (.slice A k c) k (flatE (fun k => #[Siv.u64v (ys.getD k 0)]) k) ∧
  (∀ i, i < k → NoDat 0) ∧ Ri wr G g (bad || (rdMany rdWd k s1).2.1) (rdMany rdWd k s1).2.2 ∧ Kr G g w wr) (fun _ t _ => N - (intOf t).toNat)
 case atStart => exact ⟨0, none, 0, [], fun _ => (none, 0), Nat.zero_le _, rfl, rfl, rfl, rfl, World.ownsRow_nil _ _ _ _, (by intro i hi; omega), by rw [show (bad || (rdMany rdWd 0 s1).2.1) = bad from Bool.or_false _]; exact H1.out, H2.out⟩
 case round =>
  obtain ⟨k, A, c, ys, B, hk, rfl, rfl, hyl, hys, hown, hdat, hri, hkr⟩ := hrel
  have HYL := hD hyl
  have HYS := hD hys
  have HOW := hD hown
  have HD := hD hdat
  have HRI := hD hri
  have HKR := hD hkr
  clear hyl hys hown hdat hri hkr
  by_cases hlt : k < N
  ·
   have HC := hD (HP.out wr _ _ HRI.out HKR.out)
   have HSN := hD (rdMany_snoc rdWd k s1)
   have HST := hD (fun he => rdMany_stop' (r := rdWd) clean_wd (k := k + 1) (n := N) (by omega) s1 he)
   generalize hb0 : (bad || (rdMany rdWd k s1).2.1) = bk at *
   have HB0 := hD hb0
   generalize ht0 : (rdMany rdWd k s1).2.2 = tk at *
   have HT0 := hD ht0
   clear hb0 ht0
   have hg0 := HG.out.1
   have hzr := HKR.out.size
   have hrl : ∀ q, row A = some q → q < wr.heap.size := fun q hq => (HOW.out.lt q (by rw [row_own]; exact hq)).2
   have HRL := hD hrl
   clear hrl
   have hk0 : (0 : Int) ≤ (k : Int) := by omega
   go_upto_region 5 with ((with_reducible refine (HC.out).mono ?_); rintro en w2 ⟨y, Bq, rfl, hd, hv, h1, h2⟩; have HDQ := hD hd; have HV := hD hv; have HR2 := hD h1; have HK2 := hD h2; clear hd hv h1 h2)
   have HR3 := hD HR2.out
   have HB3 := hD (Below.refl w2.heap.size w2)
   generalize hbq : (bk || (rdWd tk).2.1) = b2 at *
   have HB2 := hD hbq
   generalize htq : (rdWd tk).2.2 = t2 at *
   have HT2 := hD htq
   clear hbq htq
   have HFA := hD (HR3.out.fault)
   have hc3 := HR3.out.c0
   obtain ⟨e2, l2⟩ := t2
   simp only at HFA HV
   by_cases he : e2 = 0
   ·
    subst he
    have HYV := hD (HV.out rfl)
    have m1 : k + 1 ≤ maxLen := by simp only [maxLen]; omega
    have m2 : (k + 1) * 8 ≤ 140737488355328 := by omega
    have hb4 : Below w2.heap.size w2 (w2.alloc (.cells #[Siv.u64v y] 52)) := HB3.out.alloc HB3.out.size _
    have HB4 := hD hb4
    have HO4 := hD (own_keep HOW.out (w' := w2.alloc (.cells #[Siv.u64v y] 52)) fun q hq => by
     have hq2 := HRL.out q (by rw [← row_own A k c]; exact hq)
     have hq3 := (HOW.out.lt q hq).1
     have hq4 := HG.out.2
     rw [HB4.out.block q (by have := HK2.out.size; omega), HK2.out.block q hq2 (by omega) (by omega)])
    have HNW := hD (show ∀ j u, (#[Siv.u64v y] : Array Value).toList[j]? = some u → (w2.alloc (.cells #[Siv.u64v y] 52)).cell? ((⟨w2.heap.size, 0, none⟩ : Addr).add j) = some u from (src_new w2 (#[Siv.u64v y] : Array Value).toList 52).at_ _ rfl)
    have H1C := hD (show ∀ u ∈ (#[Siv.u64v y] : Array Value).toList, u.oneCell' = true from by
     intro u hu
     simp only [List.mem_cons, List.not_mem_nil, or_false] at hu
     rcases hu with rfl <;> rfl)
    have HBS := hD (show w.heap.size ≤ (w2.alloc (.cells #[Siv.u64v y] 52)).heap.size from Nat.le_trans hzr (Nat.le_trans HK2.out.size hb4.size))
    have HR4 := hD (HR2.out.below hb4)
    clear hb4
    go_wp2_with (first
     | (go_at_call 130; (with_reducible refine (HFA.out).mono ?_); rintro en wf ⟨rfl, rfl⟩)
     | (at_builtin; refine wpList_append_own_at _ rfl _ _ _ rfl w.heap.size 52 i0 _ 1 8 Tryz.underlying31 hi hz0 hz1 hz2 rfl (by decide) (.slice A k c) k _ rfl HO4.out ⟨w2.heap.size, 0, none⟩ 1 1 (#[Siv.u64v y] : Array Value).toList rfl rfl HNW.out H1C.out m1 m2 HBS.out ?_; intro v' w5 hown' hgw hnil hat; obtain ⟨A5, c5, rfl⟩ := own_sl hown'))
    have hgr : (w2.alloc (.cells #[Siv.u64v y] 52)).grownBy w5 (row A) := by rw [← row_own A k c]; exact hgw
    have hat2 : row A5 = row A ∨ row A5 = some (w2.alloc (.cells #[Siv.u64v y] 52)).heap.size := by simpa only [row_own] using hat
    have HGR := hD hgr
    have HAT := hD hat2
    have HOS := hD (own_snoc (y := y) (d := 0) (B := B) (Bq := Bq) (arr := fun y B => #[Siv.u64v y]) HYL.out hown')
    have hlow : ∀ q, q < w.heap.size → row A ≠ some q := fun q hq e => by
     have := (HOW.out.lt q (by rw [row_own A k c]; exact e)).1
     omega
    have HR5 := hD (HR4.out.keep (w' := w5) (fun q hq => hgr.block q (by have := HG.out; have := HBS.out; omega) (Ne.symm (hlow q (by have := HG.out; omega)))) (hgr.block G (by have := HG.out; have := HBS.out; omega) (Ne.symm (hlow G HG.out.2))))
    have hkk := HKR.out.trans (HK2.out.trans (Kr.of_below HB4.out))
    have HK5 := hD (show Kr G g w w5 from ⟨hgr.os.trans hkk.os, hgr.tape.trans hkk.tape, hgr.output.trans hkk.output, Nat.le_trans hkk.size hgr.size, fun q hq h1 h2 => (hgr.block q (Nat.lt_of_lt_of_le hq HBS.out) (Ne.symm (hlow q hq))).trans (hkk.block q hq h1 h2)⟩)
    have HDN := hD (show ∀ i, i < k + 1 → NoDat 0 from fun i hi => trivial)
    have HYN := hD (show ys ++ [y] = (rdMany rdWd (k + 1) s1).1 by
     rw [HSN.out]
     show _ = (rdMany rdWd k s1).1 ++ [(rdWd tk).1]
     rw [← HYV.out, ← HYS.out])
    have HRN := hD (show Ri w5 G g (bad || (rdMany rdWd (k + 1) s1).2.1) (rdMany rdWd (k + 1) s1).2.2 by
     rw [HSN.out]
     show Ri w5 G g (bad || ((rdMany rdWd k s1).2.1 || (rdWd tk).2.1)) (0, l2)
     rw [← Bool.or_assoc, HB0.out, HB2.out]
     exact HR5.out)
    clear hown' hgw hnil hat hgr hat2 hlow hkk
    go_wp2_with fail
    go_roundw
    case rel => exact ⟨k + 1, A5, c5, ys ++ [y], fun i => if i = k then Bq else B i, by omega, by go_num, rfl, by rw [List.length_append, HYL.out]; rfl, HYN.out, HOS.out, HDN.out, HRN.out, HK5.out⟩
    case measure => simp [intOf]; omega
   ·
    have heb : (e2 != 0) = true := by simpa using he
    go_wp2_with (go_at_call 130; (with_reducible refine (HFA.out).mono ?_); rintro en wf ⟨rfl, rfl⟩)
    go_ret
    have hst := HST.out (by rw [HSN.out]; exact he)
    rw [HSN.out] at hst
    simp only at hst
    refine ⟨none, 0, [], fun _ => (none, 0), rfl, els_nil _ _ _ _, (by intro i hi; simp at hi), fun h0 => ?_, ?_, ?_⟩
    ·
     rw [hst.1] at h0; exact absurd h0 he
    ·
     rw [hst.1, hst.2, ← Bool.or_assoc, HB0.out, HB2.out]; exact HR3.out
    ·
     exact HKR.out.trans (HK2.out.trans (Kr.of_below HB3.out))
  ·
   obtain rfl : k = N := by omega
   have e := HYL.out
   subst e
   go_wp2
   go_ret
   exact ⟨A, c, ys, B, rfl, els_of_own (fun _ _ => rfl) HOW.out, fun _ _ => trivial, fun _ => HYS.out, HRI.out, HKR.out⟩
theorem Tryz.info_rlInt2 : (Tryz.prog.info? 3).map (fun i => (i.zero, i.size, i.bytes)) = some (some (.int .i64 0), 1, 8) := by kernel_rfl
def ItrlInt2 (w : World) (G g : Nat) (bad : Bool) (t : St) (en : Ending) (w' : World) : Prop :=
 ∃ (y : Int) (B : Option Addr × Nat), en = .returned (.int .i64 y) ∧ NoDat 0 ∧ (((rdNum 2) t).2.2.1 = 0 → y = ((rdNum 2) t).1) ∧ Ri w' G g (bad || ((rdNum 2) t).2.1) ((rdNum 2) t).2.2 ∧ Kr G g w w'
def LsrlInt2 (w : World) (G g : Nat) (bad : Bool) (r : List (Int) × Bool × St) (en : Ending) (w' : World) : Prop :=
 ∃ (A : Option Addr) (c : Nat) (ys : List (Int)) (B : Nat → Option Addr × Nat), en = .returned (.slice A ys.length c) ∧ Els w' (fun k => w.heap.size ≤ k ∧ k < w'.heap.size) A ys.length c 1 (fun k => #[.int .i64 (ys.getD k 0)]) ∧ (∀ k, k < ys.length → NoDat 0) ∧
  (r.2.2.1 = 0 → ys = r.1) ∧ Ri w' G g (bad || r.2.1) r.2.2 ∧ Kr G g w w'
set_option maxHeartbeats 2000000 in
theorem rlInt2_any {G g : Nat} {bad : Bool} {s : St} (size : Int) (hsz : size ≤ 2) (fn : Nat) (b0 : Nat) (w : World) (h : Ri w G g bad s) (hE : ∀ (args : Array Value) (X : World), (callFunc fn args).run Tryz.prog X = .ok (.enter fn args) X)
  (HF : ∀ (X : World) (b : Bool) (t : St), Ri X G g b t → Kr G g w X → Calls Tryz.prog fn #[.pointer (some ⟨b0, 0, none⟩)] X (ItrlInt2 X G g b t)) :
  Calls Tryz.prog 136 #[.pointer (some ⟨G, 0, none⟩), .int .i64 size, .func (.func fn) #[] #[.pointer (some ⟨b0, 0, none⟩)]] w (LsrlInt2 w G g bad (rdList size (rdNum 2) s)) := by
 obtain ⟨i0, hi, hz0, hz1, hz2⟩ := info_parts Tryz.info_rlInt2
 have hc := h.c0
 have HN := hD (h.num size)
 have HP := hD HF
 have HG := hD (show g < G ∧ G < w.heap.size from ⟨h.lt, h.gt⟩)
 have hn0 := rNum_nn (size := size) (by omega) s
 have hn1 := rNum_top (size := size) hsz s
 have HL := hD (show rdList size (rdNum 2) s = rdMany (rdNum 2) (rNum size s).1.toNat (rNum size s).2 from rfl)
 rw [HL.out]
 clear h HF HL
 generalize rNum size s = t1 at *
 obtain ⟨n, s1⟩ := t1
 simp only at HN hn0 hn1 ⊢
 obtain ⟨N, rfl⟩ : ∃ N : Nat, n = (N : Int) := ⟨n.toNat, by omega⟩
 rw [Int.toNat_natCast]
 have hN : N ≤ 65535 := by omega
 clear hn0 hn1
 go_enter Tryz.func136, Tryz.ntmps136
 go_wp2_with (go_at_call 39; (with_reducible refine (HN.out).mono ?_); rintro en w1 ⟨rfl, h1, h2⟩; have H1 := hD h1; have H2 := hD h2; clear h1 h2)
 clear HN hc
 go_loopw [7, 15] (fun v t wr => ∃ (k : Nat) (A : Option Addr) (c : Nat) (ys : List (Int)) (B : Nat → Option Addr × Nat), k ≤ N ∧ t = .int .i64 k ∧ v = .slice A k c ∧ ys.length = k ∧ ys = (rdMany (rdNum 2) k s1).1 ∧ wr.ownsRow w.heap.size 3 1 (.slice A k c) k (flatE (fun k => #[.int .i64 (ys.getD k 0)]) k) ∧
  (∀ i, i < k → NoDat 0) ∧ Ri wr G g (bad || (rdMany (rdNum 2) k s1).2.1) (rdMany (rdNum 2) k s1).2.2 ∧ Kr G g w wr) (fun _ t _ => N - (intOf t).toNat)
 case atStart => exact ⟨0, none, 0, [], fun _ => (none, 0), Nat.zero_le _, rfl, rfl, rfl, rfl, World.ownsRow_nil _ _ _ _, (by intro i hi; omega), by rw [show (bad || (rdMany (rdNum 2) 0 s1).2.1) = bad from Bool.or_false _]; exact H1.out, H2.out⟩
 case round =>
  obtain ⟨k, A, c, ys, B, hk, rfl, rfl, hyl, hys, hown, hdat, hri, hkr⟩ := hrel
  have HYL := hD hyl
  have HYS := hD hys
  have HOW := hD hown
  have HD := hD hdat
  have HRI := hD hri
  have HKR := hD hkr
  clear hyl hys hown hdat hri hkr
  by_cases hlt : k < N
  ·
   have HC := hD (HP.out wr _ _ HRI.out HKR.out)
   have HSN := hD (rdMany_snoc (rdNum 2) k s1)
   have HST := hD (fun he => rdMany_stop' (r := (rdNum 2)) (clean_num 2) (k := k + 1) (n := N) (by omega) s1 he)
   generalize hb0 : (bad || (rdMany (rdNum 2) k s1).2.1) = bk at *
   have HB0 := hD hb0
   generalize ht0 : (rdMany (rdNum 2) k s1).2.2 = tk at *
   have HT0 := hD ht0
   clear hb0 ht0
   have hg0 := HG.out.1
   have hzr := HKR.out.size
   have hrl : ∀ q, row A = some q → q < wr.heap.size := fun q hq => (HOW.out.lt q (by rw [row_own]; exact hq)).2
   have HRL := hD hrl
   clear hrl
   have hk0 : (0 : Int) ≤ (k : Int) := by omega
   go_upto_region 5 with ((with_reducible refine (HC.out).mono ?_); rintro en w2 ⟨y, Bq, rfl, hd, hv, h1, h2⟩; have HDQ := hD hd; have HV := hD hv; have HR2 := hD h1; have HK2 := hD h2; clear hd hv h1 h2)
   have HR3 := hD HR2.out
   have HB3 := hD (Below.refl w2.heap.size w2)
   generalize hbq : (bk || ((rdNum 2) tk).2.1) = b2 at *
   have HB2 := hD hbq
   generalize htq : ((rdNum 2) tk).2.2 = t2 at *
   have HT2 := hD htq
   clear hbq htq
   have HFA := hD (HR3.out.fault)
   have hc3 := HR3.out.c0
   obtain ⟨e2, l2⟩ := t2
   simp only at HFA HV
   by_cases he : e2 = 0
   ·
    subst he
    have HYV := hD (HV.out rfl)
    have m1 : k + 1 ≤ maxLen := by simp only [maxLen]; omega
    have m2 : (k + 1) * 8 ≤ 140737488355328 := by omega
    have hb4 : Below w2.heap.size w2 (w2.alloc (.cells #[.int .i64 y] 3)) := HB3.out.alloc HB3.out.size _
    have HB4 := hD hb4
    have HO4 := hD (own_keep HOW.out (w' := w2.alloc (.cells #[.int .i64 y] 3)) fun q hq => by
     have hq2 := HRL.out q (by rw [← row_own A k c]; exact hq)
     have hq3 := (HOW.out.lt q hq).1
     have hq4 := HG.out.2
     rw [HB4.out.block q (by have := HK2.out.size; omega), HK2.out.block q hq2 (by omega) (by omega)])
    have HNW := hD (show ∀ j u, (#[.int .i64 y] : Array Value).toList[j]? = some u → (w2.alloc (.cells #[.int .i64 y] 3)).cell? ((⟨w2.heap.size, 0, none⟩ : Addr).add j) = some u from (src_new w2 (#[.int .i64 y] : Array Value).toList 3).at_ _ rfl)
    have H1C := hD (show ∀ u ∈ (#[.int .i64 y] : Array Value).toList, u.oneCell' = true from by
     intro u hu
     simp only [List.mem_cons, List.not_mem_nil, or_false] at hu
     rcases hu with rfl <;> rfl)
    have HBS := hD (show w.heap.size ≤ (w2.alloc (.cells #[.int .i64 y] 3)).heap.size from Nat.le_trans hzr (Nat.le_trans HK2.out.size hb4.size))
    have HR4 := hD (HR2.out.below hb4)
    clear hb4
    go_wp2_with (first
     | (go_at_call 130; (with_reducible refine (HFA.out).mono ?_); rintro en wf ⟨rfl, rfl⟩)
     | (at_builtin; refine wpList_append_own_at _ rfl _ _ _ rfl w.heap.size 3 i0 _ 1 8 Tryz.underlying38 hi hz0 hz1 hz2 rfl (by decide) (.slice A k c) k _ rfl HO4.out ⟨w2.heap.size, 0, none⟩ 1 1 (#[.int .i64 y] : Array Value).toList rfl rfl HNW.out H1C.out m1 m2 HBS.out ?_; intro v' w5 hown' hgw hnil hat; obtain ⟨A5, c5, rfl⟩ := own_sl hown'))
    have hgr : (w2.alloc (.cells #[.int .i64 y] 3)).grownBy w5 (row A) := by rw [← row_own A k c]; exact hgw
    have hat2 : row A5 = row A ∨ row A5 = some (w2.alloc (.cells #[.int .i64 y] 3)).heap.size := by simpa only [row_own] using hat
    have HGR := hD hgr
    have HAT := hD hat2
    have HOS := hD (own_snoc (y := y) (d := 0) (B := B) (Bq := Bq) (arr := fun y B => #[.int .i64 y]) HYL.out hown')
    have hlow : ∀ q, q < w.heap.size → row A ≠ some q := fun q hq e => by
     have := (HOW.out.lt q (by rw [row_own A k c]; exact e)).1
     omega
    have HR5 := hD (HR4.out.keep (w' := w5) (fun q hq => hgr.block q (by have := HG.out; have := HBS.out; omega) (Ne.symm (hlow q (by have := HG.out; omega)))) (hgr.block G (by have := HG.out; have := HBS.out; omega) (Ne.symm (hlow G HG.out.2))))
    have hkk := HKR.out.trans (HK2.out.trans (Kr.of_below HB4.out))
    have HK5 := hD (show Kr G g w w5 from ⟨hgr.os.trans hkk.os, hgr.tape.trans hkk.tape, hgr.output.trans hkk.output, Nat.le_trans hkk.size hgr.size, fun q hq h1 h2 => (hgr.block q (Nat.lt_of_lt_of_le hq HBS.out) (Ne.symm (hlow q hq))).trans (hkk.block q hq h1 h2)⟩)
    have HDN := hD (show ∀ i, i < k + 1 → NoDat 0 from fun i hi => trivial)
    have HYN := hD (show ys ++ [y] = (rdMany (rdNum 2) (k + 1) s1).1 by
     rw [HSN.out]
     show _ = (rdMany (rdNum 2) k s1).1 ++ [((rdNum 2) tk).1]
     rw [← HYV.out, ← HYS.out])
    have HRN := hD (show Ri w5 G g (bad || (rdMany (rdNum 2) (k + 1) s1).2.1) (rdMany (rdNum 2) (k + 1) s1).2.2 by
     rw [HSN.out]
     show Ri w5 G g (bad || ((rdMany (rdNum 2) k s1).2.1 || ((rdNum 2) tk).2.1)) (0, l2)
     rw [← Bool.or_assoc, HB0.out, HB2.out]
     exact HR5.out)
    clear hown' hgw hnil hat hgr hat2 hlow hkk
    go_wp2_with fail
    go_roundw
    case rel => exact ⟨k + 1, A5, c5, ys ++ [y], fun i => if i = k then Bq else B i, by omega, by go_num, rfl, by rw [List.length_append, HYL.out]; rfl, HYN.out, HOS.out, HDN.out, HRN.out, HK5.out⟩
    case measure => simp [intOf]; omega
   ·
    have heb : (e2 != 0) = true := by simpa using he
    go_wp2_with (go_at_call 130; (with_reducible refine (HFA.out).mono ?_); rintro en wf ⟨rfl, rfl⟩)
    go_ret
    have hst := HST.out (by rw [HSN.out]; exact he)
    rw [HSN.out] at hst
    simp only at hst
    refine ⟨none, 0, [], fun _ => (none, 0), rfl, els_nil _ _ _ _, (by intro i hi; simp at hi), fun h0 => ?_, ?_, ?_⟩
    ·
     rw [hst.1] at h0; exact absurd h0 he
    ·
     rw [hst.1, hst.2, ← Bool.or_assoc, HB0.out, HB2.out]; exact HR3.out
    ·
     exact HKR.out.trans (HK2.out.trans (Kr.of_below HB3.out))
  ·
   obtain rfl : k = N := by omega
   have e := HYL.out
   subst e
   go_wp2
   go_ret
   exact ⟨A, c, ys, B, rfl, els_of_own (fun _ _ => rfl) HOW.out, fun _ _ => trivial, fun _ => HYS.out, HRI.out, HKR.out⟩
theorem Tryz.info_rlInt4 : (Tryz.prog.info? 3).map (fun i => (i.zero, i.size, i.bytes)) = some (some (.int .i64 0), 1, 8) := by kernel_rfl
def ItrlInt4 (w : World) (G g : Nat) (bad : Bool) (t : St) (en : Ending) (w' : World) : Prop :=
 ∃ (y : Int) (B : Option Addr × Nat), en = .returned (.int .i64 y) ∧ NoDat 0 ∧ (((rdNum 4) t).2.2.1 = 0 → y = ((rdNum 4) t).1) ∧ Ri w' G g (bad || ((rdNum 4) t).2.1) ((rdNum 4) t).2.2 ∧ Kr G g w w'
def LsrlInt4 (w : World) (G g : Nat) (bad : Bool) (r : List (Int) × Bool × St) (en : Ending) (w' : World) : Prop :=
 ∃ (A : Option Addr) (c : Nat) (ys : List (Int)) (B : Nat → Option Addr × Nat), en = .returned (.slice A ys.length c) ∧ Els w' (fun k => w.heap.size ≤ k ∧ k < w'.heap.size) A ys.length c 1 (fun k => #[.int .i64 (ys.getD k 0)]) ∧ (∀ k, k < ys.length → NoDat 0) ∧
  (r.2.2.1 = 0 → ys = r.1) ∧ Ri w' G g (bad || r.2.1) r.2.2 ∧ Kr G g w w'
set_option maxHeartbeats 2000000 in
theorem rlInt4_any {G g : Nat} {bad : Bool} {s : St} (size : Int) (hsz : size ≤ 2) (fn : Nat) (b0 : Nat) (w : World) (h : Ri w G g bad s) (hE : ∀ (args : Array Value) (X : World), (callFunc fn args).run Tryz.prog X = .ok (.enter fn args) X)
  (HF : ∀ (X : World) (b : Bool) (t : St), Ri X G g b t → Kr G g w X → Calls Tryz.prog fn #[.pointer (some ⟨b0, 0, none⟩)] X (ItrlInt4 X G g b t)) :
  Calls Tryz.prog 136 #[.pointer (some ⟨G, 0, none⟩), .int .i64 size, .func (.func fn) #[] #[.pointer (some ⟨b0, 0, none⟩)]] w (LsrlInt4 w G g bad (rdList size (rdNum 4) s)) := by
 obtain ⟨i0, hi, hz0, hz1, hz2⟩ := info_parts Tryz.info_rlInt4
 have hc := h.c0
 have HN := hD (h.num size)
 have HP := hD HF
 have HG := hD (show g < G ∧ G < w.heap.size from ⟨h.lt, h.gt⟩)
 have hn0 := rNum_nn (size := size) (by omega) s
 have hn1 := rNum_top (size := size) hsz s
 have HL := hD (show rdList size (rdNum 4) s = rdMany (rdNum 4) (rNum size s).1.toNat (rNum size s).2 from rfl)
 rw [HL.out]
 clear h HF HL
 generalize rNum size s = t1 at *
 obtain ⟨n, s1⟩ := t1
 simp only at HN hn0 hn1 ⊢
 obtain ⟨N, rfl⟩ : ∃ N : Nat, n = (N : Int) := ⟨n.toNat, by omega⟩
 rw [Int.toNat_natCast]
 have hN : N ≤ 65535 := by omega
 clear hn0 hn1
 go_enter Tryz.func136, Tryz.ntmps136
 go_wp2_with (go_at_call 39; (with_reducible refine (HN.out).mono ?_); rintro en w1 ⟨rfl, h1, h2⟩; have H1 := hD h1; have H2 := hD h2; clear h1 h2)
 clear HN hc
 go_loopw [7, 15] (fun v t wr => ∃ (k : Nat) (A : Option Addr) (c : Nat) (ys : List (Int)) (B : Nat → Option Addr × Nat), k ≤ N ∧ t = .int .i64 k ∧ v = .slice A k c ∧ ys.length = k ∧ ys = (rdMany (rdNum 4) k s1).1 ∧ wr.ownsRow w.heap.size 3 1 (.slice A k c) k (flatE (fun k => #[.int .i64 (ys.getD k 0)]) k) ∧
  (∀ i, i < k → NoDat 0) ∧ Ri wr G g (bad || (rdMany (rdNum 4) k s1).2.1) (rdMany (rdNum 4) k s1).2.2 ∧ Kr G g w wr) (fun _ t _ => N - (intOf t).toNat)
 case atStart => exact ⟨0, none, 0, [], fun _ => (none, 0), Nat.zero_le _, rfl, rfl, rfl, rfl, World.ownsRow_nil _ _ _ _, (by intro i hi; omega), by rw [show (bad || (rdMany (rdNum 4) 0 s1).2.1) = bad from Bool.or_false _]; exact H1.out, H2.out⟩
 case round =>
  obtain ⟨k, A, c, ys, B, hk, rfl, rfl, hyl, hys, hown, hdat, hri, hkr⟩ := hrel
  have HYL := hD hyl
  have HYS := hD hys
  have HOW := hD hown
  have HD := hD hdat
  have HRI := hD hri
  have HKR := hD hkr
  clear hyl hys hown hdat hri hkr
  by_cases hlt : k < N
  ·
   have HC := hD (HP.out wr _ _ HRI.out HKR.out)
   have HSN := hD (rdMany_snoc (rdNum 4) k s1)
   have HST := hD (fun he => rdMany_stop' (r := (rdNum 4)) (clean_num 4) (k := k + 1) (n := N) (by omega) s1 he)
   generalize hb0 : (bad || (rdMany (rdNum 4) k s1).2.1) = bk at *
   have HB0 := hD hb0
   generalize ht0 : (rdMany (rdNum 4) k s1).2.2 = tk at *
   have HT0 := hD ht0
   clear hb0 ht0
   have hg0 := HG.out.1
   have hzr := HKR.out.size
   have hrl : ∀ q, row A = some q → q < wr.heap.size := fun q hq => (HOW.out.lt q (by rw [row_own]; exact hq)).2
   have HRL := hD hrl
   clear hrl
   have hk0 : (0 : Int) ≤ (k : Int) := by omega
   go_upto_region 5 with ((with_reducible refine (HC.out).mono ?_); rintro en w2 ⟨y, Bq, rfl, hd, hv, h1, h2⟩; have HDQ := hD hd; have HV := hD hv; have HR2 := hD h1; have HK2 := hD h2; clear hd hv h1 h2)
   have HR3 := hD HR2.out
   have HB3 := hD (Below.refl w2.heap.size w2)
   generalize hbq : (bk || ((rdNum 4) tk).2.1) = b2 at *
   have HB2 := hD hbq
   generalize htq : ((rdNum 4) tk).2.2 = t2 at *
   have HT2 := hD htq
   clear hbq htq
   have HFA := hD (HR3.out.fault)
   have hc3 := HR3.out.c0
   obtain ⟨e2, l2⟩ := t2
   simp only at HFA HV
   by_cases he : e2 = 0
   ·
    subst he
    have HYV := hD (HV.out rfl)
    have m1 : k + 1 ≤ maxLen := by simp only [maxLen]; omega
    have m2 : (k + 1) * 8 ≤ 140737488355328 := by omega
    have hb4 : Below w2.heap.size w2 (w2.alloc (.cells #[.int .i64 y] 3)) := HB3.out.alloc HB3.out.size _
    have HB4 := hD hb4
    have HO4 := hD (own_keep HOW.out (w' := w2.alloc (.cells #[.int .i64 y] 3)) fun q hq => by
     have hq2 := HRL.out q (by rw [← row_own A k c]; exact hq)
     have hq3 := (HOW.out.lt q hq).1
     have hq4 := HG.out.2
     rw [HB4.out.block q (by have := HK2.out.size; omega), HK2.out.block q hq2 (by omega) (by omega)])
    have HNW := hD (show ∀ j u, (#[.int .i64 y] : Array Value).toList[j]? = some u → (w2.alloc (.cells #[.int .i64 y] 3)).cell? ((⟨w2.heap.size, 0, none⟩ : Addr).add j) = some u from (src_new w2 (#[.int .i64 y] : Array Value).toList 3).at_ _ rfl)
    have H1C := hD (show ∀ u ∈ (#[.int .i64 y] : Array Value).toList, u.oneCell' = true from by
     intro u hu
     simp only [List.mem_cons, List.not_mem_nil, or_false] at hu
     rcases hu with rfl <;> rfl)
    have HBS := hD (show w.heap.size ≤ (w2.alloc (.cells #[.int .i64 y] 3)).heap.size from Nat.le_trans hzr (Nat.le_trans HK2.out.size hb4.size))
    have HR4 := hD (HR2.out.below hb4)
    clear hb4
    go_wp2_with (first
     | (go_at_call 130; (with_reducible refine (HFA.out).mono ?_); rintro en wf ⟨rfl, rfl⟩)
     | (at_builtin; refine wpList_append_own_at _ rfl _ _ _ rfl w.heap.size 3 i0 _ 1 8 Tryz.underlying38 hi hz0 hz1 hz2 rfl (by decide) (.slice A k c) k _ rfl HO4.out ⟨w2.heap.size, 0, none⟩ 1 1 (#[.int .i64 y] : Array Value).toList rfl rfl HNW.out H1C.out m1 m2 HBS.out ?_; intro v' w5 hown' hgw hnil hat; obtain ⟨A5, c5, rfl⟩ := own_sl hown'))
    have hgr : (w2.alloc (.cells #[.int .i64 y] 3)).grownBy w5 (row A) := by rw [← row_own A k c]; exact hgw
    have hat2 : row A5 = row A ∨ row A5 = some (w2.alloc (.cells #[.int .i64 y] 3)).heap.size := by simpa only [row_own] using hat
    have HGR := hD hgr
    have HAT := hD hat2
    have HOS := hD (own_snoc (y := y) (d := 0) (B := B) (Bq := Bq) (arr := fun y B => #[.int .i64 y]) HYL.out hown')
    have hlow : ∀ q, q < w.heap.size → row A ≠ some q := fun q hq e => by
     have := (HOW.out.lt q (by rw [row_own A k c]; exact e)).1
     omega
    have HR5 := hD (HR4.out.keep (w' := w5) (fun q hq => hgr.block q (by have := HG.out; have := HBS.out; omega) (Ne.symm (hlow q (by have := HG.out; omega)))) (hgr.block G (by have := HG.out; have := HBS.out; omega) (Ne.symm (hlow G HG.out.2))))
    have hkk := HKR.out.trans (HK2.out.trans (Kr.of_below HB4.out))
    have HK5 := hD (show Kr G g w w5 from ⟨hgr.os.trans hkk.os, hgr.tape.trans hkk.tape, hgr.output.trans hkk.output, Nat.le_trans hkk.size hgr.size, fun q hq h1 h2 => (hgr.block q (Nat.lt_of_lt_of_le hq HBS.out) (Ne.symm (hlow q hq))).trans (hkk.block q hq h1 h2)⟩)
    have HDN := hD (show ∀ i, i < k + 1 → NoDat 0 from fun i hi => trivial)
    have HYN := hD (show ys ++ [y] = (rdMany (rdNum 4) (k + 1) s1).1 by
     rw [HSN.out]
     show _ = (rdMany (rdNum 4) k s1).1 ++ [((rdNum 4) tk).1]
     rw [← HYV.out, ← HYS.out])
    have HRN := hD (show Ri w5 G g (bad || (rdMany (rdNum 4) (k + 1) s1).2.1) (rdMany (rdNum 4) (k + 1) s1).2.2 by
     rw [HSN.out]
     show Ri w5 G g (bad || ((rdMany (rdNum 4) k s1).2.1 || ((rdNum 4) tk).2.1)) (0, l2)
     rw [← Bool.or_assoc, HB0.out, HB2.out]
     exact HR5.out)
    clear hown' hgw hnil hat hgr hat2 hlow hkk
    go_wp2_with fail
    go_roundw
    case rel => exact ⟨k + 1, A5, c5, ys ++ [y], fun i => if i = k then Bq else B i, by omega, by go_num, rfl, by rw [List.length_append, HYL.out]; rfl, HYN.out, HOS.out, HDN.out, HRN.out, HK5.out⟩
    case measure => simp [intOf]; omega
   ·
    have heb : (e2 != 0) = true := by simpa using he
    go_wp2_with (go_at_call 130; (with_reducible refine (HFA.out).mono ?_); rintro en wf ⟨rfl, rfl⟩)
    go_ret
    have hst := HST.out (by rw [HSN.out]; exact he)
    rw [HSN.out] at hst
    simp only at hst
    refine ⟨none, 0, [], fun _ => (none, 0), rfl, els_nil _ _ _ _, (by intro i hi; simp at hi), fun h0 => ?_, ?_, ?_⟩
    ·
     rw [hst.1] at h0; exact absurd h0 he
    ·
     rw [hst.1, hst.2, ← Bool.or_assoc, HB0.out, HB2.out]; exact HR3.out
    ·
     exact HKR.out.trans (HK2.out.trans (Kr.of_below HB3.out))
  ·
   obtain rfl : k = N := by omega
   have e := HYL.out
   subst e
   go_wp2
   go_ret
   exact ⟨A, c, ys, B, rfl, els_of_own (fun _ _ => rfl) HOW.out, fun _ _ => trivial, fun _ => HYS.out, HRI.out, HKR.out⟩
end Go.Proofs.YtfljignkjmabpaaGreat
