/- A part of the proof. -/
import Derived.Test.YtfljignkjmabpaaGreatZRD
set_option linter.unusedSimpArgs false
set_option linter.unusedVariables false
namespace Go.Proofs.YtfljignkjmabpaaGreat
set_option maxRecDepth 100000
open Go.RowKit
theorem src_of_els {α : Type} {w : World} {P : Nat → Prop} {A : Option Addr} {c : Nat} {ys : List α} {d : α} {f : α → Value} (h : Els w P A ys.length c 1 (fun k => #[f (ys.getD k d)])) : Src w P A ys.length c (ys.map f) := by
 refine ⟨by simp, h.nil, h.cap, h.blk, fun ad hA j u hu => ?_⟩
 have hj : j < ys.length := by have := (List.getElem?_eq_some_iff.1 hu).1; simpa using this
 have := h.at_ ad hA j hj 0 u (by rw [← hu]; simp [List.getD_eq_getElem?_getD, hj])
 simpa using this
theorem Els.up {w : World} {A : Option Addr} {n c sz B B' m : Nat} {E : Nat → Array Value} (h : Els w (fun k => B ≤ k ∧ k < m) A n c sz E) (hB : B' ≤ B) : Els w (fun k => B' ≤ k ∧ k < m) A n c sz E := h.weak fun _ hk => ⟨by omega, hk.2⟩
theorem Kr.from {G g : Nat} {w w1 w' : World} (hb : Below w.heap.size w w1) (hk : Kr G g w1 w') : Kr G g w w' := (Kr.of_below hb).trans hk
set_option maxHeartbeats 400000 in
theorem rtexts_any {G g : Nat} {bad : Bool} {s : St} (w : World) (h : Ri w G g bad s) : Calls Tryz.prog 44 #[.pointer (some ⟨G, 0, none⟩)] w (LsrlStr w G g bad (rdTx s)) := by
 have hc := h.c0
 have HC := hD (rlStr_any 1 (by decide) 38 w h (fun _ _ => by go_simp) (fun X b t hX _ => hX.text.mono fun en X' k => ⟨(rdText t).1, (none, 0), k.1, trivial, fun _ => rfl, by rw [show (b || (rdText t).2.1) = b from Bool.or_false b]; exact k.2.1, k.2.2⟩))
 clear h
 go_enter Tryz.func44, Tryz.ntmps44
 go_wp2_with (go_at_call 131; (with_reducible refine (HC.out).mono ?_); rintro en w1 ⟨A, c, ys, B, rfl, h1, h2, h3, h4, h5⟩; have H1 := hD h1; have H3 := hD h3; have H4 := hD h4; have H5 := hD h5; clear h1 h2 h3 h4 h5)
 go_ret
 exact ⟨A, c, ys, B, rfl, H1.out, fun _ _ => trivial, H3.out, H4.out, H5.out⟩
def ItNums (r : List Int × Bool × St) (w : World) (G g : Nat) (bad : Bool) (en : Ending) (w' : World) : Prop :=
 ∃ (y : List Int) (B : Option Addr × Nat), en = .returned (.slice B.1 y.length B.2) ∧ Src w' (fun k => w.heap.size ≤ k ∧ k < w'.heap.size) B.1 y.length B.2 (ints y) ∧ (r.2.2.1 = 0 → y = r.1) ∧ Ri w' G g (bad || r.2.1) r.2.2 ∧ Kr G g w w'
set_option maxHeartbeats 400000 in
theorem rbucket_any {G g : Nat} {bad : Bool} {s : St} (w : World) (h : Ri w G g bad s) : Calls Tryz.prog 134 #[.pointer (some ⟨G, 0, none⟩)] w (ItrlRow w G g bad s) := by
 have hbx : Below w.heap.size w (w.alloc (.cells #[.pointer (some ⟨G, 0, none⟩)] 62)) := (Below.refl _ _).alloc (Nat.le_refl _) _
 have hB := Bx.new w #[.pointer (some ⟨G, 0, none⟩)] 62
 have hgt := h.gt
 have hlt := h.lt
 have HC := hD (rlInt2_any 2 (by decide) 187 w.heap.size _ (h.below hbx) (fun _ _ => by go_simp) (fun X b t hX hk => (rnum1_any X hX ((hk.bx hB (by omega) (by omega)).c 0)).2.mono fun en X' k => ⟨(rdNum 2 t).1, (none, 0), k.1, trivial, fun _ => rfl, by rw [show (b || (rdNum 2 t).2.1) = b from Bool.or_false b]; exact k.2.1, k.2.2⟩))
 have HB := hD hbx
 have hc := hB.c 0
 simp only [List.getElem?_toArray, List.getElem?_cons_zero] at hc
 clear h hB hbx
 go_enter Tryz.func134, Tryz.ntmps134
 go_upto_region 1 with (fail)
 change Code.wp _ _ _ _ (w.alloc (.cells #[.pointer (some ⟨G, 0, none⟩)] 62))
 generalize w.alloc (.cells #[.pointer (some ⟨G, 0, none⟩)] 62) = w0 at *
 go_wp2_with (go_at_call 136; (with_reducible refine (HC.out).mono ?_); rintro en w1 ⟨A, c, ys, B, rfl, h1, h2, h3, h4, h5⟩; have H1 := hD h1; have H3 := hD h3; have H4 := hD h4; have H5 := hD h5; clear h1 h2 h3 h4 h5)
 go_ret
 exact ⟨ys, (A, c), rfl, src_of_els (f := Value.int .i64) (d := 0) (H1.out.up HB.out.size), H3.out, H4.out, Kr.from HB.out H5.out⟩
set_option maxHeartbeats 400000 in
theorem rruns_any {G g : Nat} {bad : Bool} {s : St} (w : World) (h : Ri w G g bad s) : Calls Tryz.prog 52 #[.pointer (some ⟨G, 0, none⟩)] w (ItNums (rdRuns s) w G g bad) := by
 have hbx : Below w.heap.size w (w.alloc (.cells #[.pointer (some ⟨G, 0, none⟩)] 62)) := (Below.refl _ _).alloc (Nat.le_refl _) _
 have hB := Bx.new w #[.pointer (some ⟨G, 0, none⟩)] 62
 have hgt := h.gt
 have hlt := h.lt
 have HC := hD (rlInt4_any 1 (by decide) 137 w.heap.size _ (h.below hbx) (fun _ _ => by go_simp) (fun X b t hX hk => (rnum1_any X hX ((hk.bx hB (by omega) (by omega)).c 0)).1.mono fun en X' k => ⟨(rdNum 4 t).1, (none, 0), k.1, trivial, fun _ => rfl, by rw [show (b || (rdNum 4 t).2.1) = b from Bool.or_false b]; exact k.2.1, k.2.2⟩))
 have HB := hD hbx
 have hc := hB.c 0
 simp only [List.getElem?_toArray, List.getElem?_cons_zero] at hc
 clear h hB hbx
 go_enter Tryz.func52, Tryz.ntmps52
 go_upto_region 1 with (fail)
 change Code.wp _ _ _ _ (w.alloc (.cells #[.pointer (some ⟨G, 0, none⟩)] 62))
 generalize w.alloc (.cells #[.pointer (some ⟨G, 0, none⟩)] 62) = w0 at *
 go_wp2_with (go_at_call 136; (with_reducible refine (HC.out).mono ?_); rintro en w1 ⟨A, c, ys, B, rfl, h1, h2, h3, h4, h5⟩; have H1 := hD h1; have H3 := hD h3; have H4 := hD h4; have H5 := hD h5; clear h1 h2 h3 h4 h5)
 go_ret
 exact ⟨ys, (A, c), rfl, src_of_els (f := Value.int .i64) (d := 0) (H1.out.up HB.out.size), H3.out, H4.out, Kr.from HB.out H5.out⟩
end Go.Proofs.YtfljignkjmabpaaGreat
namespace Go.Proofs.YtfljignkjmabpaaGreat
set_option maxRecDepth 100000
open Go.RowKit
theorem Tryz.info_rneed : (Tryz.prog.info? 98).map (·.size) = some 2 := by kernel_rfl
theorem Tryz.info_rfilter : (Tryz.prog.info? 33).map (·.size) = some 2 := by kernel_rfl
theorem Tryz.info_rtable : (Tryz.prog.info? 35).map (·.size) = some 3 := by kernel_rfl
theorem Src.row {X : World} {gr B n c : Nat} {A : Option Addr} {xs : List Value} (h : Src X (fun k => B ≤ k ∧ k < X.heap.size) A n c xs) (hb : gr < B) (cs : Array Value) : Src (X.setRow gr cs) (fun k => gr ≤ k ∧ k < (X.setRow gr cs).heap.size) A n c xs := by
 refine (h.keep fun k hk _ => setRow_other X gr k cs (by omega)).weak fun k hk => ?_
 rw [setRow_size]
 omega
theorem pair_text {β : Type} (m : St → Str × St) (r2 : St → β × Bool × St) (s : St) : rdPair (fun s => ((m s).1, false, (m s).2)) r2 s = (((m s).1, (r2 (m s).2).1), (r2 (m s).2).2.1, (r2 (m s).2).2.2) := by
 unfold rdPair
 simp only [Bool.false_or]
theorem nd_of {x : (Str × List Str) × Bool × St} {a : Str} {b : List Str} {c : Bool} {d : St} (h : x = ((a, b), c, d)) : (mkNd x.1, x.2) = (⟨a, b⟩, c, d) := by
 subst h
 rfl
theorem rdNd_eq (s : St) : rdNd s = (⟨(rMeas 2 4096 s).1, (rdTx (rMeas 2 4096 s).2).1⟩, (rdTx (rMeas 2 4096 s).2).2.1, (rdTx (rMeas 2 4096 s).2).2.2) := by
 have e : rdPair rdText rdTx s = (((rMeas 2 4096 s).1, (rdTx (rMeas 2 4096 s).2).1), (rdTx (rMeas 2 4096 s).2).2.1, (rdTx (rMeas 2 4096 s).2).2.2) := pair_text (rMeas 2 4096) rdTx s
 exact nd_of e
theorem it_need {w w' : World} {G g : Nat} {bad : Bool} {s : St} {en : Ending} {r : Nd × Bool × St} (hr : rdNd s = r) (y : Nd) (B : Option Addr × Nat) (h1 : en = .returned (.agg (ndA y B))) (h2 : Src w' (fun k => w.heap.size ≤ k ∧ k < w'.heap.size) B.1 y.vers.length B.2 (strs y.vers)) (h3 : r.2.2.1 = 0 → y = r.1) (h4 : Ri w' G g (bad || r.2.1) r.2.2) (h5 : Kr G g w w') : ItrlNeed w G g bad s en w' := by
 subst hr
 exact ⟨y, B, h1, h2, h3, h4, h5⟩
set_option maxHeartbeats 1000000 in
theorem rneed_any {G g : Nat} {bad : Bool} {s : St} (w : World) (h : Ri w G g bad s) : Calls Tryz.prog 43 #[.pointer (some ⟨G, 0, none⟩)] w (ItrlNeed w G g bad s) := by
 have HE := hD (rdNd_eq s)
 have hbx : Below w.heap.size w (w.alloc (.cells #[.string ⟨#[]⟩, .slice none 0 0] 98)) := (Below.refl _ _).alloc (Nat.le_refl _) _
 have HX0 := hD (Bx.new w #[.string ⟨#[]⟩, .slice none 0 0] 98)
 have HR0 := hD (h.below hbx)
 have HK0 := hD (show Kr G g w (w.alloc (.cells #[.string ⟨#[]⟩, .slice none 0 0] 98)) from Kr.of_below hbx)
 have HG := hD (show g < G ∧ G < w.heap.size from ⟨h.lt, h.gt⟩)
 clear h hbx
 have hc := HR0.out.c0
 have HT := hD HR0.out.text
 go_enter Tryz.func43, Tryz.ntmps43
 go_upto_region 1 with (fail)
 change Code.wp _ _ _ _ (w.alloc (.cells #[.string ⟨#[]⟩, .slice none 0 0] 98))
 generalize w.alloc (.cells #[.string ⟨#[]⟩, .slice none 0 0] 98) = w0 at *
 generalize hgr : w.heap.size = gr at *
 go_wp2_with (first
  | (go_at_call 38; (with_reducible refine (HT.out).mono ?_); rintro en w1 ⟨rfl, h1, h2⟩; have HR1 := hD h1; have HK1 := hD h2; have HX1 := hD (h2.bx HX0.out (by have := HG.out; omega) (by have := HG.out; omega)); have HT2 := hD (rtexts_any _ h1); clear h1 h2)
  | (go_at_call 44; (with_reducible refine (HT2.out).mono ?_); rintro en w2 ⟨A, c, ys, B, rfl, h1, h2, h3, h4, h5⟩; have H1 := hD h1; have H3 := hD h3; have H4 := hD h4; have H5 := hD h5; have HX2 := hD (h5.bx HX1.out (by have := HG.out; omega) (by have := HG.out; omega)); clear h1 h2 h3 h4 h5)
  | (refine wpList_store_row rfl 98 (.tmp 2) (.tmp 10) rfl gr #[str (rMeas 2 4096 s).1, .slice A ys.length c] rfl rfl 98 #[.string ⟨#[]⟩, .slice none 0 0] HX2.out Tryz.info_rneed rfl (by simp [Value.oneCell']) ?_))
 have hBZ := setRow_heap w2 gr _ #[str (rMeas 2 4096 s).1, .slice A ys.length c] 98 (0, 0) HX2.out
 have hBZ : Bx (w2.setRow gr #[str (rMeas 2 4096 s).1, .slice A ys.length c]) gr #[str (rMeas 2 4096 s).1, .slice A ys.length c] 98 := hBZ
 have e0 := hBZ.c 0
 have e1 := hBZ.c 1
 simp only [gA, gB, gC] at e0 e1
 have hlt : gr < w1.heap.size := HX1.out.lt
 have HRZ := hD (H4.out.row (gr := gr) (by have := HG.out; omega) #[str (rMeas 2 4096 s).1, .slice A ys.length c])
 have HKZ := hD (Kr.row (gr := gr) ((HK0.out.trans HK1.out).trans H5.out) (by omega) #[str (rMeas 2 4096 s).1, .slice A ys.length c])
 have HDZ := hD ((src_of_els (f := fun l : Str => .string ⟨l.toArray⟩) (d := []) H1.out).row hlt #[str (rMeas 2 4096 s).1, .slice A ys.length c])
 clear hBZ
 refine bodyPost_ret (v := .agg #[str (rMeas 2 4096 s).1, .slice A ys.length c]) (by simp [results, Tryz.results43, go_sem, e0, e1]) rfl ?_
 generalize hT : rdTx (rMeas 2 4096 s).2 = tx at *
 obtain ⟨ys', b', s'⟩ := tx
 have h3 := H3.out
 have h4 := HRZ.out
 simp only at h3 h4
 exact it_need HE.out ⟨(rMeas 2 4096 s).1, ys⟩ (A, c) rfl (by rw [hgr]; exact HDZ.out) (fun h0 => by rw [h3 h0]) h4 HKZ.out
def ItFil (n : Int) (r : List UInt64 × Bool × St) (w : World) (G g : Nat) (bad : Bool) (en : Ending) (w' : World) : Prop :=
 ∃ (ws : List UInt64) (B : Option Addr × Nat), en = .returned (.agg #[.slice B.1 ws.length B.2, .int .i64 n]) ∧ Src w' (fun k => w.heap.size ≤ k ∧ k < w'.heap.size) B.1 ws.length B.2 (Siv.wds ws) ∧ (r.2.2.1 = 0 → ws = r.1) ∧ Ri w' G g (bad || r.2.1) r.2.2 ∧ Kr G g w w'
theorem it_word {X X' : World} {G g : Nat} {b : Bool} {t : St} {en : Ending} (k : Rb X G g b (rdWd t).2.2 (Siv.u64v (rdWd t).1) en X') : ItrlWord X G g b t en X' := by
 have e : (rdWd t).2.1 = false := rfl
 exact ⟨(rdWd t).1, (none, 0), k.1, trivial, fun _ => rfl, by rw [e, Bool.or_false]; exact k.2.1, k.2.2⟩
set_option maxHeartbeats 1000000 in
theorem rfilter_any {G g : Nat} {bad : Bool} {s : St} (w : World) (h : Ri w G g bad s) : Calls Tryz.prog 135 #[.pointer (some ⟨G, 0, none⟩)] w (ItFil (rNum 1 s).1 (rdList 1 rdWd (rNum 1 s).2) w G g bad) := by
 have hbx : Below w.heap.size w (w.alloc (.cells #[.slice none 0 0, .int .i64 0] 33)) := (Below.refl _ _).alloc (Nat.le_refl _) _
 have HX0 := hD (Bx.new w #[.slice none 0 0, .int .i64 0] 33)
 have HR0 := hD (h.below hbx)
 have HK0 := hD (show Kr G g w (w.alloc (.cells #[.slice none 0 0, .int .i64 0] 33)) from Kr.of_below hbx)
 have HG := hD (show g < G ∧ G < w.heap.size from ⟨h.lt, h.gt⟩)
 clear h hbx
 have hc := HR0.out.c0
 have HT := hD (HR0.out.num 1)
 generalize rNum 1 s = t1 at *
 obtain ⟨n, s1⟩ := t1
 simp only at HT ⊢
 go_enter Tryz.func135, Tryz.ntmps135
 go_upto_region 1 with (fail)
 change Code.wp _ _ _ _ (w.alloc (.cells #[.slice none 0 0, .int .i64 0] 33))
 generalize w.alloc (.cells #[.slice none 0 0, .int .i64 0] 33) = w0 at *
 generalize hgr : w.heap.size = gr at *
 go_wp2_with (first
  | (go_at_call 39; (with_reducible refine (HT.out).mono ?_); rintro en w1 ⟨rfl, h1, h2⟩; have HR1 := hD h1; have HK1 := hD h2; have HX1 := hD (h2.bx HX0.out (by have := HG.out; omega) (by have := HG.out; omega)); have HT2 := hD (rlWord_any 1 (by decide) 189 _ h1 (fun _ _ => by go_simp) (fun X b t hX _ => (rword_any X hX).mono fun en X' k => it_word k)); clear h1 h2)
  | (go_at_call 188; (with_reducible refine (HT2.out).mono ?_); rintro en w2 ⟨A, c, ys, B, rfl, h1, h2, h3, h4, h5⟩; have H1 := hD h1; have H3 := hD h3; have H4 := hD h4; have H5 := hD h5; have HX2 := hD (h5.bx HX1.out (by have := HG.out; omega) (by have := HG.out; omega)); clear h1 h2 h3 h4 h5)
  | (refine wpList_store_row rfl 33 (.tmp 2) (.tmp 12) rfl gr #[.slice A ys.length c, .int .i64 n] rfl rfl 33 #[.slice none 0 0, .int .i64 0] HX2.out Tryz.info_rfilter rfl (by simp [Value.oneCell']) ?_))
 have hBZ : Bx (w2.setRow gr #[.slice A ys.length c, .int .i64 n]) gr #[.slice A ys.length c, .int .i64 n] 33 := setRow_heap w2 gr _ #[.slice A ys.length c, .int .i64 n] 33 (0, 0) HX2.out
 have e0 := hBZ.c 0
 have e1 := hBZ.c 1
 simp only [gA, gB, gC] at e0 e1
 have hlt : gr < w1.heap.size := HX1.out.lt
 have HRZ := hD (H4.out.row (gr := gr) (by have := HG.out; omega) #[.slice A ys.length c, .int .i64 n])
 have HKZ := hD (Kr.row (gr := gr) ((HK0.out.trans HK1.out).trans H5.out) (by omega) #[.slice A ys.length c, .int .i64 n])
 have HDZ := hD ((src_of_els (f := Siv.u64v) (d := 0) H1.out).row hlt #[.slice A ys.length c, .int .i64 n])
 clear hBZ
 refine bodyPost_ret (v := .agg #[.slice A ys.length c, .int .i64 n]) (by simp [results, Tryz.results135, go_sem, e0, e1]) rfl ?_
 exact ⟨ys, (A, c), rfl, by rw [hgr]; exact HDZ.out, H3.out, HRZ.out, HKZ.out⟩
theorem Els.kr {w w' : World} {G g B B' n c sz : Nat} {A : Option Addr} {E : Nat → Array Value} (h : Els w (fun k => B ≤ k ∧ k < w.heap.size) A n c sz E) (hk : Kr G g w w') (h1 : g < B) (h2 : G < B) (hB : B' ≤ B) : Els w' (fun k => B' ≤ k ∧ k < w'.heap.size) A n c sz E :=
 (h.keep fun k hk' hl => hk.block k hl (by omega) (by omega)).weak fun k hk' => by have := hk.size; omega
theorem Src.kr2 {w w' : World} {G g B B' n c : Nat} {A : Option Addr} {xs : List Value} (h : Src w (fun k => B ≤ k ∧ k < w.heap.size) A n c xs) (hk : Kr G g w w') (h1 : g < B) (h2 : G < B) (hB : B' ≤ B) : Src w' (fun k => B' ≤ k ∧ k < w'.heap.size) A n c xs :=
 (h.keep fun k hk' hl => hk.block k hl (by omega) (by omega)).weak fun k hk' => by have := hk.size; omega
theorem Els.row {X : World} {gr B n c sz : Nat} {A : Option Addr} {E : Nat → Array Value} (h : Els X (fun k => B ≤ k ∧ k < X.heap.size) A n c sz E) (hb : gr < B) (cs : Array Value) : Els (X.setRow gr cs) (fun k => gr ≤ k ∧ k < (X.setRow gr cs).heap.size) A n c sz E := by
 refine (h.keep fun k hk _ => setRow_other X gr k cs (by omega)).weak fun k hk => ?_
 rw [setRow_size]
 omega
theorem rws_of_els {w : World} {P : Nat → Prop} {A : Option Addr} {c : Nat} {ys : List (List Int)} {B : Nat → Option Addr × Nat} (h : Els w P A ys.length c 1 (fun k => #[.slice (B k).1 (ys.getD k []).length (B k).2])) (hd : ∀ k, k < ys.length → Src w P (B k).1 (ys.getD k []).length (B k).2 (ints (ys.getD k []))) : Rws w P A ys.length c (rowF ys) := by
 refine ⟨h.nil, h.cap, h.blk, fun ad hA k hk => ⟨(B k).1, (B k).2, ?_, hd k hk⟩⟩
 have := h.at_ ad hA k hk 0 _ rfl
 simp only [Nat.mul_one, Nat.add_zero] at this
 exact this
def ItTab (r1 : List (List Int) × Bool × St) (n : Int) (r2 : List UInt64 × Bool × St) (w : World) (G g : Nat) (bad : Bool) (en : Ending) (w' : World) : Prop :=
 ∃ (rows : List (List Int)) (ws : List UInt64) (A : Option Addr) (c : Nat) (Af : Option Addr) (cf : Nat), en = .returned (.agg (tabA A rows.length c Af ws.length cf n)) ∧ TabV w' (fun k => w.heap.size ≤ k ∧ k < w'.heap.size) A rows.length c Af cf (rowF rows) ws ∧
  (r1.2.2.1 = 0 → rows = r1.1) ∧ (r2.2.2.1 = 0 → ws = r2.1) ∧ Ri w' G g ((bad || r1.2.1) || r2.2.1) r2.2.2 ∧ Kr G g w w'
set_option maxHeartbeats 1000000 in
theorem rtable_any {G g : Nat} {bad : Bool} {s : St} (w : World) (h : Ri w G g bad s) : Calls Tryz.prog 47 #[.pointer (some ⟨G, 0, none⟩)] w (ItTab (rdList 2 rdRow s) (rNum 1 (rdList 2 rdRow s).2.2).1 (rdList 1 rdWd (rNum 1 (rdList 2 rdRow s).2.2).2) w G g bad) := by
 have hbx : Below w.heap.size w (w.alloc (.cells #[.slice none 0 0, .slice none 0 0, .int .i64 0] 35)) := (Below.refl _ _).alloc (Nat.le_refl _) _
 have HX0 := hD (Bx.new w #[.slice none 0 0, .slice none 0 0, .int .i64 0] 35)
 have HR0 := hD (h.below hbx)
 have HK0 := hD (show Kr G g w (w.alloc (.cells #[.slice none 0 0, .slice none 0 0, .int .i64 0] 35)) from Kr.of_below hbx)
 have HG := hD (show g < G ∧ G < w.heap.size from ⟨h.lt, h.gt⟩)
 clear h hbx
 have hc := HR0.out.c0
 have HT := hD (rlRow_any 2 (by decide) 134 _ HR0.out (fun _ _ => by go_simp) (fun X b t hX _ => rbucket_any X hX))
 generalize rdList 2 rdRow s = r1 at *
 obtain ⟨rw1, b1, s1⟩ := r1
 simp only
 go_enter Tryz.func47, Tryz.ntmps47
 go_upto_region 1 with (fail)
 change Code.wp _ _ _ _ (w.alloc (.cells #[.slice none 0 0, .slice none 0 0, .int .i64 0] 35))
 generalize w.alloc (.cells #[.slice none 0 0, .slice none 0 0, .int .i64 0] 35) = w0 at *
 generalize hgr : w.heap.size = gr at *
 go_wp2_with (first
  | (go_at_call 133; (with_reducible refine (HT.out).mono ?_); rintro en w1 ⟨A, c, ys, B, rfl, h1, h2, h3, h4, h5⟩; have H1 := hD h1; have H2 := hD h2; have H3 := hD h3; have H5 := hD h5; have HX1 := hD (h5.bx HX0.out (by have := HG.out; omega) (by have := HG.out; omega)); have HT2 := hD (rfilter_any _ h4); clear h1 h2 h3 h4 h5)
  | (go_at_call 135; (with_reducible refine (HT2.out).mono ?_); rintro en w2 ⟨ws, Bf, rfl, h2, h3, h4, h5⟩; have F2 := hD h2; have F3 := hD h3; have F4 := hD h4; have F5 := hD h5; have HX2 := hD (h5.bx HX1.out (by have := HG.out; omega) (by have := HG.out; omega)); clear h2 h3 h4 h5)
  | (refine wpList_store_row rfl 35 (.tmp 2) (.tmp 9) rfl gr (tabA A ys.length c Bf.1 ws.length Bf.2 (rNum 1 s1).1) rfl rfl 35 #[.slice none 0 0, .slice none 0 0, .int .i64 0] HX2.out Tryz.info_rtable rfl (by simp [Value.oneCell']) ?_))
 have hBZ : Bx (w2.setRow gr (tabA A ys.length c Bf.1 ws.length Bf.2 (rNum 1 s1).1)) gr (tabA A ys.length c Bf.1 ws.length Bf.2 (rNum 1 s1).1) 35 := setRow_heap w2 gr _ _ 35 (0, 0) HX2.out
 have e0 := hBZ.c 0
 have e1 := hBZ.c 1
 have e2 := hBZ.c 2
 simp only [gA, gB, gC] at e0 e1 e2
 have hlt0 : gr < w0.heap.size := HX0.out.lt
 have hlt : gr < w1.heap.size := HX1.out.lt
 have HRZ := hD (F4.out.row (gr := gr) (by have := HG.out; omega) (tabA A ys.length c Bf.1 ws.length Bf.2 (rNum 1 s1).1))
 have HKZ := hD (Kr.row (gr := gr) ((HK0.out.trans H5.out).trans F5.out) (by omega) (tabA A ys.length c Bf.1 ws.length Bf.2 (rNum 1 s1).1))
 have HDZ := hD (show TabV (w2.setRow gr (tabA A ys.length c Bf.1 ws.length Bf.2 (rNum 1 s1).1)) (fun k => gr ≤ k ∧ k < (w2.setRow gr (tabA A ys.length c Bf.1 ws.length Bf.2 (rNum 1 s1).1)).heap.size) A ys.length c Bf.1 Bf.2 (rowF ys) ws from
  ⟨rws_of_els ((H1.out.kr (B' := w0.heap.size) F5.out (by have := HG.out; omega) (by have := HG.out; omega) (Nat.le_refl _)).row hlt0 _) (fun k hk => ((H2.out k hk).kr2 (B' := w0.heap.size) F5.out (by have := HG.out; omega) (by have := HG.out; omega) (Nat.le_refl _)).row hlt0 _), F2.out.row hlt _⟩)
 clear hBZ
 refine bodyPost_ret (v := .agg (tabA A ys.length c Bf.1 ws.length Bf.2 (rNum 1 s1).1)) (by simp [results, Tryz.results47, go_sem, e0, e1, e2]) rfl ?_
 exact ⟨ys, ws, A, c, Bf.1, Bf.2, rfl, by rw [hgr]; exact HDZ.out, H3.out, F3.out, HRZ.out, HKZ.out⟩
end Go.Proofs.YtfljignkjmabpaaGreat
namespace Go.Proofs.YtfljignkjmabpaaGreat
set_option maxRecDepth 100000
open Go.RowKit
structure Steps (s : St) (q0 : Unit × Bool × St) (q1 : Str × St) (q2 : Int × St) (q3 : List Sg × Bool × St) (q4 : List Nd × Bool × St) (q5 : List Str × Bool × St) (q6 : List Sym × Bool × St) (q7 : List (List Int) × Bool × St) (q8 : Int × St) (q9 : List UInt64 × Bool × St)
  (q10 : List Rl × Bool × St) (q11 : List Sl × Bool × St) (q12 q13 : List Int × Bool × St) (q14 : Int × St) (q15 : Str × St) : Prop where
 h0 : rdMark s = q0
 h1 : rMeas 2 4096 q0.2.2 = q1
 h2 : rNum 1 q1.2 = q2
 h3 : rdList 1 rdSg q2.2 = q3
 h4 : rdList 1 rdNd q3.2.2 = q4
 h5 : rdTx q4.2.2 = q5
 h6 : rdList 2 rdSym q5.2.2 = q6
 h7 : rdList 2 rdRow q6.2.2 = q7
 h8 : rNum 1 q7.2.2 = q8
 h9 : rdList 1 rdWd q8.2 = q9
 h10 : rdList 2 rdRl q9.2.2 = q10
 h11 : rdList 2 rdSl q10.2.2 = q11
 h12 : rdRuns q11.2.2 = q12
 h13 : rdRuns q12.2.2 = q13
 h14 : rNum 2 q13.2.2 = q14
 h15 : rMeas 4 1048576 q14.2 = q15
theorem pair_of {α β : Type} {r1 : St → α × Bool × St} {r2 : St → β × Bool × St} {s : St} {a : α} {b : Bool} {t : St} {c : β} {d : Bool} {u : St} (h1 : r1 s = (a, b, t)) (h2 : r2 t = (c, d, u)) : rdPair r1 r2 s = ((a, c), b || d, u) := by
 unfold rdPair
 rw [h1]
 simp only
 rw [h2]
theorem num_of {size : Int} {s : St} {q : Int × St} (h : rNum size s = q) : rdNum size s = (q.1, false, q.2) := by
 subst h
 rfl
theorem text_of {s : St} {q : Str × St} (h : rMeas 2 4096 s = q) : rdText s = (q.1, false, q.2) := by
 subst h
 rfl
theorem block_of {s : St} {q : Str × St} (h : rMeas 4 1048576 s = q) : rdBlock s = (q.1, false, q.2) := by
 subst h
 rfl
theorem list_of {α : Type} {r : St → α × Bool × St} {s : St} {q : α × Bool × St} (h : r s = q) : r s = (q.1, q.2.1, q.2.2) := h
theorem im_of {x : ImT × Bool × St} {a : ImT} {b : Bool} {t : St} (h : x = (a, b, t)) : (mkIm x.1, x.2) = (mkIm a, b, t) := by
 subst h
 rfl
section
variable {s : St} {q0 : Unit × Bool × St} {q1 : Str × St} {q2 : Int × St} {q3 : List Sg × Bool × St} {q4 : List Nd × Bool × St} {q5 : List Str × Bool × St} {q6 : List Sym × Bool × St} {q7 : List (List Int) × Bool × St} {q8 : Int × St} {q9 : List UInt64 × Bool × St}
  {q10 : List Rl × Bool × St} {q11 : List Sl × Bool × St} {q12 q13 : List Int × Bool × St} {q14 : Int × St} {q15 : Str × St}
theorem Steps.im (h : Steps s q0 q1 q2 q3 q4 q5 q6 q7 q8 q9 q10 q11 q12 q13 q14 q15) :
  rdIm s = (mkIm (q0.1, q1.1, q2.1, q3.1, q4.1, q5.1, q6.1, q7.1, q8.1, q9.1, q10.1, q11.1, q12.1, q13.1, q14.1, q15.1),
   q0.2.1 || (false || (false || (q3.2.1 || (q4.2.1 || (q5.2.1 || (q6.2.1 || (q7.2.1 || (false || (q9.2.1 || (q10.2.1 || (q11.2.1 || (q12.2.1 || (q13.2.1 || (false || false)))))))))))))), q15.2) :=
 im_of (pair_of (list_of h.h0) (pair_of (text_of h.h1) (pair_of (num_of h.h2) (pair_of (list_of h.h3) (pair_of (list_of h.h4) (pair_of (list_of h.h5) (pair_of (list_of h.h6) (pair_of (list_of h.h7) (pair_of (num_of h.h8) (pair_of (list_of h.h9) (pair_of (list_of h.h10) (pair_of (list_of h.h11)
  (pair_of (list_of h.h12) (pair_of (list_of h.h13) (pair_of (num_of h.h14) (block_of h.h15))))))))))))))))
theorem was_rd {α : Type} {r : St → α × Bool × St} (hc : Clean r) {s : St} {q : α × Bool × St} (hq : r s = q) (h : q.2.2.1 = 0) : s.1 = 0 := by
 subst hq
 by_cases hs : s.1 = 0
 ·
  exact hs
 ·
  rw [hc.stick s hs] at h
  exact h
theorem was_num {size : Int} {s : St} {q : Int × St} (hq : rNum size s = q) (h : q.2.1 = 0) : s.1 = 0 := by
 subst hq
 by_cases hs : s.1 = 0
 ·
  exact hs
 ·
  rw [rNum_stick size s hs] at h
  exact h
theorem was_meas {size most : Nat} {s : St} {q : Str × St} (hq : rMeas size most s = q) (h : q.2.1 = 0) : s.1 = 0 := by
 subst hq
 by_cases hs : s.1 = 0
 ·
  exact hs
 ·
  rw [rMeas_stick size most s hs] at h
  exact h
theorem clean_runs : Clean rdRuns := (clean_num 4).list 1
theorem Steps.fine (h : Steps s q0 q1 q2 q3 q4 q5 q6 q7 q8 q9 q10 q11 q12 q13 q14 q15) (h0 : q15.2.1 = 0) :
  q3.2.2.1 = 0 ∧ q4.2.2.1 = 0 ∧ q5.2.2.1 = 0 ∧ q6.2.2.1 = 0 ∧ q7.2.2.1 = 0 ∧ q9.2.2.1 = 0 ∧ q10.2.2.1 = 0 ∧ q11.2.2.1 = 0 ∧ q12.2.2.1 = 0 ∧ q13.2.2.1 = 0 := by
 have z14 := was_meas h.h15 h0
 have z13 := was_num h.h14 z14
 have z12 := was_rd clean_runs h.h13 z13
 have z11 := was_rd clean_runs h.h12 z12
 have z10 := was_rd (clean_sl.list 2) h.h11 z11
 have z9 := was_rd (clean_rl.list 2) h.h10 z10
 have z8 := was_rd (clean_wd.list 1) h.h9 z9
 have z7 := was_num h.h8 z8
 have z6 := was_rd (clean_row.list 2) h.h7 z7
 have z5 := was_rd (clean_sym.list 2) h.h6 z6
 have z4 := was_rd clean_tx h.h5 z5
 have z3 := was_rd (clean_nd.list 1) h.h4 z4
 exact ⟨z3, z4, z5, z6, z7, z9, z10, z11, z12, z13⟩
end
end Go.Proofs.YtfljignkjmabpaaGreat
namespace Go.Proofs.YtfljignkjmabpaaGreat
set_option maxRecDepth 100000
open Go.RowKit
theorem syl_of_els {w : World} {P : Nat → Prop} {A : Option Addr} {c : Nat} {ys : List Sym} (h : Els w P A ys.length c 9 (fun k => symA (ys.getD k noSy))) : Syl w P A ys.length c ys :=
 ⟨rfl, h.nil, h.cap, h.blk, fun ad hA k hk j u hu => h.at_ ad hA k hk j u (by rw [List.getD_eq_getElem?_getD, List.getElem?_eq_getElem hk, Option.getD_some]; exact hu)⟩
theorem TabV.kr {w w' : World} {G g B B' n c cf : Nat} {A Af : Option Addr} {f : Nat → List Int} {L : List UInt64} (h : TabV w (fun k => B ≤ k ∧ k < w.heap.size) A n c Af cf f L) (hk : Kr G g w w') (h1 : g < B) (h2 : G < B) (hB : B' ≤ B) : TabV w' (fun k => B' ≤ k ∧ k < w'.heap.size) A n c Af cf f L :=
 (h.keep fun k hk' hl => hk.block k hl (by omega) (by omega)).weak fun k hk' => by have := hk.size; omega
theorem TabV.row {X : World} {gr B n c cf : Nat} {A Af : Option Addr} {f : Nat → List Int} {L : List UInt64} (h : TabV X (fun k => B ≤ k ∧ k < X.heap.size) A n c Af cf f L) (hb : gr < B) (cs : Array Value) : TabV (X.setRow gr cs) (fun k => gr ≤ k ∧ k < (X.setRow gr cs).heap.size) A n c Af cf f L := by
 refine (h.keep fun k hk _ => setRow_other X gr k cs (by omega)).weak fun k hk => ?_
 rw [setRow_size]
 omega
theorem im_made {w : World} {P : Nat → Prop} {nm tl : Str} {fl sh ts : Int} {y3 : List Sg} {y4 : List Nd} {y5 : List Str} {y6 : List Sym} {y7 : List (List Int)} {y9 : List UInt64} {y10 : List Rl} {y11 : List Sl} {y12 y13 : List Int}
  {A3 A4 A5 A6 A7 A9 A10 A11 A15 : Option Addr} {c3 c4 c5 c6 c7 c9 c10 c11 c15 : Nat} {B3 B4 : Nat → Option Addr × Nat} {B12 B13 : Option Addr × Nat}
  (h3 : Els w P A3 y3.length c3 4 fun k => sgA (y3.getD k noSg) (B3 k)) (d3 : ∀ k, k < y3.length → Src w P (B3 k).1 (y3.getD k noSg).bs.length (B3 k).2 (cells (y3.getD k noSg).bs))
  (h4 : Els w P A4 y4.length c4 2 fun k => ndA (y4.getD k noNd) (B4 k)) (d4 : ∀ k, k < y4.length → Src w P (B4 k).1 (y4.getD k noNd).vers.length (B4 k).2 (strs (y4.getD k noNd).vers))
  (h5 : Src w P A5 y5.length c5 (strs y5)) (h6 : Syl w P A6 y6.length c6 y6) (h7 : TabV w P A7 y7.length c7 A9 c9 (rowF y7) y9)
  (h8 : Els w P A10 y10.length c10 4 fun k => rlA (y10.getD k noRl)) (h9 : Els w P A11 y11.length c11 3 fun k => slA (y11.getD k noSl))
  (h10 : Src w P B12.1 y12.length B12.2 (ints y12)) (h11 : Src w P B13.1 y13.length B13.2 (ints y13)) (h15 : Src w P A15 tl.length c15 (cells tl)) :
  ImIn w P ⟨(A3, c3), (A4, c4), (A5, c5), (A6, c6), (A7, c7), (A9, c9), (A10, c10), (A11, c11), B12, B13, (A15, c15)⟩ ⟨nm, fl, y3, y4, y5, y6, y7, y9, sh, y10, y11, y12, y13, tl, ts⟩ :=
 ⟨⟨rfl, B3, h3, d3⟩, ⟨rfl, B4, h4, d4⟩, h5, h6, h7, ⟨rfl, h8⟩, ⟨rfl, h9⟩, h10, h11, h15⟩
theorem im_row {G g gr : Nat} {w2a w3a w4a w5a w6a w7a w8a w9a w10a w11a w12a w13a : World} {nm tl : Str} {fl sh ts : Int} {y3 : List Sg} {y4 : List Nd} {y5 : List Str} {y6 : List Sym} {y7 : List (List Int)} {y9 : List UInt64} {y10 : List Rl} {y11 : List Sl} {y12 y13 : List Int}
  {A3 A4 A5 A6 A7 A9 A10 A11 A15 : Option Addr} {c3 c4 c5 c6 c7 c9 c10 c11 c15 : Nat} {B3 B4 : Nat → Option Addr × Nat} {B12 B13 : Option Addr × Nat} (hG : g < G ∧ G < gr)
  (l2 : gr < w2a.heap.size) (l3 : gr < w3a.heap.size) (l4 : gr < w4a.heap.size) (l5 : gr < w5a.heap.size) (l6 : gr < w6a.heap.size) (l7 : gr < w7a.heap.size) (l8 : gr < w8a.heap.size) (l9 : gr < w9a.heap.size) (l10 : gr < w10a.heap.size) (l12 : gr < w12a.heap.size)
  (k4 : Kr G g w3a w4a) (k5 : Kr G g w4a w5a) (k6 : Kr G g w5a w6a) (k7 : Kr G g w6a w7a) (k8 : Kr G g w7a w8a) (k9 : Kr G g w8a w9a) (k10 : Kr G g w9a w10a) (k11 : Kr G g w10a w11a) (k12 : Kr G g w11a w12a) (k13 : Kr G g w12a w13a)
  (h3 : Els w3a (fun k => w2a.heap.size ≤ k ∧ k < w3a.heap.size) A3 y3.length c3 4 fun k => sgA (y3.getD k noSg) (B3 k)) (d3 : ∀ k, k < y3.length → Src w3a (fun k => w2a.heap.size ≤ k ∧ k < w3a.heap.size) (B3 k).1 (y3.getD k noSg).bs.length (B3 k).2 (cells (y3.getD k noSg).bs))
  (h4 : Els w4a (fun k => w3a.heap.size ≤ k ∧ k < w4a.heap.size) A4 y4.length c4 2 fun k => ndA (y4.getD k noNd) (B4 k)) (d4 : ∀ k, k < y4.length → Src w4a (fun k => w3a.heap.size ≤ k ∧ k < w4a.heap.size) (B4 k).1 (y4.getD k noNd).vers.length (B4 k).2 (strs (y4.getD k noNd).vers))
  (h5 : Els w5a (fun k => w4a.heap.size ≤ k ∧ k < w5a.heap.size) A5 y5.length c5 1 fun k => #[str (y5.getD k [])])
  (h6 : Els w6a (fun k => w5a.heap.size ≤ k ∧ k < w6a.heap.size) A6 y6.length c6 9 fun k => symA (y6.getD k noSy))
  (h7 : TabV w7a (fun k => w6a.heap.size ≤ k ∧ k < w7a.heap.size) A7 y7.length c7 A9 c9 (rowF y7) y9)
  (h8 : Els w8a (fun k => w7a.heap.size ≤ k ∧ k < w8a.heap.size) A10 y10.length c10 4 fun k => rlA (y10.getD k noRl)) (h9 : Els w9a (fun k => w8a.heap.size ≤ k ∧ k < w9a.heap.size) A11 y11.length c11 3 fun k => slA (y11.getD k noSl))
  (h10 : Src w10a (fun k => w9a.heap.size ≤ k ∧ k < w10a.heap.size) B12.1 y12.length B12.2 (ints y12)) (h11 : Src w11a (fun k => w10a.heap.size ≤ k ∧ k < w11a.heap.size) B13.1 y13.length B13.2 (ints y13))
  (h15 : w13a.ownsRow w12a.heap.size 5 1 (.slice A15 tl.length c15) tl.length (cells tl)) (C : Array Value) :
  ImIn (w13a.setRow gr C) (fun k => gr ≤ k ∧ k < (w13a.setRow gr C).heap.size) ⟨(A3, c3), (A4, c4), (A5, c5), (A6, c6), (A7, c7), (A9, c9), (A10, c10), (A11, c11), B12, B13, (A15, c15)⟩ ⟨nm, fl, y3, y4, y5, y6, y7, y9, sh, y10, y11, y12, y13, tl, ts⟩ := by
 have m12 := k13
 have m11 := k12.trans m12
 have m10 := k11.trans m11
 have m9 := k10.trans m10
 have m8 := k9.trans m9
 have m7 := k8.trans m8
 have m6 := k7.trans m7
 have m5 := k6.trans m6
 have m4 := k5.trans m5
 have m3 := k4.trans m4
 refine im_made ((h3.kr m3 (by omega) (by omega) (Nat.le_refl _)).row l2 C) (fun k hk => ((d3 k hk).kr2 m3 (by omega) (by omega) (Nat.le_refl _)).row l2 C)
  ((h4.kr m4 (by omega) (by omega) (Nat.le_refl _)).row l3 C) (fun k hk => ((d4 k hk).kr2 m4 (by omega) (by omega) (Nat.le_refl _)).row l3 C)
  (src_of_els (f := fun l : Str => .string ⟨l.toArray⟩) (d := []) ((h5.kr m5 (by omega) (by omega) (Nat.le_refl _)).row l4 C))
  (syl_of_els ((h6.kr m6 (by omega) (by omega) (Nat.le_refl _)).row l5 C)) ((h7.kr m7 (by omega) (by omega) (Nat.le_refl _)).row l6 C)
  ((h8.kr m8 (by omega) (by omega) (Nat.le_refl _)).row l7 C) ((h9.kr m9 (by omega) (by omega) (Nat.le_refl _)).row l8 C)
  ((h10.kr2 m10 (by omega) (by omega) (Nat.le_refl _)).row l9 C) ((h11.kr2 m11 (by omega) (by omega) (Nat.le_refl _)).row l10 C) (src_row h15 l12 C)
theorem im_ret {nm tl : Str} {fl sh ts : Int} {y3 : List Sg} {y4 : List Nd} {y5 : List Str} {y6 : List Sym} {y7 : List (List Int)} {y9 : List UInt64} {y10 : List Rl} {y11 : List Sl} {y12 y13 : List Int}
  {A3 A4 A5 A6 A7 A9 A10 A11 A15 : Option Addr} {c3 c4 c5 c6 c7 c9 c10 c11 c15 : Nat} {B12 B13 : Option Addr × Nat} :
  Ending.returned (Value.agg #[str nm, .int .i64 fl, .slice A3 y3.length c3, .slice A4 y4.length c4, .slice A5 y5.length c5, .slice A6 y6.length c6, .slice A7 y7.length c7, .slice A9 y9.length c9, .int .i64 sh, .slice A10 y10.length c10, .slice A11 y11.length c11, .slice B12.1 y12.length B12.2, .slice B13.1 y13.length B13.2, .slice A15 tl.length c15, .int .i64 ts]) = .returned (imV ⟨(A3, c3), (A4, c4), (A5, c5), (A6, c6), (A7, c7), (A9, c9), (A10, c10), (A11, c11), B12, B13, (A15, c15)⟩ ⟨nm, fl, y3, y4, y5, y6, y7, y9, sh, y10, y11, y12, y13, tl, ts⟩) := rfl
end Go.Proofs.YtfljignkjmabpaaGreat
namespace Go.Proofs.YtfljignkjmabpaaGreat
set_option maxRecDepth 100000
open Go.RowKit
def Gv {α : Type} (r : St → α × Bool × St) (Q : α → Prop) : Prop := ∀ s, Q (r s).1
section
variable {α β : Type} {r : St → α × Bool × St} {Q : α → Prop}
theorem Gv.pair {r2 : St → β × Bool × St} {Q2 : β → Prop} (h : Gv r Q) (h2 : Gv r2 Q2) : Gv (rdPair r r2) (fun p => Q p.1 ∧ Q2 p.2) := fun s => ⟨h s, h2 _⟩
theorem Gv.many (h : Gv r Q) : ∀ n s, ∀ x ∈ (rdMany r n s).1, Q x
 | 0, s, x, hx => by cases hx
 | n + 1, s, x, hx => by
  rcases List.mem_cons.1 hx with rfl | hx
  ·
   exact h s
  ·
   exact Gv.many h n _ x hx
theorem Gv.list (h : Gv r Q) {size : Int} (h2 : size ≤ 2) : Gv (rdList size r) (fun l => Long l.length ∧ ∀ x ∈ l, Q x) := fun s => by
 refine ⟨?_, h.many _ _⟩
 unfold rdList
 rw [rdMany_len]
 have := rNum_top h2 s
 unfold Long
 omega
end
theorem meas_most (size most : Nat) (s : St) : (rMeas size most s).1.length ≤ most := by
 unfold rMeas
 split
 ·
  split
  ·
   exact Nat.zero_le _
  ·
   split
   ·
    exact Nat.zero_le _
   ·
    split
    ·
     exact Nat.zero_le _
    ·
     simp
     omega
 ·
  exact Nat.zero_le _
theorem gvNum (size : Int) : Gv (rdNum size) I64 := fun s => rNum_i64 size s
theorem gvText : Gv rdText (fun l : Str => Long l.length) := fun s => by
 have := meas_most 2 4096 s
 show Long (rMeas 2 4096 s).1.length
 unfold Long
 omega
theorem gvBlock : Gv rdBlock (fun l : Str => Long l.length) := fun s => by
 have := meas_most 4 1048576 s
 show Long (rMeas 4 1048576 s).1.length
 unfold Long
 omega
theorem gvTx : Gv rdTx (fun l : List Str => Long l.length ∧ ∀ x ∈ l, Long x.length) := gvText.list (by decide)
theorem gvRuns : Gv rdRuns (fun l : List Int => Long l.length ∧ ∀ x ∈ l, I64 x) := (gvNum 4).list (by decide)
theorem gvRow : Gv rdRow (fun l : List Int => Long l.length ∧ ∀ x ∈ l, I64 x) := (gvNum 2).list (by decide)
theorem Gv.map {α β : Type} {r : St → α × Bool × St} {Q : α → Prop} {Q2 : β → Prop} (f : α → β) (h : Gv r Q) (k : ∀ x, Q x → Q2 (f x)) : Gv (fun s => (f (r s).1, (r s).2)) Q2 := fun s => k _ (h s)
def QSg (x : Sg) : Prop := I64 x.at_ ∧ I64 x.size ∧ I64 x.perm ∧ Long x.bs.length
def QNd (x : Nd) : Prop := Long x.name.length ∧ Long x.vers.length ∧ ∀ v ∈ x.vers, Long v.length
def QRl (x : Rl) : Prop := I64 x.at_ ∧ I64 x.kind ∧ I64 x.sym ∧ I64 x.add
def QSl (x : Sl) : Prop := I64 x.at_ ∧ I64 x.sym ∧ I64 x.stub
def QSym (x : Sym) : Prop := Long x.name.length ∧ Long x.ver.length ∧ I64 x.kind ∧ I64 x.vis ∧ I64 x.val ∧ I64 x.size
theorem gvAny {α : Type} (r : St → α × Bool × St) : Gv r (fun _ => True) := fun _ => trivial
theorem gvSg : Gv rdSg QSg := Gv.map mkSg ((gvNum 4).pair ((gvNum 4).pair ((gvNum 1).pair gvBlock))) (fun x h => h)
theorem gvNd : Gv rdNd QNd := Gv.map mkNd (gvText.pair gvTx) (fun x h => h)
theorem gvRl : Gv rdRl QRl := Gv.map (r := rdRlP) mkRl ((gvNum 1).pair ((gvNum 8).pair ((gvNum 8).pair (gvNum 8)))) (fun x h => ⟨h.2.1, h.1, h.2.2.1, h.2.2.2⟩)
theorem gvSl : Gv rdSl QSl := Gv.map (r := rdSlP) mkSl ((gvNum 4).pair ((gvNum 4).pair (gvNum 4))) (fun x h => h)
theorem gvSym : Gv rdSym QSym := Gv.map (r := rdSymP) mkSym (gvText.pair (gvText.pair ((gvNum 1).pair ((gvNum 1).pair ((gvAny rdBit).pair ((gvAny rdBit).pair ((gvAny rdBit).pair ((gvNum 8).pair (gvNum 8)))))))))
 (fun x h => ⟨h.1, h.2.1, h.2.2.1, h.2.2.2.1, h.2.2.2.2.2.2.2.1, h.2.2.2.2.2.2.2.2⟩)
theorem gvIm : Gv rdIm Fit := Gv.map (r := rdImP) mkIm ((gvAny rdMark).pair (gvText.pair ((gvNum 1).pair ((gvSg.list (size := 1) (by decide)).pair ((gvNd.list (size := 1) (by decide)).pair (gvTx.pair ((gvSym.list (size := 2) (by decide)).pair ((gvRow.list (size := 2) (by decide)).pair ((gvNum 1).pair (((gvAny rdWd).list (size := 1) (by decide)).pair ((gvRl.list (size := 2) (by decide)).pair ((gvSl.list (size := 2) (by decide)).pair (gvRuns.pair (gvRuns.pair ((gvNum 2).pair gvBlock)))))))))))))))
 (fun x h => by
  obtain ⟨x0, x1, x2, x3, x4, x5, x6, x7, x8, x9, x10, x11, x12, x13, x14, x15⟩ := x
  obtain ⟨_, h1, h2, ⟨h3, d3⟩, ⟨h4, d4⟩, ⟨h5, d5⟩, ⟨h6, d6⟩, ⟨h7, d7⟩, h8, ⟨h9, _⟩, ⟨h10, d10⟩, ⟨h11, d11⟩, ⟨h12, d12⟩, ⟨h13, d13⟩, h14, h15⟩ := h
  exact ⟨h1, h2, h3, d3, h4, d4, h5, d5, h6, d6, h7, d7, h9, h8, h10, d10, h11, d11, h12, d12, h13, d13, h15, h14⟩)
def decE (l : Str) : Int := if (rdIm (0, l)).2.1 = true ∨ (rdIm (0, l)).2.2.1 ≠ 0 ∨ (rdIm (0, l)).2.2.2 ≠ [] then 98 else mayE (rdIm (0, l)).1
def decI (l : Str) : Im := (rdIm (0, l)).1
theorem dec_bad {l : Str} (h : (rdIm (0, l)).2.1 = true ∨ (rdIm (0, l)).2.2.1 ≠ 0 ∨ (rdIm (0, l)).2.2.2 ≠ []) : decE l = 98 := by unfold decE; rw [if_pos h]
theorem dec_good {l : Str} (h : ¬ ((rdIm (0, l)).2.1 = true ∨ (rdIm (0, l)).2.2.1 ≠ 0 ∨ (rdIm (0, l)).2.2.2 ≠ [])) : decE l = mayE (decI l) := by unfold decE decI; rw [if_neg h]
theorem dec_fit (l : Str) : Fit (decI l) := gvIm _
theorem dec_ok {l : Str} (h : decE l = 0) : rdIm (0, l) = (decI l, false, (0, [])) ∧ mayE (decI l) = 0 := by
 by_cases hb : (rdIm (0, l)).2.1 = true ∨ (rdIm (0, l)).2.2.1 ≠ 0 ∨ (rdIm (0, l)).2.2.2 ≠ []
 ·
  rw [dec_bad hb] at h
  cases h
 ·
  rw [dec_good hb] at h
  refine ⟨?_, h⟩
  have h1 : (rdIm (0, l)).2.1 = false := Bool.eq_false_iff.2 fun e => hb (.inl e)
  have h2 : (rdIm (0, l)).2.2.1 = 0 := Decidable.byContradiction fun e => hb (.inr (.inl e))
  have h3 : (rdIm (0, l)).2.2.2 = [] := Decidable.byContradiction fun e => hb (.inr (.inr e))
  unfold decI
  generalize rdIm (0, l) = r at *
  obtain ⟨a, b, c, d⟩ := r
  simp only at h1 h2 h3
  rw [h1, h2, h3]
theorem dec_form {x : Im} (h : mayE x = 0) (hf : Fit x) : decI (formL x) = x ∧ decE (formL x) = 0 := by
 obtain ⟨_, h2, _⟩ := form_ok h hf
 have := h2 []
 rw [List.append_nil] at this
 have e : decI (formL x) = x := by unfold decI; rw [this]
 refine ⟨e, ?_⟩
 rw [dec_good (by rw [this]; simp), e]
 exact h
end Go.Proofs.YtfljignkjmabpaaGreat
