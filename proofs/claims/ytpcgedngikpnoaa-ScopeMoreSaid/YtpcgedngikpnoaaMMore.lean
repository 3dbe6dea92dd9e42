/-
  The law ScopeMore, walked (written by mkl.py).
-/
import Derived.Test.YtpcgedngikpnoaaI
import Derived.Test.YtpcgedngikpnoaaP
import Derived.Test.YtpcgedngikpnoaaMSame
namespace Go.Proofs.Ytpcgedngikpnoaa
set_option maxRecDepth 100000
set_option linter.unusedSimpArgs false
set_option linter.unusedVariables false
open Go.RowKit


/-- What is found where none is skipped. -/
def lookN (f : Im → Int) : Nat → List Im → Fd
  | _, [] => (0, 0, false)
  | i, x :: l => if f x = -1 then lookN f (i + 1) l else ((i : Int), f x, true)
theorem look_n {f : Im → Int} {s : Int} : ∀ (l : List Im) (i : Nat), (∀ k : Nat, i ≤ k → ¬ (k : Int) = s) → lookP f s i l = lookN f i l
  | [], _, _ => rfl
  | x :: l, i, h => by
    unfold lookP lookN
    rw [look_n l (i + 1) fun k hk => h k (by omega)]
    by_cases hf : f x = -1
    · rw [if_pos (.inr hf), if_pos hf]
    · rw [if_neg (not_or.2 ⟨h i (Nat.le_refl _), hf⟩), if_neg hf]
theorem lookN_all {f : Im → Int} : ∀ l : List Im, (∀ i, lookN f i l = (0, 0, false) ∧ ∀ m, lookN f i (l ++ m) = lookN f (i + l.length) m) ∨ ∃ (j : Nat) (a : Int), j < l.length ∧ ∀ i, lookN f i l = (((i + j : Nat) : Int), a, true) ∧ ∀ m, lookN f i (l ++ m) = (((i + j : Nat) : Int), a, true)
  | [] => .inl fun i => ⟨rfl, fun m => rfl⟩
  | x :: l => by
    by_cases hf : f x = -1
    · have e : ∀ i m, lookN f i (x :: m) = lookN f (i + 1) m := fun i m => if_pos hf
      rcases lookN_all (f := f) l with h | ⟨j, a, hj, h⟩
      · refine .inl fun i => ⟨(e i l).trans (h (i + 1)).1, fun m => ?_⟩
        rw [List.cons_append, e, (h (i + 1)).2 m, List.length_cons]
        congr 1
        omega
      · refine .inr ⟨j + 1, a, by rw [List.length_cons]; omega, fun i => ⟨?_, fun m => ?_⟩⟩
        · rw [e, (h (i + 1)).1]
          congr 2
          omega
        · rw [List.cons_append, e, (h (i + 1)).2 m]
          congr 2
          omega
    · have e : ∀ i m, lookN f i (x :: m) = ((i : Int), f x, true) := fun i m => if_neg hf
      exact .inr ⟨0, f x, by simp, fun i => ⟨e i l, fun m => e i (l ++ m)⟩⟩
theorem more_spec (f : Im → Int) (xs : List Im) (x : Im) :
    (∃ (j : Nat) (a : Int), j < xs.length ∧ lookP f (-1) 0 xs = ((j : Int), a, true) ∧ lookP f (-1) 0 (xs ++ [x]) = ((j : Int), a, true) ∧ lookP f 0 0 ([x] ++ xs) = ((j : Int) + 1, a, true) ∧
      ((lookP f (-1) 0 [x] = (0, 0, false) ∧ lookP f (-1) 0 ([x] ++ xs) = ((j : Int) + 1, a, true)) ∨ ∃ y, lookP f (-1) 0 [x] = (0, y, true) ∧ lookP f (-1) 0 ([x] ++ xs) = (0, y, true))) ∨
    (lookP f (-1) 0 xs = (0, 0, false) ∧ lookP f 0 0 ([x] ++ xs) = (0, 0, false) ∧
      ((lookP f (-1) 0 (xs ++ [x]) = (0, 0, false) ∧ lookP f (-1) 0 [x] = (0, 0, false) ∧ lookP f (-1) 0 ([x] ++ xs) = (0, 0, false)) ∨ ∃ n y, lookP f (-1) 0 (xs ++ [x]) = (n, y, true) ∧ lookP f (-1) 0 [x] = (0, y, true) ∧ lookP f (-1) 0 ([x] ++ xs) = (0, y, true))) := by
  have hn : ∀ i l, lookP f (-1) i l = lookN f i l := fun i l => look_n l i fun k _ => by omega
  have hc : lookP f 0 0 ([x] ++ xs) = lookN f 1 xs := by
    show (if ((0 : Nat) : Int) = 0 ∨ f x = -1 then lookP f 0 1 xs else _) = _
    rw [if_pos (.inl rfl)]
    exact look_n xs 1 fun k hk => by omega
  have hd : lookP f (-1) 0 ([x] ++ xs) = if f x = -1 then lookN f 1 xs else (0, f x, true) := by
    rw [hn]
    rfl
  have ho : lookP f (-1) 0 [x] = if f x = -1 then (0, 0, false) else (0, f x, true) := by
    rw [hn]
    rfl
  rw [hc, hd, ho, hn, hn]
  rcases lookN_all (f := f) xs with h | ⟨j, a, hj, h⟩
  · right
    refine ⟨(h 0).1, (h 1).1, ?_⟩
    rw [(h 0).2 [x], (h 1).1]
    by_cases hf : f x = -1
    · left
      rw [if_pos hf]
      exact ⟨if_pos hf, rfl, rfl⟩
    · right
      rw [if_neg hf]
      exact ⟨_, f x, if_neg hf, rfl, rfl⟩
  · left
    refine ⟨j, a, hj, by rw [(h 0).1, Nat.zero_add], by rw [(h 0).2 [x], Nat.zero_add], ?_, ?_⟩
    · rw [(h 1).1]
      congr 1
      omega
    · rw [(h 1).1]
      by_cases hf : f x = -1
      · left
        rw [if_pos hf, if_pos hf]
        exact ⟨rfl, by congr 1; omega⟩
      · right
        rw [if_neg hf, if_neg hf]
        exact ⟨f x, rfl, rfl⟩
theorem fd_neq (a : Fd) (w : World) : (binOp .neq 29 (fdV a) (fdV a)).run Try.prog w = .ok (.bool false) w := by
  have ht : Try.prog.underlying 29 = some (.struct (Try.prog.fieldsOf 29)) := by kernel_rfl
  have hp : Try.prog.stoodInHeld 29 = false := by kernel_rfl
  have e : (Op.equalIn 10000 29 (fdV a) (fdV a)).run Try.prog w = .ok true w := by
    rw [run_equalIn_agg w 9999 29 _ _ ht hp]
    simp [go_sem]
  rw [run_neq_struct, e]
  simp [Result.andThen]
set_option maxRecDepth 100000 in
set_option maxHeartbeats 4000000 in
theorem more_any (r : Sym) (A : Option Addr) (n c : Nat) (xs : List Im) (qx : Pl) (x : Im) (w : World) (h : Ims w (fun k => k < w.heap.size) A n c xs) (hf : FitsS xs) (hk : n * 304 ≤ 140737488351232) (hx : SyIn w (fun k => k < w.heap.size) qx x) (hfx : FitS x) (hrn : r.name.length ≤ 140737488355328) :
    Calls Try.prog 9 #[symV r, .slice A n c, imV qx x] w fun e w' => e = .returned (.bool true) ∧ Below w.heap.size w w' := by
  obtain rfl := h.len
  have hb1 := box_below w r
  have hb2 := ibox_below (w.alloc (.cells (symA r) 25)) qx x
  have HB1 := Lib.hid (hb1.trans (hb2.mono hb1.size))
  have HR1 := Lib.hid ((Sx.new w r).below hb2)
  have HX1 := Lib.hid (Ix.new (w.alloc (.cells (symA r) 25)) qx x)
  have hz : (w.alloc (.cells (symA r) 25)).heap.size = w.heap.size + 1 := by simp
  rw [hz] at HX1
  have HI1 := Lib.hid ((h.lt hb1).lt hb2)
  have HIX1 := Lib.hid ((hx.lt hb1).lt hb2)
  have HF := Lib.hid hf
  have HFX := Lib.hid hfx
  clear hb1 hb2 hz h hf hx hfx
  go_enter Try.func9, Try.ntmps9
  go_upto_region 1 with (fail)
  change Code.wp _ _ _ _ ((w.alloc (.cells (symA r) 25)).alloc (.cells (imA qx x) 62))
  generalize (w.alloc (.cells (symA r) 25)).alloc (.cells (imA qx x) 62) = w1 at *
  go_upto_region 3 with (go_at_call 12; (with_reducible refine (awake_any _).mono ?_); rintro e w2 ⟨rfl, hb2⟩; have HR2 := Lib.hid (HR1.out.below hb2); have HX2 := Lib.hid (HX1.out.below hb2); have HI2 := Lib.hid (HI1.out.lt hb2); have HIX2 := Lib.hid (HIX1.out.lt hb2); have HB2 := Lib.hid (HB1.out.trans (hb2.mono HB1.out.size)); clear hb2 HR1 HX1 HI1 HIX1 HB1)
  generalize hB : w2.heap.size = B at *
  have HBE := Lib.hid hB
  obtain ⟨-, q, hels, hsy⟩ := HI2.out
  have HE := Lib.hid hels
  have HY := Lib.hid hsy
  clear hels hsy hB
  have HG2 := Lib.hid (show w.heap.size + 1 < B from by have := HX2.out.lt; have := HBE.out; omega)
  have HBB2 := Lib.hid (show Below B w2 w2 from Below.refl _ _)
  refine wp_region_lit ?_
  refine wpList_plain rfl fun K hK => ?_
  go_simp
  refine hK _ _ ?_
  clear hK K
  refine wpl_load_im (Ix.mk (HX2.out.bx.below' HBB2.out (by have := HG2.out; omega))) (by rfl) ?_
  refine wpList_plain rfl fun K hK => ?_
  go_simp
  refine hK _ _ ?_
  clear hK K
  have hbx : Below w2.heap.size w2 (w2.alloc (.cells (imA qx x) 62)) := (Below.refl _ _).alloc (Nat.le_refl _) _
  refine app_ims rfl (.tmp 21) (.tmp 23) rfl B (.slice none 0 0) [] [x] rfl (OwnI.nil _ _) _ (some ⟨w2.heap.size, 0, none⟩) 1 (fun _ => qx) rfl (one_els (Bx.new w2 (imA qx x) 62)) (fun k hk => by
    have hk : k < 1 := hk
    obtain rfl : k = 0 := by omega
    exact HIX2.out.keep fun j hj _ => ((HBB2.out.trans (hbx.mono (by have := HBE.out; have := HBB2.out.size; omega))).block j hj)) (by have := hk; simp <;> omega) (by have := HBB2.out.size; have := HBE.out; simp; omega) ?_
  intro v' w4 hown hgr hat hbel
  have HBB4 := Lib.hid (HBB2.out.trans ((hbx.mono (by have := HBE.out; omega)).trans hbel))
  obtain ⟨z1, hz1⟩ : ∃ z, z = [] ++ [x] := ⟨_, rfl⟩
  rw [← hz1] at hown
  obtain ⟨Aa, ca, rfl⟩ := hown.slice
  have HZ1 := Lib.hid hz1
  have HOA4 := Lib.hid hown
  clear hbx hgr hat hbel hown hz1
  refine wpList_plain rfl fun K hK => ?_
  go_simp
  refine hK _ _ ?_
  clear hK K
  go_upto_region 4 with (fail)
  refine wp_region_lit ?_
  refine wpList_plain rfl fun K hK => ?_
  go_simp
  refine hK _ _ ?_
  clear hK K
  refine wpList_plain rfl fun K hK => ?_
  go_simp
  refine hK _ _ ?_
  clear hK K
  refine app_ims rfl (.tmp 25) (.tmp 26) rfl B (.slice Aa z1.length ca) z1 xs rfl HOA4.out (fun k => k < B) A c q rfl (HE.out.keep fun j hj _ => HBB4.out.block j hj) (fun k hk => (HY.out k hk).keep fun j hj _ => HBB4.out.block j hj) (by have := hk; rw [HZ1.out]; simp; omega) (by have := HBB4.out.size; have := HBE.out; omega) ?_
  intro v' w5 hown hgr hat hbel
  have HBB5 := Lib.hid (HBB4.out.trans hbel)
  obtain ⟨za, hza⟩ : ∃ z, z = z1 ++ xs := ⟨_, rfl⟩
  rw [← hza] at hown
  obtain ⟨Ab, cb, rfl⟩ := hown.slice
  have HZA := Lib.hid (show za = [x] ++ xs by rw [hza, HZ1.out]; rfl)
  have HOA5 := Lib.hid hown
  clear hgr hat hbel hown hza
  refine wpList_plain rfl fun K hK => ?_
  go_simp
  refine hK _ _ ?_
  clear hK K
  go_upto_region 5 with (fail)
  refine wp_region_lit ?_
  refine wpList_plain rfl fun K hK => ?_
  go_simp
  refine hK _ _ ?_
  clear hK K
  refine wpList_plain rfl fun K hK => ?_
  go_simp
  refine hK _ _ ?_
  clear hK K
  refine app_ims rfl (.tmp 28) (.tmp 29) rfl B (.slice none 0 0) [] xs rfl (OwnI.nil _ _) (fun k => k < B) A c q rfl (HE.out.keep fun j hj _ => HBB5.out.block j hj) (fun k hk => (HY.out k hk).keep fun j hj _ => HBB5.out.block j hj) (by have := hk; simp; omega) (by have := HBB5.out.size; have := HBE.out; omega) ?_
  intro v' w6 hown hgr hat hbel
  have HBB6 := Lib.hid (HBB5.out.trans hbel)
  have HOA6 := Lib.hid (HOA5.out.below ((Below.refl w5.heap.size w5).grown hgr (Nat.le_refl _) (fun k hk => by cases hk)))
  have HNR := Lib.hid (show ∀ k, (Value.slice Ab za.length cb).ownBlock = some k → v'.ownBlock ≠ some k from fun k hk e => by
    have h1 := (HOA5.out.lt k hk).2
    rcases hat with e2 | e2
    · rw [e2] at e; cases e
    · rw [e2] at e; injection e with e; omega)
  obtain ⟨z2, hz2⟩ : ∃ z, z = [] ++ xs := ⟨_, rfl⟩
  rw [← hz2] at hown
  obtain ⟨Ac, cc, rfl⟩ := hown.slice
  have HZ2 := Lib.hid (show z2 = xs by rw [hz2]; rfl)
  have HOB6 := Lib.hid hown
  clear hgr hat hbel hown hz2
  refine wpList_plain rfl fun K hK => ?_
  go_simp
  refine hK _ _ ?_
  clear hK K
  go_upto_region 6 with (fail)
  refine wp_region_lit ?_
  refine wpList_plain rfl fun K hK => ?_
  go_simp
  refine hK _ _ ?_
  clear hK K
  refine wpl_load_im (Ix.mk (HX2.out.bx.below' HBB6.out (by have := HG2.out; omega))) (by rfl) ?_
  refine wpList_plain rfl fun K hK => ?_
  go_simp
  refine hK _ _ ?_
  clear hK K
  have hbx : Below w6.heap.size w6 (w6.alloc (.cells (imA qx x) 62)) := (Below.refl _ _).alloc (Nat.le_refl _) _
  refine app_ims rfl (.tmp 31) (.tmp 33) rfl B (.slice Ac z2.length cc) z2 [x] rfl (HOB6.out.below hbx) _ (some ⟨w6.heap.size, 0, none⟩) 1 (fun _ => qx) rfl (one_els (Bx.new w6 (imA qx x) 62)) (fun k hk => by
    have hk : k < 1 := hk
    obtain rfl : k = 0 := by omega
    exact HIX2.out.keep fun j hj _ => ((HBB6.out.trans (hbx.mono (by have := HBE.out; have := HBB6.out.size; omega))).block j hj)) (by have := hk; rw [HZ2.out]; simp; omega) (by have := HBB6.out.size; have := HBE.out; simp; omega) ?_
  intro v' w8 hown hgr hat hbel
  have HBB8 := Lib.hid (HBB6.out.trans ((hbx.mono (by have := HBB6.out.size; have := HBE.out; omega)).trans hbel))
  have HOA8 := Lib.hid ((HOA6.out.below hbx).keep (w' := w8) (fun k hk => hgr.block k ((HOA6.out.below hbx).lt k hk).2 (Ne.symm (HNR.out k hk))) (fun k hk _ => hbel.block k hk))
  obtain ⟨zb, hzb⟩ : ∃ z, z = z2 ++ [x] := ⟨_, rfl⟩
  rw [← hzb] at hown
  obtain ⟨Ad, cd, rfl⟩ := hown.slice
  have HZB := Lib.hid (show zb = xs ++ [x] by rw [hzb, HZ2.out])
  have HOB8 := Lib.hid hown
  clear hbx hgr hat hbel hown hzb HOA6 HOB6 HNR HOA5 HOA4 HBB2 HBB4 HBB5 HBB6 HZ1 HZ2
  refine wpList_plain rfl fun K hK => ?_
  go_simp
  refine hK _ _ ?_
  clear hK K
  have hbs := HBB8.out.size
  have HBS := Lib.hid (show B ≤ w8.heap.size by have := HBE.out; omega)
  have HR8 := Lib.hid (show Sx w8 w.heap.size r from ⟨HR2.out.bx.below' HBB8.out (by have := HG2.out; omega)⟩)
  have HX8 := Lib.hid (show Ix w8 (w.heap.size + 1) qx x from ⟨HX2.out.bx.below' HBB8.out (by have := HG2.out; omega)⟩)
  have HI8 := Lib.hid ((HI2.out.keep fun j hj _ => HBB8.out.block j hj).weak (Q := fun k => k < w8.heap.size) fun j hj => Nat.lt_of_lt_of_le hj HBS.out)
  have HMX8 := Lib.hid ((HIX2.out.keep fun j hj _ => HBB8.out.block j hj).weak (Q := fun k => k < w8.heap.size) fun j hj => Nat.lt_of_lt_of_le hj HBS.out)
  have HIA8 := Lib.hid (HOA8.out.ims HBS.out)
  have HIB8 := Lib.hid (HOB8.out.ims HBS.out)
  have HB8 := Lib.hid (HB2.out.trans (HBB8.out.mono (by have := HG2.out; omega)))
  have HFA := Lib.hid (show FitsS za by
    rw [HZA.out]
    refine ⟨by simp; omega, fun y hy => ?_⟩
    rcases List.mem_append.1 hy with hy | hy
    · rw [List.mem_singleton] at hy; rw [hy]; exact HFX.out
    · exact HF.out.2 y hy)
  have HFB := Lib.hid (show FitsS zb by
    rw [HZB.out]
    refine ⟨by simp; omega, fun y hy => ?_⟩
    rcases List.mem_append.1 hy with hy | hy
    · exact HF.out.2 y hy
    · rw [List.mem_singleton] at hy; rw [hy]; exact HFX.out)
  have HF1 := Lib.hid (show FitsS [x] from ⟨by simp, fun y hy => by rw [List.mem_singleton] at hy; rw [hy]; exact HFX.out⟩)
  have hla : za.length ≤ 17592186044416 := by rw [HZA.out]; simp; omega
  have hlb : zb.length ≤ 17592186044416 := by rw [HZB.out]; simp; omega
  have HXL := Lib.hid (show xs.length ≤ 17592186044416 by omega)
  have hms := more_spec (fun y => (tabI r y).1) xs x
  rw [← HZA.out, ← HZB.out] at hms
  have HMS := Lib.hid hms
  have HL1 := Lib.hid (fun (X : World) (hX : Ims X (fun k => k < X.heap.size) A xs.length c xs) => look_any r (-1) A xs.length c xs X hX HF.out (by omega) hrn)
  have HL2 := Lib.hid (fun (X : World) (hX : Ims X (fun k => k < X.heap.size) Ad zb.length cd zb) => look_any r (-1) Ad zb.length cd zb X hX HFB.out hlb hrn)
  have HL3 := Lib.hid (fun (X : World) (hX : Ims X (fun k => k < X.heap.size) Ab za.length cb za) => look_any r 0 Ab za.length cb za X hX HFA.out hla hrn)
  have HL4 := Lib.hid (fun (X : World) (b : Nat) (hX : Ims X (fun k => k < X.heap.size) (some ⟨b, 0, none⟩) 1 1 [x]) => look_any r (-1) (some ⟨b, 0, none⟩) 1 1 [x] X hX HF1.out (by decide) hrn)
  have HL5 := Lib.hid (fun (X : World) (hX : Ims X (fun k => k < X.heap.size) Ab za.length cb za) => look_any r (-1) Ab za.length cb za X hX HFA.out hla hrn)
  clear hms hla hlb hbs HR2 HX2 HI2 HIX2 HB2 HE HY HG2 HOA8 HOB8 HZA HZB HFA HFB HF HFX HF1 HBB8 hk
  generalize hl1 : lookP (fun x => (tabI r x).1) (-1) 0 xs = L1 at *
  generalize hl2 : lookP (fun x => (tabI r x).1) (-1) 0 zb = L2 at *
  generalize hl3 : lookP (fun x => (tabI r x).1) 0 0 za = L3 at *
  generalize hl4 : lookP (fun x => (tabI r x).1) (-1) 0 [x] = L4 at *
  generalize hl5 : lookP (fun x => (tabI r x).1) (-1) 0 za = L5 at *
  clear hl1 hl2 hl3 hl4 hl5
  obtain ⟨y0, y1, y2, y3, y4, y5, y6, y7, y8⟩ := HR8.out.cells
  go_upto_region 8 with (go_at_call 13; (with_reducible refine (HL1.out _ HI8.out).mono ?_); rintro e w9 ⟨nb8, rfl, -, hb9⟩; have HR9 := Lib.hid (HR8.out.below hb9); have HX9 := Lib.hid (HX8.out.below hb9); have HI9 := Lib.hid (HI8.out.lt hb9); have HMX9 := Lib.hid (HMX8.out.lt hb9); have HIA9 := Lib.hid (HIA8.out.lt hb9); have HIB9 := Lib.hid (HIB8.out.lt hb9); have HB9 := Lib.hid (HB8.out.trans (hb9.mono HB8.out.size)); clear HR8 HX8 HI8 HMX8 HIA8 HIB8 HB8)
  clear y0 y1 y2 y3 y4 y5 y6 y7 y8 hb9
  have hbx : Below w9.heap.size w9 (w9.alloc (.cells (fdA L1) 29)) := (Below.refl _ _).alloc (Nat.le_refl _) _
  have HFa10 := Lib.hid (Bx.new w9 (fdA L1) 29)
  have HR10 := Lib.hid (HR9.out.below hbx)
  have HX10 := Lib.hid (HX9.out.below hbx)
  have HI10 := Lib.hid (HI9.out.lt hbx)
  have HMX10 := Lib.hid (HMX9.out.lt hbx)
  have HIA10 := Lib.hid (HIA9.out.lt hbx)
  have HIB10 := Lib.hid (HIB9.out.lt hbx)
  have HB10 := Lib.hid (HB9.out.trans (hbx.mono HB9.out.size))
  clear HR9 HX9 HI9 HMX9 HIA9 HIB9 HB9
  clear hbx
  change Code.wp _ _ _ _ (w9.alloc (.cells (fdA L1) 29))
  generalize (w9.alloc (.cells (fdA L1) 29)) = w10 at *
  generalize w9.heap.size = g10 at *
  obtain ⟨y0, y1, y2, y3, y4, y5, y6, y7, y8⟩ := HR10.out.cells
  go_upto_region 9 with (go_at_call 13; (with_reducible refine (HL2.out _ HIB10.out).mono ?_); rintro e w11 ⟨nb10, rfl, -, hb11⟩; have HR11 := Lib.hid (HR10.out.below hb11); have HX11 := Lib.hid (HX10.out.below hb11); have HI11 := Lib.hid (HI10.out.lt hb11); have HMX11 := Lib.hid (HMX10.out.lt hb11); have HIA11 := Lib.hid (HIA10.out.lt hb11); have HIB11 := Lib.hid (HIB10.out.lt hb11); have HFa11 := Lib.hid (HFa10.out.below hb11); have HB11 := Lib.hid (HB10.out.trans (hb11.mono HB10.out.size)); clear HR10 HX10 HI10 HMX10 HIA10 HIB10 HFa10 HB10)
  clear y0 y1 y2 y3 y4 y5 y6 y7 y8 hb11
  have hbx : Below w11.heap.size w11 (w11.alloc (.cells (fdA L2) 29)) := (Below.refl _ _).alloc (Nat.le_refl _) _
  have HFb12 := Lib.hid (Bx.new w11 (fdA L2) 29)
  have HR12 := Lib.hid (HR11.out.below hbx)
  have HX12 := Lib.hid (HX11.out.below hbx)
  have HI12 := Lib.hid (HI11.out.lt hbx)
  have HMX12 := Lib.hid (HMX11.out.lt hbx)
  have HIA12 := Lib.hid (HIA11.out.lt hbx)
  have HIB12 := Lib.hid (HIB11.out.lt hbx)
  have HFa12 := Lib.hid (HFa11.out.below hbx)
  have HB12 := Lib.hid (HB11.out.trans (hbx.mono HB11.out.size))
  clear HR11 HX11 HI11 HMX11 HIA11 HIB11 HFa11 HB11
  clear hbx
  change Code.wp _ _ _ _ (w11.alloc (.cells (fdA L2) 29))
  generalize (w11.alloc (.cells (fdA L2) 29)) = w12 at *
  generalize w11.heap.size = g12 at *
  obtain ⟨y0, y1, y2, y3, y4, y5, y6, y7, y8⟩ := HR12.out.cells
  go_upto_region 10 with (go_at_call 13; (with_reducible refine (HL3.out _ HIA12.out).mono ?_); rintro e w13 ⟨nb12, rfl, -, hb13⟩; have HR13 := Lib.hid (HR12.out.below hb13); have HX13 := Lib.hid (HX12.out.below hb13); have HI13 := Lib.hid (HI12.out.lt hb13); have HMX13 := Lib.hid (HMX12.out.lt hb13); have HIA13 := Lib.hid (HIA12.out.lt hb13); have HIB13 := Lib.hid (HIB12.out.lt hb13); have HFa13 := Lib.hid (HFa12.out.below hb13); have HFb13 := Lib.hid (HFb12.out.below hb13); have HB13 := Lib.hid (HB12.out.trans (hb13.mono HB12.out.size)); clear HR12 HX12 HI12 HMX12 HIA12 HIB12 HFa12 HFb12 HB12)
  clear y0 y1 y2 y3 y4 y5 y6 y7 y8 hb13
  have hbx : Below w13.heap.size w13 (w13.alloc (.cells (fdA L3) 29)) := (Below.refl _ _).alloc (Nat.le_refl _) _
  have HFc14 := Lib.hid (Bx.new w13 (fdA L3) 29)
  have HR14 := Lib.hid (HR13.out.below hbx)
  have HX14 := Lib.hid (HX13.out.below hbx)
  have HI14 := Lib.hid (HI13.out.lt hbx)
  have HMX14 := Lib.hid (HMX13.out.lt hbx)
  have HIA14 := Lib.hid (HIA13.out.lt hbx)
  have HIB14 := Lib.hid (HIB13.out.lt hbx)
  have HFa14 := Lib.hid (HFa13.out.below hbx)
  have HFb14 := Lib.hid (HFb13.out.below hbx)
  have HB14 := Lib.hid (HB13.out.trans (hbx.mono HB13.out.size))
  clear HR13 HX13 HI13 HMX13 HIA13 HIB13 HFa13 HFb13 HB13
  clear hbx
  change Code.wp _ _ _ _ (w13.alloc (.cells (fdA L3) 29))
  generalize (w13.alloc (.cells (fdA L3) 29)) = w14 at *
  generalize w13.heap.size = g14 at *
  refine wp_region_lit ?_
  obtain ⟨y0, y1, y2, y3, y4, y5, y6, y7, y8⟩ := HR14.out.cells
  refine wpList_plain rfl fun K hK => ?_
  go_simp
  refine hK _ _ ?_
  clear hK K
  clear y0 y1 y2 y3 y4 y5 y6 y7 y8
  refine wpl_load_im HX14.out (by rfl) ?_
  refine wpList_plain rfl fun K hK => ?_
  go_simp
  refine hK _ _ ?_
  clear hK K
  have hbx := ibox_below w14 qx x
  have HO15 := Lib.hid (show Ims (w14.alloc (.cells (imA qx x) 62)) (fun k => k < (w14.alloc (.cells (imA qx x) 62)).heap.size) (some ⟨w14.heap.size, 0, none⟩) 1 1 [x] from ⟨rfl, fun _ => qx, one_els (Bx.new w14 (imA qx x) 62), fun k hk => by
    obtain rfl : k = 0 := by omega
    exact HMX14.out.lt hbx⟩)
  have HR15 := Lib.hid (HR14.out.below hbx)
  have HX15 := Lib.hid (HX14.out.below hbx)
  have HI15 := Lib.hid (HI14.out.lt hbx)
  have HMX15 := Lib.hid (HMX14.out.lt hbx)
  have HIA15 := Lib.hid (HIA14.out.lt hbx)
  have HIB15 := Lib.hid (HIB14.out.lt hbx)
  have HFa15 := Lib.hid (HFa14.out.below hbx)
  have HFb15 := Lib.hid (HFb14.out.below hbx)
  have HFc15 := Lib.hid (HFc14.out.below hbx)
  have HB15 := Lib.hid (HB14.out.trans (hbx.mono HB14.out.size))
  clear HR14 HX14 HI14 HMX14 HIA14 HIB14 HFa14 HFb14 HFc14 HB14
  clear hbx
  change wpList _ _ _ _ _ (w14.alloc (.cells (imA qx x) 62))
  generalize w14.alloc (.cells (imA qx x) 62) = w15 at *
  generalize w14.heap.size = rb at *
  refine wpList_plain rfl fun K hK => ?_
  go_simp
  (with_reducible refine (HL4.out _ rb HO15.out).mono ?_)
  rintro e w16 ⟨nb14, rfl, -, hbm⟩
  go_simp
  refine hK _ _ ?_
  clear hK K HO15
  have HR16 := Lib.hid (HR15.out.below hbm)
  have HX16 := Lib.hid (HX15.out.below hbm)
  have HI16 := Lib.hid (HI15.out.lt hbm)
  have HMX16 := Lib.hid (HMX15.out.lt hbm)
  have HIA16 := Lib.hid (HIA15.out.lt hbm)
  have HIB16 := Lib.hid (HIB15.out.lt hbm)
  have HFa16 := Lib.hid (HFa15.out.below hbm)
  have HFb16 := Lib.hid (HFb15.out.below hbm)
  have HFc16 := Lib.hid (HFc15.out.below hbm)
  have HB16 := Lib.hid (HB15.out.trans (hbm.mono HB15.out.size))
  clear HR15 HX15 HI15 HMX15 HIA15 HIB15 HFa15 HFb15 HFc15 HB15
  clear hbm
  go_upto_region 11 with (fail)
  have hbx : Below w16.heap.size w16 (w16.alloc (.cells (fdA L4) 29)) := (Below.refl _ _).alloc (Nat.le_refl _) _
  have HFd17 := Lib.hid (Bx.new w16 (fdA L4) 29)
  have HR17 := Lib.hid (HR16.out.below hbx)
  have HX17 := Lib.hid (HX16.out.below hbx)
  have HI17 := Lib.hid (HI16.out.lt hbx)
  have HMX17 := Lib.hid (HMX16.out.lt hbx)
  have HIA17 := Lib.hid (HIA16.out.lt hbx)
  have HIB17 := Lib.hid (HIB16.out.lt hbx)
  have HFa17 := Lib.hid (HFa16.out.below hbx)
  have HFb17 := Lib.hid (HFb16.out.below hbx)
  have HFc17 := Lib.hid (HFc16.out.below hbx)
  have HB17 := Lib.hid (HB16.out.trans (hbx.mono HB16.out.size))
  clear HR16 HX16 HI16 HMX16 HIA16 HIB16 HFa16 HFb16 HFc16 HB16
  clear hbx
  change Code.wp _ _ _ _ (w16.alloc (.cells (fdA L4) 29))
  generalize (w16.alloc (.cells (fdA L4) 29)) = w17 at *
  generalize w16.heap.size = g17 at *
  obtain ⟨y0, y1, y2, y3, y4, y5, y6, y7, y8⟩ := HR17.out.cells
  go_upto_region 12 with (go_at_call 13; (with_reducible refine (HL5.out _ HIA17.out).mono ?_); rintro e w18 ⟨nb17, rfl, -, hb18⟩; have HR18 := Lib.hid (HR17.out.below hb18); have HX18 := Lib.hid (HX17.out.below hb18); have HI18 := Lib.hid (HI17.out.lt hb18); have HMX18 := Lib.hid (HMX17.out.lt hb18); have HIA18 := Lib.hid (HIA17.out.lt hb18); have HIB18 := Lib.hid (HIB17.out.lt hb18); have HFa18 := Lib.hid (HFa17.out.below hb18); have HFb18 := Lib.hid (HFb17.out.below hb18); have HFc18 := Lib.hid (HFc17.out.below hb18); have HFd18 := Lib.hid (HFd17.out.below hb18); have HB18 := Lib.hid (HB17.out.trans (hb18.mono HB17.out.size)); clear HR17 HX17 HI17 HMX17 HIA17 HIB17 HFa17 HFb17 HFc17 HFd17 HB17)
  clear y0 y1 y2 y3 y4 y5 y6 y7 y8 hb18
  have hbx : Below w18.heap.size w18 (w18.alloc (.cells (fdA L5) 29)) := (Below.refl _ _).alloc (Nat.le_refl _) _
  have HFe19 := Lib.hid (Bx.new w18 (fdA L5) 29)
  have HR19 := Lib.hid (HR18.out.below hbx)
  have HX19 := Lib.hid (HX18.out.below hbx)
  have HI19 := Lib.hid (HI18.out.lt hbx)
  have HMX19 := Lib.hid (HMX18.out.lt hbx)
  have HIA19 := Lib.hid (HIA18.out.lt hbx)
  have HIB19 := Lib.hid (HIB18.out.lt hbx)
  have HFa19 := Lib.hid (HFa18.out.below hbx)
  have HFb19 := Lib.hid (HFb18.out.below hbx)
  have HFc19 := Lib.hid (HFc18.out.below hbx)
  have HFd19 := Lib.hid (HFd18.out.below hbx)
  have HB19 := Lib.hid (HB18.out.trans (hbx.mono HB18.out.size))
  clear HR18 HX18 HI18 HMX18 HIA18 HIB18 HFa18 HFb18 HFc18 HFd18 HB18
  clear hbx
  change Code.wp _ _ _ _ (w18.alloc (.cells (fdA L5) 29))
  generalize (w18.alloc (.cells (fdA L5) 29)) = w19 at *
  generalize w18.heap.size = g19 at *
  rcases HMS.out with ⟨j, a, hj, rfl, rfl, rfl, ⟨rfl, rfl⟩ | ⟨y, rfl, rfl⟩⟩ | ⟨rfl, rfl, ⟨rfl, rfl, rfl⟩ | ⟨n', y, rfl, rfl, rfl⟩⟩
  · clear HMS HL1 HL2 HL3 HL4 HL5
    have a0 := HFa19.out.c 0
    have a1 := HFa19.out.c 1
    have a2 := HFa19.out.c 2
    have b0 := HFb19.out.c 0
    have b1 := HFb19.out.c 1
    have b2 := HFb19.out.c 2
    have c0 := HFc19.out.c 0
    have c1 := HFc19.out.c 1
    have c2 := HFc19.out.c 2
    have d0 := HFd19.out.c 0
    have d1 := HFd19.out.c 1
    have d2 := HFd19.out.c 2
    have e0 := HFe19.out.c 0
    have e1 := HFe19.out.c 1
    have e2 := HFe19.out.c 2
    have hw : wrap64 (j : Int) = (j : Int) := IntWalk.wrap64_in _ (by have := HXL.out; omega)
    have q1 := fun X => fd_neq ((j : Int), a, true) X
    have q2 := fun X => fd_eql ((j : Int) + 1, a, true) X
    have e1 : ((j : Int) == (j : Int)) = true := by simp
    have e2 : (a == a) = true := by simp
    go_wp2
    first | go_ret2 | go_ret | skip
    exact ⟨rfl, HB19.out⟩
  · clear HMS HL1 HL2 HL3 HL4 HL5
    have a0 := HFa19.out.c 0
    have a1 := HFa19.out.c 1
    have a2 := HFa19.out.c 2
    have b0 := HFb19.out.c 0
    have b1 := HFb19.out.c 1
    have b2 := HFb19.out.c 2
    have c0 := HFc19.out.c 0
    have c1 := HFc19.out.c 1
    have c2 := HFc19.out.c 2
    have d0 := HFd19.out.c 0
    have d1 := HFd19.out.c 1
    have d2 := HFd19.out.c 2
    have e0 := HFe19.out.c 0
    have e1 := HFe19.out.c 1
    have e2 := HFe19.out.c 2
    have hw : wrap64 (j : Int) = (j : Int) := IntWalk.wrap64_in _ (by have := HXL.out; omega)
    have q1 := fun X => fd_neq ((j : Int), a, true) X
    have q2 := fun X => fd_eql (0, y, true) X
    have e1 : ((j : Int) == (j : Int)) = true := by simp
    have e2 : (a == a) = true := by simp
    go_wp2
    first | go_ret2 | go_ret | skip
    exact ⟨rfl, HB19.out⟩
  · clear HMS HL1 HL2 HL3 HL4 HL5
    have a0 := HFa19.out.c 0
    have a1 := HFa19.out.c 1
    have a2 := HFa19.out.c 2
    have b0 := HFb19.out.c 0
    have b1 := HFb19.out.c 1
    have b2 := HFb19.out.c 2
    have c0 := HFc19.out.c 0
    have c1 := HFc19.out.c 1
    have c2 := HFc19.out.c 2
    have d0 := HFd19.out.c 0
    have d1 := HFd19.out.c 1
    have d2 := HFd19.out.c 2
    have e0 := HFe19.out.c 0
    have e1 := HFe19.out.c 1
    have e2 := HFe19.out.c 2
    have q2 := fun X => fd_eql (0, 0, false) X
    go_wp2
    first | go_ret2 | go_ret | skip
    exact ⟨rfl, HB19.out⟩
  · clear HMS HL1 HL2 HL3 HL4 HL5
    have a0 := HFa19.out.c 0
    have a1 := HFa19.out.c 1
    have a2 := HFa19.out.c 2
    have b0 := HFb19.out.c 0
    have b1 := HFb19.out.c 1
    have b2 := HFb19.out.c 2
    have c0 := HFc19.out.c 0
    have c1 := HFc19.out.c 1
    have c2 := HFc19.out.c 2
    have d0 := HFd19.out.c 0
    have d1 := HFd19.out.c 1
    have d2 := HFd19.out.c 2
    have e0 := HFe19.out.c 0
    have e1 := HFe19.out.c 1
    have e2 := HFe19.out.c 2
    have q2 := fun X => fd_eql (0, y, true) X
    go_wp2
    first | go_ret2 | go_ret | skip
    exact ⟨rfl, HB19.out⟩
end Go.Proofs.Ytpcgedngikpnoaa
