/-
  The law ScopeMade, walked (written by mkl.py).
-/
import Derived.Test.YtpcgedngikpnoaaI
import Derived.Test.YtpcgedngikpnoaaP
import Derived.Test.YtpcgedngikpnoaaMSame
import Derived.Test.YtpcgedngikpnoaaO
namespace Go.Proofs.Ytpcgedngikpnoaa
set_option maxRecDepth 100000
set_option linter.unusedSimpArgs false
set_option linter.unusedVariables false
open Go.RowKit

/-- A row of images of the call's own; what they hold lies elsewhere. -/
structure OwnJ (w : World) (base : Nat) (v : Value) (xs : List Im) : Prop where
  ex : ∃ q : Nat → Pl, w.ownsRow base 62 15 v xs.length (flatE (fun k => imA (q k) (xs.getD k noIm)) xs.length) ∧ ∀ k, k < xs.length → SyIn w (fun b => b < w.heap.size ∧ v.ownBlock ≠ some b) (q k) (xs.getD k noIm)
theorem OwnJ.nil (w : World) (base : Nat) : OwnJ w base (.slice none 0 0) [] := ⟨fun _ => ⟨(none, 0), (none, 0), (none, 0), (none, 0), (none, 0), (none, 0), (none, 0), (none, 0), (none, 0), (none, 0), (none, 0)⟩, World.ownsRow_nil _ _ _ _, fun k hk => by cases hk⟩
theorem OwnJ.lt {w : World} {base : Nat} {v : Value} {xs : List Im} (h : OwnJ w base v xs) : ∀ k, v.ownBlock = some k → base ≤ k ∧ k < w.heap.size := by
  obtain ⟨q, h1, _⟩ := h.ex
  exact fun k hk => h1.lt k hk
theorem OwnJ.below {w w' : World} {base : Nat} {v : Value} {xs : List Im} (h : OwnJ w base v xs) (hb : Below w.heap.size w w') : OwnJ w' base v xs := by
  obtain ⟨q, h1, h2⟩ := h.ex
  exact ⟨q, own_kept h1 fun k hk => hb.block k (h1.lt k hk).2, fun k hk => ((h2 k hk).keep fun j hj _ => hb.block j hj.1).weak fun j hj => ⟨Nat.lt_of_lt_of_le hj.1 hb.size, hj.2⟩⟩
theorem OwnJ.slice {w : World} {base : Nat} {v : Value} {xs : List Im} (h : OwnJ w base v xs) : ∃ A c, v = .slice A xs.length c := by
  obtain ⟨q, h1, _⟩ := h.ex
  exact own_sl h1
theorem OwnJ.ims {w : World} {base : Nat} {A : Option Addr} {c : Nat} {xs : List Im} (h : OwnJ w base (.slice A xs.length c) xs) : Ims w (fun k => k < w.heap.size) A xs.length c xs := by
  obtain ⟨q, h1, h2⟩ := h.ex
  exact ⟨rfl, q, (els_of_own (E := fun k => imA (q k) (xs.getD k noIm)) (fun _ _ => rfl) h1).weak fun k hk => hk.2, fun k hk => (h2 k hk).weak fun j hj => hj.1⟩
/-- One image more. -/
theorem app_one {w : World} {ops : Array Oper} {rest : List Oper} {o : Oper} {a : Act} {Q : Exit → Act → World → Prop} (hgd : o.guard = none) (s x : Operand)
    (ho : o.op = .call { callee := .builtin .append, args := #[s, x], argTypes := #[26, 26] }) (base : Nat) (v : Value) (xs : List Im) (hs : a.eval s = v) (hown : OwnJ w base v xs)
    (rb : Nat) (p : Pl) (y : Im) (hx : a.eval x = .slice (some ⟨rb, 0, none⟩) 1 1) (hr : Bx w rb (imA p y) 62) (hy : SyIn w (fun b => b < w.heap.size ∧ v.ownBlock ≠ some b) p y)
    (hbytes : (xs.length + 1) * 304 ≤ 140737488355328) (hbase : base ≤ w.heap.size)
    (h : ∀ v' w', OwnJ w' base v' (xs ++ [y]) → Below base w w' → wpList Try.prog ops Q rest (a.put o.dst v') w') : wpList Try.prog ops Q (o :: rest) a w := by
  obtain ⟨i0, hi, hz0, hz1, hz2⟩ := info_im3
  have hlt := hown.lt
  obtain ⟨qx, h1, h2⟩ := hown.ex
  refine wpList_append_els hgd s x 26 ho base 62 i0 zImV 15 304 Try.underlying26 hi hz0 hz1 hz2 rfl (by decide) v xs.length _ hs h1 (fun k => k < w.heap.size) (some ⟨rb, 0, none⟩) 1 1 _ hx (one_els hr) (fun _ _ => rfl) (fun k _ => im_one _ _) (by simp only [maxLen]; omega) hbytes hbase ?_
  intro v' w' hown' hgr hat
  have hbel : Below base w w' := ⟨hgr.os, hgr.tape, hgr.output, hgr.size, fun k hk => hgr.block k (by omega) (fun e => by have := (hlt k e.symm).1; omega)⟩
  have hP : ∀ b, b < w.heap.size ∧ v.ownBlock ≠ some b → b < w'.heap.size ∧ v'.ownBlock ≠ some b := fun b hb => by
    refine ⟨Nat.lt_of_lt_of_le hb.1 hgr.size, fun e => ?_⟩
    rcases hat with e2 | e2
    · exact hb.2 (e2.symm.trans e)
    · rw [e2] at e
      injection e with e
      have := hb.1
      omega
  refine h v' w' ⟨fun k => if k < xs.length then qx k else p, ?_, fun k hk => ?_⟩ hbel
  · rw [List.length_append]
    show w'.ownsRow base 62 15 v' (xs.length + 1) (flatE _ (xs.length + 1))
    rw [flatE_congr (E' := fun k => imA (if k < xs.length then qx k else p) ((xs ++ [y]).getD k noIm)) (xs.length + 1) (fun k hk => ?_)] at hown'
    · exact hown'
    · by_cases hkx : k < xs.length
      · rw [if_pos hkx, if_pos hkx, List.getD_eq_getElem?_getD, List.getD_eq_getElem?_getD, List.getElem?_append_left hkx]
      · rw [if_neg hkx, if_neg hkx, List.getD_eq_getElem?_getD, List.getD_eq_getElem?_getD, List.getElem?_append_right (by omega)]
  · rw [List.length_append] at hk
    have hk : k < xs.length + 1 := hk
    show SyIn w' _ (if k < xs.length then qx k else p) _
    by_cases hkx : k < xs.length
    · rw [if_pos hkx, show (xs ++ [y]).getD k noIm = xs.getD k noIm by rw [List.getD_eq_getElem?_getD, List.getD_eq_getElem?_getD, List.getElem?_append_left hkx]]
      exact ((h2 k hkx).keep fun j hj hl => hgr.block j hl (Ne.symm hj.2)).weak hP
    · obtain rfl : k = xs.length := by omega
      rw [if_neg hkx, show (xs ++ [y]).getD xs.length noIm = y by rw [List.getD_eq_getElem?_getD, List.getElem?_append_right (Nat.le_refl _)]; simp]
      exact (hy.keep fun j hj hl => hgr.block j hl (Ne.symm hj.2)).weak hP
theorem mk_right {ss : List Sym} (hn : ss.length ≤ 512) : rightI (mkI ss) = true := by
  have h := made_right hn
  unfold rightI
  show rightT (mkI ss).rows.length (rowF (mkI ss).rows) (filS ss) 6 ss = true
  rw [mk_rows]
  unfold rightT rowsB at h ⊢
  rw [Bool.and_eq_true, Bool.and_eq_true, Bool.and_eq_true] at h ⊢
  refine ⟨h.1, ⟨h.2.1.1, ?_⟩, h.2.2⟩
  exact decide_eq_true fun k hk => mk_row hk
set_option maxRecDepth 100000 in
set_option maxHeartbeats 4000000 in
theorem made_any (r : Sym) (skip : Int) (A : Option Addr) (n c : Nat) (ls : List (List Sym)) (w : World) (h : Sys w (fun k => k < w.heap.size) A n c ls) (hf : ∀ l ∈ ls, ∀ s ∈ l, s.name.length ≤ 140737488351232 ∧ s.ver.length ≤ 140737488351232) (hn : n ≤ 1048576) (hrn : r.name.length ≤ 140737488355328) :
    Calls Try.prog 7 #[symV r, .int .i64 skip, .slice A n c] w fun e w' => e = .returned (.bool true) ∧ Below w.heap.size w w' := by
  obtain rfl := h.len
  obtain ⟨-, q, h1, h2⟩ := h
  have hbx := box_below w r
  have HB1 := Lib.hid hbx
  have HR1 := Lib.hid (Sx.new w r)
  have hcap := h1.cap
  have HE := Lib.hid h1
  have HY := Lib.hid h2
  have HF := Lib.hid hf
  clear hbx h1 h2 hf
  go_enter Try.func7, Try.ntmps7
  go_upto_region 1 with (fail)
  change Code.wp _ _ _ _ (w.alloc (.cells (symA r) 25))
  generalize w.alloc (.cells (symA r) 25) = w1 at *
  go_upto_region 4 with (go_at_call 12; (with_reducible refine (awake_any _).mono ?_); rintro e w2 ⟨rfl, hb2⟩; have HR2 := Lib.hid (HR1.out.below hb2); have HB2 := Lib.hid (HB1.out.trans (hb2.mono HB1.out.size)); clear hb2 HR1 HB1)
  go_loopw [8, 9] (fun l t wr => ∃ (k : Nat) (Al : Option Addr) (cl : Nat) (zs : List Im), k ≤ ls.length ∧ t = .int .i64 (k : Int) ∧ l = .slice Al zs.length cl ∧ zs = (ls.take k).map mkI ∧ (∀ j, j < k → (ls.getD j []).length ≤ 512) ∧ OwnJ wr w2.heap.size (.slice Al zs.length cl) zs ∧ Below w2.heap.size w2 wr) (fun _ t _ => ls.length - (intOf t).toNat)
  case atStart => exact ⟨0, none, 0, [], Nat.zero_le _, rfl, rfl, rfl, fun j hj => absurd hj (Nat.not_lt_zero _), OwnJ.nil _ _, Below.refl _ _⟩
  case round =>
    obtain ⟨k, Al, cl, zs, hk, rfl, rfl, hz, hall, hown, hb⟩ := hrel
    have HZ := Lib.hid hz
    have HAL := Lib.hid hall
    have HO := Lib.hid hown
    have HBR := Lib.hid hb
    clear hz hall hown hb
    by_cases hlt : k < ls.length
    · obtain ⟨ad, rfl⟩ : ∃ ad, A = some ad := by
        cases A with
        | none => have := (HE.out.nil rfl).1; omega
        | some ad => exact ⟨ad, rfl⟩
      obtain ⟨b, o, rfl⟩ := HE.out.plain (by omega) rfl
      have HBW := Lib.hid (HB2.out.trans (HBR.out.mono HB2.out.size))
      have c0 : wr.cell? ⟨b, o + k, none⟩ = some (.slice (q k).1 (ls.getD k []).length (q k).2) := by
        have := (HE.out.lt HBW.out).get k hlt 0 _ rfl
        simpa using this
      have HS := Lib.hid ((HY.out k hlt).lt HBW.out)
      have HS0 := Lib.hid (HY.out k hlt)
      have hmem := getD_mem ls [] hlt
      have HNM := Lib.hid (HF.out _ hmem)
      have HTK := Lib.hid (show (ls.take (k + 1)).map mkI = zs ++ [mkI (ls.getD k [])] by
        rw [List.take_succ_eq_append_getElem hlt, List.map_append, ← HZ.out, getD_get ls [] hlt]
        rfl)
      have HALN := Lib.hid (show (ls.getD k []).length ≤ 512 → ∀ j, j < k + 1 → (ls.getD j []).length ≤ 512 from fun h j hj => by
        by_cases hjk : j < k
        · exact HAL.out j hjk
        · obtain rfl : j = k := by omega
          exact h)
      have hzl : zs.length = k := by rw [HZ.out, List.length_map, List.length_take]; omega
      have HZL := Lib.hid hzl
      clear hmem hzl
      generalize ls.getD k [] = ss at *
      generalize q k = qk at *
      have hk0 : (0 : Int) ≤ (k : Int) := by omega
      have hk1 : (k : Int) < (ls.length : Int) := by omega
      by_cases h5 : 512 < ss.length
      · have d0 : decide ((512 : Int) < (ss.length : Int)) = true := decide_eq_true (by omega)
        have d1 : (512 : Int) < (ss.length : Int) := by omega
        clear h5
        go_wp2
        first | go_ret2 | go_ret | skip
        exact ⟨rfl, HBW.out⟩
      · have d0 : decide ((512 : Int) < (ss.length : Int)) = false := decide_eq_false (by omega)
        have d1 : ¬ (512 : Int) < (ss.length : Int) := by omega
        have h512 : ss.length ≤ 512 := by omega
        have HM := Lib.hid (mkd_own qk.1 ss.length qk.2 ss wr HS.out h512 HNM.out)
        have H512 := Lib.hid h512
        clear h5 h512
        go_upto_region 8 with (fail)
        refine wp_region_lit ?_
        refine wpList_plain rfl fun K hK => ?_
        go_simp
        refine hK _ _ ?_
        clear hK K
        refine wpList_plain rfl fun K hK => ?_
        go_simp
        refine hK _ _ ?_
        clear hK K
        refine wpList_plain rfl fun K hK => ?_
        go_simp
        refine hK _ _ ?_
        clear hK K
        refine wpList_plain rfl fun K hK => ?_
        go_simp
        refine hK _ _ ?_
        clear hK K
        refine wpList_plain rfl fun K hK => ?_
        go_simp
        refine hK _ _ ?_
        clear hK K
        refine wpList_plain rfl fun K hK => ?_
        go_simp
        (with_reducible refine (HM.out).mono ?_)
        rintro e w6 ⟨A', c', Af, cf, rfl, ht6, hb6⟩
        go_simp
        refine hK _ _ ?_
        clear hK K
        have hbx : Below w6.heap.size w6 (w6.alloc (.cells (imA (mkP (qk.1, qk.2) (A', c') (Af, cf)) (mkI ss)) 62)) := (Below.refl _ _).alloc (Nat.le_refl _) _
        have HB67 := Lib.hid (hb6.trans (hbx.mono hb6.size))
        have HSI := Lib.hid (show SyIn (w6.alloc (.cells (imA (mkP (qk.1, qk.2) (A', c') (Af, cf)) (mkI ss)) 62)) (fun b => b < (w6.alloc (.cells (imA (mkP (qk.1, qk.2) (A', c') (Af, cf)) (mkI ss)) 62)).heap.size ∧ (Value.slice Al zs.length cl).ownBlock ≠ some b) (mkP (qk.1, qk.2) (A', c') (Af, cf)) (mkI ss) from by
          have hlow := HO.out.lt
          have hsz := hbx.size
          have hs6 := hb6.size
          refine ⟨?_, ?_⟩
          · have h0 := HS0.out.keep (w' := w6.alloc (.cells (imA (mkP (qk.1, qk.2) (A', c') (Af, cf)) (mkI ss)) 62)) fun j hj _ => (HBW.out.trans (HB67.out.mono HBW.out.size)).block j hj
            exact h0.weak fun j hj => ⟨by have := (HBW.out.trans (HB67.out.mono HBW.out.size)).size; omega, fun e => by have := (hlow j e).1; have := HB2.out.size; omega⟩
          · exact (ht6.keep fun j hj hl => hbx.block j hl).weak fun j hj => ⟨by have := hj.2; omega, fun e => by have := (hlow j e).2; have := hj.1; omega⟩)
        refine wpList_plain rfl fun K hK => ?_
        go_simp
        refine hK _ _ ?_
        clear hK K
        change wpList _ _ _ _ _ (w6.alloc (.cells (imA (mkP (qk.1, qk.2) (A', c') (Af, cf)) (mkI ss)) 62))
        refine app_one rfl (.tmp 26) (.tmp 32) rfl w2.heap.size (.slice Al zs.length cl) zs rfl (HO.out.below HB67.out) w6.heap.size (mkP (qk.1, qk.2) (A', c') (Af, cf)) (mkI ss) rfl (Bx.new w6 _ 62) HSI.out (by have := HZL.out; omega) (by have := HBR.out.size; have := HB67.out.size; omega) ?_
        intro v' w7 hown hbel
        have HB7 := Lib.hid (HBR.out.trans ((HB67.out.mono HBR.out.size).trans hbel))
        obtain ⟨zs', hzs⟩ : ∃ z, z = zs ++ [mkI ss] := ⟨_, rfl⟩
        rw [← hzs] at hown
        obtain ⟨A2, c2, rfl⟩ := hown.slice
        have HO7 := Lib.hid hown
        have HZ7 := Lib.hid (hzs.trans HTK.out.symm)
        clear hown hbel hzs hbx hb6 ht6 HSI HB67
        refine wpList_plain rfl fun K hK => ?_
        go_simp
        refine hK _ _ ?_
        clear hK K
        go_wp2
        go_roundw
        case rel => exact ⟨k + 1, A2, c2, zs', by omega, by go_num, rfl, HZ7.out, HALN.out H512.out, HO7.out, HB7.out⟩
        case measure => simp [intOf]; omega
    · obtain rfl : k = ls.length := by omega
      have HB5 := Lib.hid (HB2.out.trans (HBR.out.mono HB2.out.size))
      have HR5 := Lib.hid (HR2.out.below HBR.out)
      have HI5 := Lib.hid HO.out.ims
      have hzl : zs.length ≤ 1048576 := by rw [HZ.out, List.length_map, List.length_take]; omega
      have hzm : ∀ z ∈ zs, ∃ l ∈ ls, z = mkI l ∧ l.length ≤ 512 := fun z hz => by
        rw [HZ.out, List.take_length] at hz
        obtain ⟨l, hl, rfl⟩ := List.mem_map.1 hz
        obtain ⟨j, hj, rfl⟩ := List.getElem_of_mem hl
        refine ⟨_, hl, rfl, ?_⟩
        rw [getD_get ls [] hj]
        exact HAL.out j hj
      have HFZ := Lib.hid (show FitsS zs from ⟨by omega, fun z hz => by
        obtain ⟨l, hl, rfl, h5⟩ := hzm z hz
        exact mk_fit h5 (HF.out l hl)⟩)
      have HEQ := Lib.hid (show lookP (linI r) skip 0 zs = lookP (fun x => (tabI r x).1) skip 0 zs from look_congr zs 0 fun x hx => by
        obtain ⟨l, hl, rfl, h5⟩ := hzm x hx
        exact (right_lin (mk_right h5) r).symm)
      have HLK := Lib.hid (fun (X : World) (hX : Ims X (fun k => k < X.heap.size) Al zs.length cl zs) => look_any r skip Al zs.length cl zs X hX HFZ.out (by omega) hrn)
      have HDK := Lib.hid (fun (X : World) (hX : Ims X (fun k => k < X.heap.size) Al zs.length cl zs) => linear_any r skip Al zs.length cl zs X hX HFZ.out (by omega))
      rw [HEQ.out] at HDK
      clear hzl hzm HFZ HEQ HO HZ HAL
      generalize lookP (fun x => (tabI r x).1) skip 0 zs = L at *
      generalize numL (tabN r) skip zs (goneP (fun x => (tabI r x).1) skip 0 zs) = nl at *
      obtain ⟨y0, y1, y2, y3, y4, y5, y6, y7, y8⟩ := HR5.out.cells
      go_upto_region 10 with (go_at_call 13; (with_reducible refine (HLK.out _ HI5.out).mono ?_); rintro e w6 ⟨nb, rfl, -, hb6⟩; have HR6 := Lib.hid (HR5.out.below hb6); have HI6 := Lib.hid (HI5.out.lt hb6); have HB6 := Lib.hid (HB5.out.trans (hb6.mono HB5.out.size)); clear HR5 HI5 HB5)
      clear y0 y1 y2 y3 y4 y5 y6 y7 y8 hb6
      have hbx : Below w6.heap.size w6 (w6.alloc (.cells (fdA L) 29)) := (Below.refl _ _).alloc (Nat.le_refl _) _
      have HFA7 := Lib.hid (Bx.new w6 (fdA L) 29)
      have HR7 := Lib.hid (HR6.out.below hbx)
      have HI7 := Lib.hid (HI6.out.lt hbx)
      have HB7 := Lib.hid (HB6.out.trans (hbx.mono HB6.out.size))
      clear HR6 HI6 HB6
      clear hbx
      change Code.wp _ _ _ _ (w6.alloc (.cells (fdA L) 29))
      generalize (w6.alloc (.cells (fdA L) 29)) = w7 at *
      generalize w6.heap.size = g7 at *
      refine wp_region_held_drew (S := fun X => Below w7.drew.heap.size w7.drew X) (by kernel_rfl) (Below.refl _ _) (fun hHeld0 => ?_)
      have hd := drew_below w7
      have HR8 := Lib.hid (HR7.out.below hd)
      have HI8 := Lib.hid (HI7.out.lt hd)
      have HFA8 := Lib.hid (HFA7.out.below hd)
      have HB8 := Lib.hid (HB7.out.trans (hd.mono HB7.out.size))
      clear HR7 HI7 HFA7 HB7
      clear hd
      generalize w7.drew = w8 at *
      have a0 := HFA8.out.c 0
      have a1 := HFA8.out.c 1
      have a2 := HFA8.out.c 2
      have HEQ := Lib.hid (fun X => fd_eql L X)
      obtain ⟨l0, l1, l2⟩ := L
      refine take_at (i := 0) (d := 41) (v := (.bool true)) rfl rfl (by kernel_rfl) (by kernel_rfl) (by kernel_rfl) (fun _ _ _ h => h) (Or.inl ⟨by rfl, ?_⟩) (by assumption) ?_
      · intro X hX; go_simp
      (try simp only [Act.put, List.setIfInBounds_toArray, List.set_cons_zero, List.set_cons_succ])
      refine take_at (i := 1) (d := 42) (v := (.bool true)) rfl rfl (by kernel_rfl) (by kernel_rfl) (by kernel_rfl) (fun _ _ _ h => h) (Or.inl ⟨by rfl, ?_⟩) (by assumption) ?_
      · intro X hX; go_simp
      (try simp only [Act.put, List.setIfInBounds_toArray, List.set_cons_zero, List.set_cons_succ])
      refine take_at (i := 2) (d := 43) (v := (fdV (l0, l1, l2))) rfl rfl (by kernel_rfl) (by kernel_rfl) (by kernel_rfl) (fun _ _ _ h => h) (Or.inl ⟨by rfl, ?_⟩) (by assumption) ?_
      · intro X hX; have a0 := cell_below hX a0; have a1 := cell_below hX a1; have a2 := cell_below hX a2; go_simp
      (try simp only [Act.put, List.setIfInBounds_toArray, List.set_cons_zero, List.set_cons_succ])
      refine take_at (i := 3) (d := 44) (v := (symV r)) rfl rfl (by kernel_rfl) (by kernel_rfl) (by kernel_rfl) (fun _ _ _ h => h) (Or.inl ⟨by rfl, ?_⟩) (by assumption) ?_
      · intro X hX; obtain ⟨y0, y1, y2, y3, y4, y5, y6, y7, y8⟩ := (HR8.out.below hX).cells; go_simp
      (try simp only [Act.put, List.setIfInBounds_toArray, List.set_cons_zero, List.set_cons_succ])
      refine take_at (i := 4) (d := 45) (v := (.int .i64 skip)) rfl rfl (by kernel_rfl) (by kernel_rfl) (by kernel_rfl) (fun _ _ _ h => h) (Or.inl ⟨by rfl, ?_⟩) (by assumption) ?_
      · intro X hX; go_simp
      (try simp only [Act.put, List.setIfInBounds_toArray, List.set_cons_zero, List.set_cons_succ])
      refine take_at (i := 5) (d := 46) (v := (.slice Al zs.length cl)) rfl rfl (by kernel_rfl) (by kernel_rfl) (by kernel_rfl) (fun _ _ _ h => h) (Or.inl ⟨by rfl, ?_⟩) (by assumption) ?_
      · intro X hX; go_simp
      (try simp only [Act.put, List.setIfInBounds_toArray, List.set_cons_zero, List.set_cons_succ])
      refine wpAnyH_ready (rs := [6]) (by kernel_rfl) (by simp) ?_
      refine AllReadyH.cons rfl (fun K hK => ?_) AllReadyH.nil
      go_simp
      (with_reducible refine (HDK.out _ (HI8.out.lt hHeld0)).mono ?_)
      rintro e w9 ⟨rfl, hb9⟩
      have HB9 := Lib.hid hb9; clear hb9
      go_simp
      refine hK.out _ _ (hHeld0.trans (HB9.out.mono hHeld0.size)) (fun hHeld1 => ?_)
      clear hK K
      (try simp only [Act.put, List.setIfInBounds_toArray, List.set_cons_zero, List.set_cons_succ])
      refine take_at (i := 7) (d := 48) (v := (.bool true)) rfl rfl (by kernel_rfl) (by kernel_rfl) (by kernel_rfl) (fun _ _ _ h => h) (Or.inl ⟨by rfl, ?_⟩) (by assumption) ?_
      · intro X hX; have e := HEQ.out X; go_simp
      (try simp only [Act.put, List.setIfInBounds_toArray, List.set_cons_zero, List.set_cons_succ])
      refine take_at (i := 8) (d := 49) (v := (.bool true)) rfl rfl (by kernel_rfl) (by kernel_rfl) (by kernel_rfl) (fun _ _ _ h => h) (Or.inl ⟨by rfl, ?_⟩) (by assumption) ?_
      · intro X hX; go_simp
      (try simp only [Act.put, List.setIfInBounds_toArray, List.set_cons_zero, List.set_cons_succ])
      refine take_at (i := 9) (d := 6) (v := (.bool true)) rfl rfl (by kernel_rfl) (by kernel_rfl) (by kernel_rfl) (fun _ _ _ h => h) (Or.inl ⟨by rfl, ?_⟩) (by assumption) ?_
      · intro X hX; go_simp
      (try simp only [Act.put, List.setIfInBounds_toArray, List.set_cons_zero, List.set_cons_succ])
      refine wpAnyH_done (by kernel_rfl) ?_ _
      go_wp2
      first | go_ret2 | go_ret | skip
      exact ⟨rfl, HB8.out.trans (hHeld1.mono HB8.out.size)⟩
end Go.Proofs.Ytpcgedngikpnoaa
