/-
  The law ScopeSame, walked (written by mkl.py).
-/
import Derived.Test.YtpcgedngikpnoaaI
import Derived.Laws.StructEq
namespace Go.Proofs.Ytpcgedngikpnoaa
set_option maxRecDepth 100000
set_option linter.unusedSimpArgs false
set_option linter.unusedVariables false
open Go.RowKit

theorem fd_eql (a : Fd) (w : World) : (binOp .eql 29 (fdV a) (fdV a)).run Try.prog w = .ok (.bool true) w := by
  have ht : Try.prog.underlying 29 = some (.struct (Try.prog.fieldsOf 29)) := by kernel_rfl
  have hp : Try.prog.stoodInHeld 29 = false := by kernel_rfl
  have e : (Op.equalIn 10000 29 (fdV a) (fdV a)).run Try.prog w = .ok true w := by
    rw [run_equalIn_agg w 9999 29 _ _ ht hp]
    simp [go_sem]
  rw [run_eql_struct, e]
  simp [Result.andThen]
theorem rights_look {r : Sym} {skip : Int} {xs : List Im} (h : rightsB xs = true) : lookP (linI r) skip 0 xs = lookP (fun x => (tabI r x).1) skip 0 xs :=
  look_congr xs 0 fun x hx => (right_lin (List.all_eq_true.1 h x hx) r).symm
set_option maxRecDepth 100000 in
set_option maxHeartbeats 4000000 in
theorem same_any (r : Sym) (skip : Int) (A : Option Addr) (n c : Nat) (xs : List Im) (w : World) (h : Ims w (fun k => k < w.heap.size) A n c xs) (hf : FitsS xs) (hn : n ≤ 17592186044416) (hrn : r.name.length ≤ 140737488355328) :
    Calls Try.prog 6 #[symV r, .int .i64 skip, .slice A n c] w fun e w' => e = .returned (.bool true) ∧ Below w.heap.size w w' := by
  obtain rfl := h.len
  have hbx := box_below w r
  have HB1 := Lib.hid hbx
  have HR1 := Lib.hid (Sx.new w r)
  have HI1 := Lib.hid (h.lt hbx)
  have HF := Lib.hid hf
  clear hbx h hf
  go_enter Try.func6, Try.ntmps6
  go_upto_region 1 with (fail)
  change Code.wp _ _ _ _ (w.alloc (.cells (symA r) 25))
  generalize w.alloc (.cells (symA r) 25) = w1 at *
  go_upto_region 2 with (go_at_call 12; (with_reducible refine (awake_any _).mono ?_); rintro e w2 ⟨rfl, hb2⟩; have HR2 := Lib.hid (HR1.out.below hb2); have HI2 := Lib.hid (HI1.out.lt hb2); have HB2 := Lib.hid (HB1.out.trans (hb2.mono HB1.out.size)); clear hb2 HR1 HI1 HB1)
  have HRT := Lib.hid (fun (X : World) (hX : Ims X (fun k => k < X.heap.size) A xs.length c xs) => dright_any A xs.length c xs X hX HF.out hn)
  have HRI := Lib.hid (show rightsB xs = true → rightsB xs = true from id)
  by_cases hri : rightsB xs = true
  case neg =>
    have e : rightsB xs = false := by simpa using hri
    rw [e] at HRT
    clear hri e
    go_upto_region 3 with (go_at_call 23; (with_reducible refine (HRT.out _ HI2.out).mono ?_); rintro e w3 ⟨rfl, hb3⟩; have HR3 := Lib.hid (HR2.out.below hb3); have HI3 := Lib.hid (HI2.out.lt hb3); have HB3 := Lib.hid (HB2.out.trans (hb3.mono HB2.out.size)); clear HR2 HI2 HB2)
    go_wp2
    first | go_ret2 | go_ret | skip
    exact ⟨rfl, HB3.out⟩
  rw [hri] at HRT
  have HRI := Lib.hid hri
  clear hri
  go_upto_region 4 with (go_at_call 23; (with_reducible refine (HRT.out _ HI2.out).mono ?_); rintro e w3 ⟨rfl, hb3⟩; have HR3 := Lib.hid (HR2.out.below hb3); have HI3 := Lib.hid (HI2.out.lt hb3); have HB3 := Lib.hid (HB2.out.trans (hb3.mono HB2.out.size)); clear HR2 HI2 HB2; clear hb3)
  have HLK := Lib.hid (fun (X : World) (hX : Ims X (fun k => k < X.heap.size) A xs.length c xs) => look_any r skip A xs.length c xs X hX HF.out hn hrn)
  have HDK := Lib.hid (fun (X : World) (hX : Ims X (fun k => k < X.heap.size) A xs.length c xs) => linear_any r skip A xs.length c xs X hX HF.out (by omega))
  rw [rights_look HRI.out] at HDK
  generalize lookP (fun x => (tabI r x).1) skip 0 xs = L at *
  generalize numL (tabN r) skip xs (goneP (fun x => (tabI r x).1) skip 0 xs) = nl at *
  obtain ⟨y0, y1, y2, y3, y4, y5, y6, y7, y8⟩ := HR3.out.cells
  go_upto_region 5 with (go_at_call 13; (with_reducible refine (HLK.out _ HI3.out).mono ?_); rintro e w4 ⟨nb, rfl, -, hb4⟩; have HR4 := Lib.hid (HR3.out.below hb4); have HI4 := Lib.hid (HI3.out.lt hb4); have HB4 := Lib.hid (HB3.out.trans (hb4.mono HB3.out.size)); clear HR3 HI3 HB3)
  clear y0 y1 y2 y3 y4 y5 y6 y7 y8 hb4
  have hbx : Below w4.heap.size w4 (w4.alloc (.cells (fdA L) 29)) := (Below.refl _ _).alloc (Nat.le_refl _) _
  have HFA5 := Lib.hid (Bx.new w4 (fdA L) 29)
  have HR5 := Lib.hid (HR4.out.below hbx)
  have HI5 := Lib.hid (HI4.out.lt hbx)
  have HB5 := Lib.hid (HB4.out.trans (hbx.mono HB4.out.size))
  clear HR4 HI4 HB4
  clear hbx
  change Code.wp _ _ _ _ (w4.alloc (.cells (fdA L) 29))
  generalize (w4.alloc (.cells (fdA L) 29)) = w5 at *
  generalize w4.heap.size = g5 at *
  refine wp_region_held_drew (S := fun X => Below w5.drew.heap.size w5.drew X) (by kernel_rfl) (Below.refl _ _) (fun hHeld0 => ?_)
  have hd := drew_below w5
  have HR6 := Lib.hid (HR5.out.below hd)
  have HI6 := Lib.hid (HI5.out.lt hd)
  have HFA6 := Lib.hid (HFA5.out.below hd)
  have HB6 := Lib.hid (HB5.out.trans (hd.mono HB5.out.size))
  clear HR5 HI5 HFA5 HB5
  clear hd
  generalize w5.drew = w6 at *
  have a0 := HFA6.out.c 0
  have a1 := HFA6.out.c 1
  have a2 := HFA6.out.c 2
  have HEQ := Lib.hid (fun X => fd_eql L X)
  obtain ⟨l0, l1, l2⟩ := L
  refine take_at (i := 0) (d := 22) (v := (.bool true)) rfl rfl (by kernel_rfl) (by kernel_rfl) (by kernel_rfl) (fun _ _ _ h => h) (Or.inl ⟨by rfl, ?_⟩) (by assumption) ?_
  · intro X hX; go_simp
  (try simp only [Act.put, List.setIfInBounds_toArray, List.set_cons_zero, List.set_cons_succ])
  refine take_at (i := 1) (d := 23) (v := (.bool true)) rfl rfl (by kernel_rfl) (by kernel_rfl) (by kernel_rfl) (fun _ _ _ h => h) (Or.inl ⟨by rfl, ?_⟩) (by assumption) ?_
  · intro X hX; go_simp
  (try simp only [Act.put, List.setIfInBounds_toArray, List.set_cons_zero, List.set_cons_succ])
  refine take_at (i := 2) (d := 24) (v := (fdV (l0, l1, l2))) rfl rfl (by kernel_rfl) (by kernel_rfl) (by kernel_rfl) (fun _ _ _ h => h) (Or.inl ⟨by rfl, ?_⟩) (by assumption) ?_
  · intro X hX; have a0 := cell_below hX a0; have a1 := cell_below hX a1; have a2 := cell_below hX a2; go_simp
  (try simp only [Act.put, List.setIfInBounds_toArray, List.set_cons_zero, List.set_cons_succ])
  refine take_at (i := 3) (d := 25) (v := (symV r)) rfl rfl (by kernel_rfl) (by kernel_rfl) (by kernel_rfl) (fun _ _ _ h => h) (Or.inl ⟨by rfl, ?_⟩) (by assumption) ?_
  · intro X hX; obtain ⟨y0, y1, y2, y3, y4, y5, y6, y7, y8⟩ := (HR6.out.below hX).cells; go_simp
  (try simp only [Act.put, List.setIfInBounds_toArray, List.set_cons_zero, List.set_cons_succ])
  refine take_at (i := 4) (d := 26) (v := (.int .i64 skip)) rfl rfl (by kernel_rfl) (by kernel_rfl) (by kernel_rfl) (fun _ _ _ h => h) (Or.inl ⟨by rfl, ?_⟩) (by assumption) ?_
  · intro X hX; go_simp
  (try simp only [Act.put, List.setIfInBounds_toArray, List.set_cons_zero, List.set_cons_succ])
  refine take_at (i := 5) (d := 27) (v := (.slice A xs.length c)) rfl rfl (by kernel_rfl) (by kernel_rfl) (by kernel_rfl) (fun _ _ _ h => h) (Or.inl ⟨by rfl, ?_⟩) (by assumption) ?_
  · intro X hX; go_simp
  (try simp only [Act.put, List.setIfInBounds_toArray, List.set_cons_zero, List.set_cons_succ])
  refine wpAnyH_ready (rs := [6]) (by kernel_rfl) (by simp) ?_
  refine AllReadyH.cons rfl (fun K hK => ?_) AllReadyH.nil
  go_simp
  (with_reducible refine (HDK.out _ (HI6.out.lt hHeld0)).mono ?_)
  rintro e w7 ⟨rfl, hb7⟩
  have HB7 := Lib.hid hb7; clear hb7
  go_simp
  refine hK.out _ _ (hHeld0.trans (HB7.out.mono hHeld0.size)) (fun hHeld1 => ?_)
  clear hK K
  (try simp only [Act.put, List.setIfInBounds_toArray, List.set_cons_zero, List.set_cons_succ])
  refine take_at (i := 7) (d := 29) (v := (.bool true)) rfl rfl (by kernel_rfl) (by kernel_rfl) (by kernel_rfl) (fun _ _ _ h => h) (Or.inl ⟨by rfl, ?_⟩) (by assumption) ?_
  · intro X hX; have e := HEQ.out X; go_simp
  (try simp only [Act.put, List.setIfInBounds_toArray, List.set_cons_zero, List.set_cons_succ])
  refine take_at (i := 8) (d := 30) (v := (.bool true)) rfl rfl (by kernel_rfl) (by kernel_rfl) (by kernel_rfl) (fun _ _ _ h => h) (Or.inl ⟨by rfl, ?_⟩) (by assumption) ?_
  · intro X hX; go_simp
  (try simp only [Act.put, List.setIfInBounds_toArray, List.set_cons_zero, List.set_cons_succ])
  refine take_at (i := 9) (d := 31) (v := (.bool true)) rfl rfl (by kernel_rfl) (by kernel_rfl) (by kernel_rfl) (fun _ _ _ h => h) (Or.inl ⟨by rfl, ?_⟩) (by assumption) ?_
  · intro X hX; go_simp
  (try simp only [Act.put, List.setIfInBounds_toArray, List.set_cons_zero, List.set_cons_succ])
  refine take_at (i := 10) (d := 32) (v := (.slice (some ⟨nb, 0, none⟩) xs.length xs.length)) rfl rfl (by kernel_rfl) (by kernel_rfl) (by kernel_rfl) (fun _ _ _ h => h) (Or.inl ⟨by rfl, ?_⟩) (by assumption) ?_
  · intro X hX; go_simp
  (try simp only [Act.put, List.setIfInBounds_toArray, List.set_cons_zero, List.set_cons_succ])
  refine take_at (i := 11) (d := 33) (v := (.int .i64 (xs.length : Int))) rfl rfl (by kernel_rfl) (by kernel_rfl) (by kernel_rfl) (fun _ _ _ h => h) (Or.inl ⟨by rfl, ?_⟩) (by assumption) ?_
  · intro X hX; go_simp
  (try simp only [Act.put, List.setIfInBounds_toArray, List.set_cons_zero, List.set_cons_succ])
  refine take_at (i := 12) (d := 34) (v := (.slice A xs.length c)) rfl rfl (by kernel_rfl) (by kernel_rfl) (by kernel_rfl) (fun _ _ _ h => h) (Or.inl ⟨by rfl, ?_⟩) (by assumption) ?_
  · intro X hX; go_simp
  (try simp only [Act.put, List.setIfInBounds_toArray, List.set_cons_zero, List.set_cons_succ])
  refine take_at (i := 13) (d := 35) (v := (.int .i64 (xs.length : Int))) rfl rfl (by kernel_rfl) (by kernel_rfl) (by kernel_rfl) (fun _ _ _ h => h) (Or.inl ⟨by rfl, ?_⟩) (by assumption) ?_
  · intro X hX; go_simp
  (try simp only [Act.put, List.setIfInBounds_toArray, List.set_cons_zero, List.set_cons_succ])
  refine take_at (i := 14) (d := 36) (v := (.bool true)) rfl rfl (by kernel_rfl) (by kernel_rfl) (by kernel_rfl) (fun _ _ _ h => h) (Or.inl ⟨by rfl, ?_⟩) (by assumption) ?_
  · intro X hX; go_simp
  (try simp only [Act.put, List.setIfInBounds_toArray, List.set_cons_zero, List.set_cons_succ])
  refine take_at (i := 15) (d := 37) (v := (.bool true)) rfl rfl (by kernel_rfl) (by kernel_rfl) (by kernel_rfl) (fun _ _ _ h => h) (Or.inl ⟨by rfl, ?_⟩) (by assumption) ?_
  · intro X hX; go_simp
  (try simp only [Act.put, List.setIfInBounds_toArray, List.set_cons_zero, List.set_cons_succ])
  refine take_at (i := 16) (d := 6) (v := (.bool true)) rfl rfl (by kernel_rfl) (by kernel_rfl) (by kernel_rfl) (fun _ _ _ h => h) (Or.inl ⟨by rfl, ?_⟩) (by assumption) ?_
  · intro X hX; go_simp
  (try simp only [Act.put, List.setIfInBounds_toArray, List.set_cons_zero, List.set_cons_succ])
  refine wpAnyH_done (by kernel_rfl) ?_ _
  go_wp2
  first | go_ret2 | go_ret | skip
  exact ⟨rfl, HB6.out.trans (hHeld1.mono HB6.out.size)⟩
end Go.Proofs.Ytpcgedngikpnoaa
