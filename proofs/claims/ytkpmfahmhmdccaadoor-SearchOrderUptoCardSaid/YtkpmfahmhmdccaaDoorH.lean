/-
  What the document is told: an environment, copied.
-/
import Derived.Test.YtkpmfahmhmdccaaDoorA
import Derived.Deep.Cut
import Derived.Deep.AppendLies
import Derived.Deep.RegionLaw
namespace Go.Proofs.YtkpmfahmhmdccaaDoor
open Go.RowKit

/-- The cells of n elements, one behind the other. -/
def flatE (E : Nat → Array Value) : Nat → List Value
  | 0 => []
  | n + 1 => flatE E n ++ (E n).toList
theorem flatE_len {E : Nat → Array Value} {sz : Nat} : ∀ n, (∀ i, i < n → (E i).size = sz) → (flatE E n).length = n * sz
  | 0, _ => by simp [flatE]
  | n + 1, h => by
    show (flatE E n ++ (E n).toList).length = _
    rw [List.length_append, flatE_len n (fun i hi => h i (by omega)), Array.length_toList, h n (by omega), Nat.succ_mul]
theorem flatE_get {E : Nat → Array Value} {sz : Nat} : ∀ n, (∀ i, i < n → (E i).size = sz) → ∀ k, k < n → ∀ j u, (E k)[j]? = some u → (flatE E n)[k * sz + j]? = some u
  | 0, _, k, hk, _, _, _ => by omega
  | n + 1, h, k, hk, j, u, hu => by
    have hl := flatE_len n (fun i hi => h i (by omega))
    show (flatE E n ++ (E n).toList)[k * sz + j]? = some u
    have hj : j < (E k).size := (Array.getElem?_eq_some_iff.1 hu).1
    rw [h k hk] at hj
    rcases Nat.lt_or_ge k n with hkn | hkn
    · have h1 : (k + 1) * sz ≤ n * sz := Nat.mul_le_mul_right _ hkn
      rw [Nat.succ_mul] at h1
      rw [List.getElem?_append_left (by rw [hl]; omega)]
      exact flatE_get n (fun i hi => h i (by omega)) k hkn j u hu
    · obtain rfl : k = n := by omega
      rw [List.getElem?_append_right (by rw [hl]; omega), hl, Nat.add_sub_cancel_left]
      simpa using hu
/-- Elements of a row of the call's own can be read. -/
theorem els_of_own {w : World} {base n c sz : Nat} {e : TypeId} {A : Option Addr} {E : Nat → Array Value} (hE : ∀ i, i < n → (E i).size = sz) (h : w.ownsRow base e sz (.slice A n c) n (flatE E n)) : Els w (fun k => base ≤ k ∧ k < w.heap.size) A n c sz E := by
  refine ⟨fun hA => ?_, ?_, fun ad hA _ => ?_, fun ad hA k hk j u hu => ?_⟩
  · subst hA
    rcases h.2 with ⟨hv, h0⟩ | ⟨g, cap, cur, hv, _⟩
    · injection hv with _ _ hc
      exact ⟨h0, hc⟩
    · injection hv with h1; cases h1
  · rcases h.2 with ⟨hv, h0⟩ | ⟨g, cap, cur, hv, _, _, hle, _⟩
    · omega
    · injection hv with _ _ hc; subst hc; exact hle
  · subst hA
    exact h.lt ad.block rfl
  · subst hA
    rcases h.2 with ⟨hv, h0⟩ | ⟨g, cap, cur, hv, _⟩
    · cases hv
    · have q := h.cells (g := ad.block) rfl
      injection hv with h1
      injection h1 with h1
      subst h1
      exact q _ u (flatE_get n hE k hk j u hu)
theorem results_cell_one {fn : Func} {p : Tmp} {ty : TypeId} (h : fn.results = #[.cell p ty]) (tmps : Array Value) (P : Program) (w : World) :
    (results fn tmps).run P w = ((asAddr (tmps.getD p undef)).run P w).andThen fun a w₁ => (loadVar ty a).run P w₁ := by
  simp only [results, h]
  simp [Sem.run_bind, Result.andThen]
abbrev knE (kn : List (Str × Str)) (k : Nat) : Array Value := knA (kn.getD k noKn)
theorem knE_size (kn : List (Str × Str)) : ∀ n i, i < n → (knE kn i).size = 2 := fun _ _ _ => rfl

/-- A copy that is made one by one: in the box g. -/
structure En (w w3 : World) (g : Nat) (v : Value) (kn : List (Str × Str)) (wr : World) (k : Nat) (A' : Option Addr) (c' : Nat) : Prop where
  kp : Kept (fun q => q < w3.heap.size ∧ q ≠ g) w3 wr
  box : Bx wr g #[v, .slice A' k c'] 36
  own : wr.ownsRow w3.heap.size 48 2 (.slice A' k c') k (flatE (knE kn) k)
theorem kn_get' {kn : List (Str × Str)} {k : Nat} (hk : k < kn.length) : kn.getD k noKn = kn[k] := by simp [List.getD, hk]
theorem En.grown {w w3 wr w' w5 : World} {g k c' : Nat} {v : Value} {kn : List (Str × Str)} {A' : Option Addr} (h : En w w3 g v kn wr k A' c') (hg : g < w3.heap.size) (hb : Below wr.heap.size wr w') (hr : w'.grownBy w5 (Value.slice A' k c').ownBlock) :
    Bx w5 g #[v, .slice A' k c'] 36 ∧ Kept (fun q => q < w3.heap.size ∧ q ≠ g) w3 w5 := by
  have hs := h.kp.size
  have hbs := hb.size
  have hne : ∀ q, q < w3.heap.size → some q ≠ (Value.slice A' k c').ownBlock := fun q hq e => by
    have := (h.own.lt q e.symm).1
    omega
  refine ⟨(h.box.below hb).keep (hr.block g (by omega) (hne g hg)), ?_⟩
  exact ⟨hr.os.trans (hb.os.trans h.kp.os), hr.tape.trans (hb.tape.trans h.kp.tape), hr.output.trans (hb.output.trans h.kp.output), Nat.le_trans hs (Nat.le_trans hbs hr.size), fun q hq => by
    rw [hr.block q (by have := hq.1; omega) (hne q hq.1), hb.block q (by have := hq.1; omega)]
    exact h.kp.block q hq⟩
theorem En.push {w w3 wr w' w5 : World} {g k g5 c5 c' : Nat} {v : Value} {kn : List (Str × Str)} {A' : Option Addr} (h : En w w3 g v kn wr k A' c') (hg : g < w3.heap.size) (hb : Below wr.heap.size wr w') (hr : w'.grownBy w5 (Value.slice A' k c').ownBlock)
    (ho : w5.ownsRow w3.heap.size 48 2 (.slice (some ⟨g5, 0, none⟩) (k + 1) c5) (k + 1) (flatE (knE kn) k ++ (knE kn k).toList)) :
    En w w3 g v kn (w5.setCell ⟨g, 1, none⟩ (.slice (some ⟨g5, 0, none⟩) (k + 1) c5)) (k + 1) (some ⟨g5, 0, none⟩) c5 := by
  obtain ⟨h1, h2⟩ := h.grown hg hb hr
  have hge := (ho.lt g5 rfl).1
  refine ⟨?_, ?_, ?_⟩
  · refine h2.trans ⟨rfl, rfl, rfl, by simp [World.setCell], fun q hq => ?_⟩
    exact Below.heap_setCell w5 ⟨g, 1, none⟩ _ q hq.2
  · exact heap_setCell_same w5 g 1 _ _ _ h1
  · refine ho.kept (row := some g) ⟨rfl, rfl, rfl, by simp [World.setCell], fun q _ hne => Below.heap_setCell w5 ⟨g, 1, none⟩ _ q (fun e => hne (by rw [e]))⟩ (.inr ?_)
    intro e
    have e2 : g5 = g := by injection e
    omega
theorem known_parts : ∃ i0 z, Tryd.prog.info? 48 = some i0 ∧ i0.zero = some z ∧ z.cells.size = 2 ∧ i0.size = 2 ∧ i0.bytes = 32 := by
  have h : (Tryd.prog.info? 48).map (fun i => (i.zero, i.size, i.bytes)) = some (some (.agg #[.string ⟨#[]⟩, .string ⟨#[]⟩]), 2, 32) := by kernel_rfl
  cases hq : Tryd.prog.info? 48 with
  | none => rw [hq] at h; cases h
  | some i =>
    rw [hq] at h
    simp only [Option.map_some, Option.some.injEq, Prod.mk.injEq] at h
    exact ⟨i, _, rfl, h.1, by kernel_rfl, h.2⟩
set_option maxRecDepth 100000 in
set_option maxHeartbeats 4000000 in
theorem env_any (Q : Nat → Prop) (A2 A3 : Option Addr) (c2 c3 : Nat) (n2 : Nat) (kn : List (Str × Str)) (w : World) (h : Kns w Q A3 kn.length c3 kn) (hQ : ∀ k, Q k → k < w.heap.size) (hn : kn.length ≤ 4398046511000) :
    Calls Tryd.prog 10 #[.agg #[.slice A2 n2 c2, .slice A3 kn.length c3]] w fun e w' => ∃ A' c', e = .returned (.agg #[.slice A2 n2 c2, .slice A' kn.length c']) ∧ Kns w' (fun k => w.heap.size ≤ k ∧ k < w'.heap.size) A' kn.length c' kn ∧ Below w.heap.size w w' := by
  have HE := Lib.hid h.2
  have HQ := Lib.hid hQ
  have hcap := h.2.cap
  clear h hQ
  obtain ⟨i0, z, hi0, hz0, hzs, hz1, hz2⟩ := known_parts
  go_enter Tryd.func10, Tryd.ntmps10
  go_upto_region 2 with (fail)
  have q1 := Bx.new w #[.slice A2 n2 c2, .slice A3 kn.length c3] 25
  have q2 := Bx.new (w.alloc (.cells #[.slice A2 n2 c2, .slice A3 kn.length c3] 25)) #[.slice none 0 0, .slice none 0 0] 36
  have q3 := Bx.new ((w.alloc (.cells #[.slice A2 n2 c2, .slice A3 kn.length c3] 25)).alloc (.cells #[.slice none 0 0, .slice none 0 0] 36)) #[.slice A2 n2 c2, .slice none 0 0] 36
  have p1 := (q1.alloc (.cells #[.slice none 0 0, .slice none 0 0] 36)).alloc (.cells #[.slice A2 n2 c2, .slice none 0 0] 36)
  have p2 := q2.alloc (.cells #[.slice A2 n2 c2, .slice none 0 0] 36)
  have hb3 := (((Below.refl w.heap.size w).alloc (Nat.le_refl _) (.cells #[.slice A2 n2 c2, .slice A3 kn.length c3] 25)).alloc (by simp) (.cells #[.slice none 0 0, .slice none 0 0] 36)).alloc (by simp; omega) (.cells #[.slice A2 n2 c2, .slice none 0 0] 36)
  have hs3 : (((w.alloc (.cells #[.slice A2 n2 c2, .slice A3 kn.length c3] 25)).alloc (.cells #[.slice none 0 0, .slice none 0 0] 36)).alloc (.cells #[.slice A2 n2 c2, .slice none 0 0] 36)).heap.size = w.heap.size + 3 := by simp
  rw [show (w.alloc (.cells #[.slice A2 n2 c2, .slice A3 kn.length c3] 25)).heap.size = w.heap.size + 1 by simp] at p2
  rw [show ((w.alloc (.cells #[.slice A2 n2 c2, .slice A3 kn.length c3] 25)).alloc (.cells #[.slice none 0 0, .slice none 0 0] 36)).heap.size = w.heap.size + 1 + 1 by simp] at q3
  clear q1 q2
  change Code.wp _ _ _ _ (((w.alloc (.cells #[.slice A2 n2 c2, .slice A3 kn.length c3] 25)).alloc (.cells #[.slice none 0 0, .slice none 0 0] 36)).alloc (.cells #[.slice A2 n2 c2, .slice none 0 0] 36))
  generalize ((w.alloc (.cells #[.slice A2 n2 c2, .slice A3 kn.length c3] 25)).alloc (.cells #[.slice none 0 0, .slice none 0 0] 36)).alloc (.cells #[.slice A2 n2 c2, .slice none 0 0] 36) = w3 at *
  have HX1 := Lib.hid p1
  have HX2 := Lib.hid p2
  have HB3 := Lib.hid hb3
  have HS3 := Lib.hid hs3
  have hg : w.heap.size + 1 + 1 < w3.heap.size := by omega
  have hst : En w w3 (w.heap.size + 1 + 1) (.slice A2 n2 c2) kn w3 0 none 0 := ⟨Kept.refl _ _, q3, World.ownsRow_nil _ _ _ _⟩
  have HST := Lib.hid hst
  clear p1 p2 q3 hb3 hs3 hst
  go_wp2_with fail
  go_loopw [4] (fun t wr => ∃ (k : Nat) (A' : Option Addr) (c' : Nat), k ≤ kn.length ∧ t = .int .i64 (k : Int) ∧ En w w3 (w.heap.size + 1 + 1) (.slice A2 n2 c2) kn wr k A' c') (fun t _ => kn.length - (intOf t).toNat)
  case atStart => exact ⟨0, none, 0, Nat.zero_le _, rfl, HST.out⟩
  case round =>
    obtain ⟨k, A', c', hk, rfl, hen⟩ := hrel
    have HEN := Lib.hid hen
    have hs3 := HS3.out
    have x1 : wr.cell? ⟨w.heap.size, 1, none⟩ = some (.slice A3 kn.length c3) := (HX1.out.keep (hen.kp.block _ ⟨by omega, by omega⟩)).c 1
    by_cases hlt : k < kn.length
    · obtain ⟨ad, rfl⟩ : ∃ ad, A3 = some ad := by
        cases A3 with
        | none => have := (HE.out.nil rfl).1; omega
        | some ad => exact ⟨ad, rfl⟩
      have hel : Els wr Q (some ad) kn.length c3 2 (knE kn) := HE.out.keep (fun j hj _ => (hen.kp.block j ⟨by have := HQ.out j hj; omega, by have := HQ.out j hj; omega⟩).trans (HB3.out.block j (HQ.out j hj)))
      obtain ⟨b, of, rfl⟩ := hel.plain (by omega) rfl
      have e0 : wr.cell? ⟨b, of + k * 2, none⟩ = some (str kn[k].1) := hel.get k hlt 0 (str kn[k].1) (by rw [knE, kn_get' hlt]; rfl)
      have e1 : wr.cell? ⟨b, of + k * 2 + 1, none⟩ = some (str kn[k].2) := hel.get k hlt 1 (str kn[k].2) (by rw [knE, kn_get' hlt]; rfl)
      have o0 := hen.box.c 0
      have o1 : wr.cell? ⟨w.heap.size + 1 + 1, 1, none⟩ = some (.slice A' k c') := hen.box.c 1
      have HKE := Lib.hid (show (knE kn k).toList = [str kn[k].1, str kn[k].2] by rw [knE, kn_get' hlt])
      generalize kn[k] = x at *
      obtain ⟨a, p⟩ := x
      simp only at *
      have x1a : ∀ o, (wr.alloc o).cell? ⟨w.heap.size, 1, none⟩ = some (.slice (some ⟨b, of, none⟩) kn.length c3) := Fil.cell_alloc x1
      have e0a : ∀ o, (wr.alloc o).cell? ⟨b, of + k * 2, none⟩ = some (str a) := Fil.cell_alloc e0
      have e1a : ∀ o, (wr.alloc o).cell? ⟨b, of + k * 2 + 1, none⟩ = some (str p) := Fil.cell_alloc e1
      have o1a : ∀ o, (wr.alloc o).cell? ⟨w.heap.size + 1 + 1, 1, none⟩ = some (.slice A' k c') := Fil.cell_alloc o1
      have x1d : wr.drew.cell? ⟨w.heap.size, 1, none⟩ = some (.slice (some ⟨b, of, none⟩) kn.length c3) := x1
      have e0d : wr.drew.cell? ⟨b, of + k * 2, none⟩ = some (str a) := e0
      have e1d : wr.drew.cell? ⟨b, of + k * 2 + 1, none⟩ = some (str p) := e1
      have o1d : wr.drew.cell? ⟨w.heap.size + 1 + 1, 1, none⟩ = some (.slice A' k c') := o1
      have x1b : ∀ o, (wr.drew.alloc o).cell? ⟨w.heap.size, 1, none⟩ = some (.slice (some ⟨b, of, none⟩) kn.length c3) := Fil.cell_alloc x1d
      have e0b : ∀ o, (wr.drew.alloc o).cell? ⟨b, of + k * 2, none⟩ = some (str a) := Fil.cell_alloc e0d
      have e1b : ∀ o, (wr.drew.alloc o).cell? ⟨b, of + k * 2 + 1, none⟩ = some (str p) := Fil.cell_alloc e1d
      have o1b : ∀ o, (wr.drew.alloc o).cell? ⟨w.heap.size + 1 + 1, 1, none⟩ = some (.slice A' k c') := Fil.cell_alloc o1d
      have hbd : Below wr.heap.size wr wr.drew := drew_below wr
      have HBW := Lib.hid (hbd.alloc hbd.size (.cells #[str a, str p] 48))
      have HOW := Lib.hid (Fil.own_below_sz hen.own HBW.out)
      have HNW := Lib.hid (cells_new wr.drew [str a, str p] 48)
      have HGB := Lib.hid (fun (w5 : World) (hr : (wr.drew.alloc (.cells #[str a, str p] 48)).grownBy w5 (Value.slice A' k c').ownBlock) => hen.grown hg HBW.out hr)
      have hbs := hen.kp.size
      clear hen hel
      go_wp2_with fail
      go_region_law (refine step_append_lies _ rfl (.tmp 16) (.tmp 30) 34 rfl w3.heap.size 48 i0 z 2 32 Tryd.underlying34 hi0 hz0 hz1 hz2 hzs (by omega) (.slice A' k c') k (flatE (knE kn) k) (by rfl) (by exact HOW.out) ⟨wr.drew.heap.size, 0, none⟩ 1 1 [str a, str p] (by rfl) rfl (by exact HNW.out) (by intro u hu; simp at hu; rcases hu with rfl | rfl <;> rfl) (by omega) (by simp only [maxLen]; omega) (by omega) (by simp [World.drew]; omega) (wr.heap.size + 1) (by simp [World.drew]) ?_; intro g5 c5 w5 hown hgr hat hlt5; obtain ⟨r1, r2⟩ := HGB.out w5 hgr; have r3 := r1.c 1; have r4 := r1.f 1; have HO5 := Lib.hid hown; have HG5 := Lib.hid hgr; clear hown hgr hat r1 r2)
      all_goals
        rw [← HKE.out] at HO5
        have HE5 := Lib.hid (HEN.out.push hg HBW.out HG5.out HO5.out)
        go_wp2_with fail
        go_roundw
        case rel => exact ⟨k + 1, _, _, by omega, by go_num, HE5.out⟩
        case measure => simp [intOf]; omega
    · obtain rfl : k = kn.length := by omega
      have o0 : wr.cell? ⟨w.heap.size + 1 + 1, 0, none⟩ = some (.slice A2 n2 c2) := hen.box.c 0
      have o1 : wr.cell? ⟨w.heap.size + 1 + 1, 1, none⟩ = some (.slice A' kn.length c') := hen.box.c 1
      have hx2 : Bx wr (w.heap.size + 1) #[.slice none 0 0, .slice none 0 0] 36 := HX2.out.keep (hen.kp.block _ ⟨by omega, by omega⟩)
      have u0 := hx2.c 0
      have u1 := hx2.c 1
      have v0 := hx2.f 0
      have v1 := hx2.f 1
      simp only [List.getElem?_toArray, List.getElem?_cons_succ, List.getElem?_cons_zero] at u0 u1
      clear hen hx2
      go_upto_region 99 with (fail)
      have hW : ∀ q, q ≠ w.heap.size + 1 → ((wr.setCell ⟨w.heap.size + 1, 0, none⟩ (.slice A2 n2 c2)).setCell ⟨w.heap.size + 1, 1, none⟩ (.slice A' kn.length c')).heap[q]? = wr.heap[q]? := fun q hq => by
        rw [Below.heap_setCell _ ⟨w.heap.size + 1, 1, none⟩ _ q hq, Below.heap_setCell _ ⟨w.heap.size + 1, 0, none⟩ _ q hq]
      have hbw : Below w.heap.size w wr := HB3.out.trans ⟨HEN.out.kp.os, HEN.out.kp.tape, HEN.out.kp.output, HEN.out.kp.size, fun q hq => HEN.out.kp.block q ⟨by omega, by omega⟩⟩
      refine bodyPost_ret (v := .agg #[.slice A2 n2 c2, .slice A' kn.length c']) ?_ rfl ⟨A', c', rfl, ⟨rfl, ?_⟩, ?_⟩
      · rw [results_cell_one rfl]
        go_simp
      · refine ((els_of_own (knE_size kn kn.length) HEN.out.own).keep fun q hq _ => hW q (by have := hq.1; omega)).weak fun q hq => ?_
        have h1 := hq.1
        have h2 := hq.2
        exact ⟨by omega, by simp [World.setCell]; omega⟩
      · exact (hbw.setCell (p := ⟨w.heap.size + 1, 0, none⟩) (Nat.le_succ _) _).setCell (p := ⟨w.heap.size + 1, 1, none⟩) (Nat.le_succ _) _
end Go.Proofs.YtkpmfahmhmdccaaDoor
