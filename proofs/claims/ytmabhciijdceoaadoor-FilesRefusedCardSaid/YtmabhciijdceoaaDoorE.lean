/-
  The way that parts lead.
-/
import Derived.Test.YtmabhciijdceoaaDoorD
namespace Go.Proofs.YtmabhciijdceoaaDoor
open Go.RowKit Go.Maps

def lenOf : Value → Nat
  | .slice _ n _ => n
  | _ => 0
/-- A slice that reads as texts, and lies plainly. -/
structure Txt (w : World) (A : Option Addr) (c : Nat) (ps : List Str) : Prop where
  src : Src w (fun k => k < w.heap.size) A ps.length c (strs ps)
  plain : ∀ ad, A = some ad → ∃ b o, ad = ⟨b, o, none⟩
  lim : c ≤ 9223372036854775807
theorem Txt.nil (w : World) : Txt w none 0 [] := ⟨⟨rfl, fun _ => ⟨rfl, rfl⟩, Nat.le_refl _, (by intro ad h; cases h), (by intro ad h; cases h)⟩, (by intro ad h; cases h), by omega⟩
theorem Txt.below {w w' : World} {A : Option Addr} {c : Nat} {ps : List Str} (h : Txt w A c ps) (hb : Below w.heap.size w w') : Txt w' A c ps :=
  ⟨(h.src.below hb fun _ h => h).weak fun _ hk => Nat.lt_of_lt_of_le hk hb.size, h.plain, h.lim⟩
theorem own_lim {w : World} {B : Nat} {e : TypeId} {A : Option Addr} {n c : Nat} {xs : List Value} (h : w.ownsRow B e 1 (.slice A n c) n xs) : c ≤ 9223372036854775807 := by
  rcases h.2 with ⟨hv, hn⟩ | ⟨g, cap, cur, hv, hb, hg, h1, h2, h3, h4⟩
  · injection hv; omega
  · injection hv with _ _ hc
    subst hc
    have := h2
    simp only [maxLen] at *
    omega
theorem Txt.of_own {w : World} {B : Nat} {A : Option Addr} {c : Nat} {ps : List Str} (h : w.ownsRow B 9 1 (.slice A ps.length c) ps.length (strs ps)) : Txt w A c ps :=
  ⟨(Src.of_own h).weak fun _ hk => hk.2.2, fun ad hA => by
    rcases h.2 with ⟨hv, hn⟩ | ⟨g, cap, cur, hv, _⟩
    · injection hv with h1; rw [h1] at hA; cases hA
    · injection hv with h1; rw [h1] at hA; cases hA; exact ⟨_, _, rfl⟩, own_lim h⟩

theorem Txt.tail {w : World} {A : Option Addr} {c : Nat} {p : Str} {ps : List Str} (h : Txt w A c (p :: ps)) : ∃ b o, A = some ⟨b, o, none⟩ ∧ 1 ≤ c ∧ w.cell? ⟨b, o, none⟩ = some (str p) ∧ ∃ A', Txt w A' (c - 1) ps ∧
    ∀ w', (Instr.slice 41 (.slice (some ⟨b, o, none⟩) (ps.length + 1) c) (some (.int .i64 1)) none none).run Tryd.prog w' = .ok (.slice A' ps.length (c - 1)) w' := by
  have hc := h.src.cap
  simp only [List.length_cons] at hc
  obtain ⟨ad, rfl⟩ : ∃ ad, A = some ad := by
    cases A with
    | none => have := h.src.nil rfl; simp at this
    | some ad => exact ⟨ad, rfl⟩
  obtain ⟨b, o, rfl⟩ := h.plain ad rfl
  have hcell : w.cell? ((⟨b, o, none⟩ : Addr).add 0) = some (str p) := h.src.at_ _ rfl 0 _ rfl
  rw [show (⟨b, o, none⟩ : Addr).add 0 = ⟨b, o, none⟩ from rfl] at hcell
  refine ⟨b, o, rfl, by omega, hcell, if c = 1 then some ⟨b, o, none⟩ else some ⟨b, o + 1, none⟩, ⟨⟨by simp [strs], ?_, by omega, ?_, ?_⟩, ?_, ?_⟩, ?_⟩
  · intro hA; split at hA <;> cases hA
  · intro ad hA _
    have := World.block_lt_of_cell? w _ hcell
    split at hA <;> (cases hA; exact this)
  · intro ad hA j u hu
    have hj : j < ps.length := by have := (List.getElem?_eq_some_iff.1 hu).1; simpa [strs] using this
    have hne : ¬ c = 1 := by omega
    rw [if_neg hne] at hA
    cases hA
    have h1 := h.src.at_ _ rfl (j + 1) u (by simpa [strs] using hu)
    have e : (⟨b, o, none⟩ : Addr).add (j + 1) = (⟨b, o + 1, none⟩ : Addr).add j := by
      unfold Addr.add
      by_cases hj0 : j = 0
      · subst hj0; simp
      · simp [hj0]; omega
    rw [← e]; exact h1
  · intro ad hA; split at hA <;> (cases hA; exact ⟨_, _, rfl⟩)
  · have := h.lim; omega
  · intro w'
    have hz : (sizeOf (Tryd.prog.elem 41)).run Tryd.prog w' = .ok 1 w' := by kernel_rfl
    rw [run_slice_l (w := w') 41 (some ⟨b, o, none⟩) (ps.length + 1) c (by kernel_rfl) .i64 1 (by omega) (by omega), hz]
    simp only [Result.andThen, sliced]
    split
    · rename_i hc1
      rw [if_pos (by simpa using hc1)]
      simp
    · rename_i hc1
      rw [if_neg (by simpa using hc1)]
      simp [Addr.add]

theorem wayF_end (D : Dt) (f : Nat) (a : Str) (l : Nat) : wayF D f a l [] = (a, 0) := by cases f <;> rfl
theorem wayF_up (D : Dt) (f : Nat) (a : Str) (l : Nat) (ps : List Str) : wayF D (f + 1) a l (dots :: ps) = wayF D f (above a) l ps := by
  rw [wayF, if_pos rfl]
theorem wayF_none (D : Dt) (f : Nat) (a : Str) (l : Nat) (p : Str) (ps : List Str) (hp : p ≠ dots) (hk : (getD D (below a p)).kind = 0) : wayF D (f + 1) a l (p :: ps) = ([], 31) := by
  rw [wayF, if_neg hp]
  simp only
  rw [if_pos hk]
theorem wayF_loop (D : Dt) (f : Nat) (a : Str) (p : Str) (ps : List Str) (hp : p ≠ dots) (hk : (getD D (below a p)).kind = 3) : wayF D (f + 1) a 8 (p :: ps) = ([], 35) := by
  rw [wayF, if_neg hp]
  simp only
  rw [if_neg (by omega), if_pos hk]
  rfl
theorem wayF_link (D : Dt) (f : Nat) (a : Str) (l : Nat) (p : Str) (ps : List Str) (hp : p ≠ dots) (hk : (getD D (below a p)).kind = 3) (hl : l ≠ 8) :
    wayF D (f + 1) a l (p :: ps) = wayF D f (if isAbs (getD D (below a p)).text then rootS else a) (l + 1) ((partsOf (getD D (below a p)).text).getD [] ++ ps) := by
  rw [wayF, if_neg hp]
  simp only
  rw [if_neg (by omega), if_pos hk, if_neg hl]
theorem wayF_file (D : Dt) (f : Nat) (a : Str) (l : Nat) (p : Str) (ps : List Str) (hp : p ≠ dots) (hk : (getD D (below a p)).kind = 1) (hps : ps ≠ []) : wayF D (f + 1) a l (p :: ps) = ([], 34) := by
  rw [wayF, if_neg hp]
  simp only
  rw [if_neg (by omega), if_neg (by omega), if_pos ⟨hk, hps⟩]
theorem wayF_on (D : Dt) (f : Nat) (a : Str) (l : Nat) (p : Str) (ps : List Str) (hp : p ≠ dots) (h0 : (getD D (below a p)).kind ≠ 0) (h3 : (getD D (below a p)).kind ≠ 3) (h1 : (getD D (below a p)).kind = 1 → ps = []) :
    wayF D (f + 1) a l (p :: ps) = wayF D f (below a p) l ps := by
  rw [wayF, if_neg hp]
  simp only
  rw [if_neg h0, if_neg h3, if_neg (fun h => h.2 (h1 h.1))]

/-- The walk's state. -/
structure Way (w wr : World) (s : St) (ps0 : List Str) (a : Str) (l : Nat) (ps : List Str) (A : Option Addr) (c : Nat) (f : Nat) : Prop where
  txt : Txt wr A c ps
  parts : ∀ p ∈ ps, p.length ≤ 64
  links : l ≤ 8
  pos : 1 ≤ a.length
  len : a.length + 65 * ((8 - l) * 201 + ps.length) ≤ 117586
  fuel : (8 - l) * 201 + ps.length ≤ f
  eq : wayF s.d f a l ps = way s.d ps0
  below : Below w.heap.size w wr

set_option maxHeartbeats 1000000 in
set_option maxRecDepth 100000 in
theorem way_any (sb mb : Nat) (s : St) (A : Option Addr) (c : Nat) (ps : List Str) (w : World) (h : Sto w sb mb s) (ht : Txt w A c ps) (hn : ps.length ≤ 201) (hp : ∀ p ∈ ps, p.length ≤ 64) :
    Calls Tryd.prog 51 #[.pointer (some ⟨sb, 0, none⟩), .slice A ps.length c] w fun e w' => e = .returned (.tuple #[str (way s.d ps).1, .int .i64 (way s.d ps).2]) ∧ Below w.heap.size w w' := by
  have HS := Lib.hid h
  have HW := Lib.hid (show Way w w s ps rootS 0 ps A c 2000 from ⟨ht, hp, by omega, by decide, by simp; omega, by omega, rfl, Below.refl _ _⟩)
  generalize hr : way s.d ps = r
  have HR := Lib.hid hr
  clear h ht hp hr
  go_enter Tryd.func51, Tryd.ntmps51
  go_wp2_with fail
  go_loopw [1, 6, 7] (fun t1 t6 t7 wr => ∃ a l qs A c f, t1 = .slice A (List.length qs) c ∧ t6 = str a ∧ t7 = .int .i64 (l : Nat) ∧ Way w wr s ps a l qs A c f) (fun t1 _ t7 _ => (8 - (intOf t7).toNat) * 201 + lenOf t1)
  case atStart => exact ⟨rootS, 0, ps, A, c, 2000, rfl, rfl, rfl, HW.out⟩
  case round =>
    obtain ⟨a, l, qs, A, c, f, rfl, rfl, rfl, hw⟩ := hrel
    have HWA := Lib.hid hw
    clear hw HW hn
    cases qs with
    | nil =>
      have e := HWA.out.eq
      rw [wayF_end, HR.out] at e
      subst e
      go_wp2
      go_ret2
      exact ⟨rfl, HWA.out.below⟩
    | cons p qs =>
      obtain ⟨b, o, rfl, hc1, hcell, A', htl, hsl⟩ := HWA.out.txt.tail
      have hl8 := HWA.out.links
      have hlen := HWA.out.len
      have hpos := HWA.out.pos
      have hfu := HWA.out.fuel
      have hp64 := HWA.out.parts p (by simp)
      simp only [List.length_cons] at hlen hfu ⊢
      obtain ⟨f, rfl⟩ : ∃ g, f = g + 1 := ⟨f - 1, by omega⟩
      have HA := Lib.hid (fun w => above_any a w (by omega) hpos)
      have HBL := Lib.hid (fun w => below_any a p w (by omega))
      have HTL := Lib.hid htl
      have hps := fun q hq => HWA.out.parts q (List.mem_cons_of_mem p hq)
      have HPS := Lib.hid hps
      clear htl hps
      by_cases hd : p = dots
      · have heq := HWA.out.eq
        rw [hd, wayF_up] at heq
        have HE := Lib.hid heq
        have hd' : (p == [46, 46]) = true := by simpa using hd
        have hal := above_len a
        have hap := above_pos a hpos
        clear hd heq
        go_wp2_with (go_at_call 29; refine (HA.out _).mono ?_; rintro e w2 ⟨rfl, rfl⟩)
        go_round
        case rel => exact ⟨above a, l, qs, A', c - 1, f, rfl, rfl, rfl, HTL.out, HPS.out, hl8, hap, by omega, by omega, HE.out, HWA.out.below⟩
        case measure => simp [intOf, lenOf]
      · have hd' : (p == [46, 46]) = false := by simpa using hd
        have hS := HS.out.below HWA.out.below
        have hlk := hS.look (below a p) (by have := below_len a p; omega)
        have hsm := hlk.2
        have hrun := hlk.1
        have hc0 := hS.c0
        have hbl := below_len a p
        have hbp := below_pos a p
        have heq := HWA.out.eq
        have hml := hS.ml
        have HSZ := Lib.hid (show ∀ o, (wr.alloc o).heap.size = wr.heap.size + 1 from fun o => by simp)
        have HBW := Lib.hid HWA.out.below
        have HTL := Lib.hid HTL.out
        by_cases h0 : (getD s.d (below a p)).kind = 0
        · rw [wayF_none _ _ _ _ _ _ hd h0, HR.out] at heq
          subst heq
          generalize getD s.d (below a p) = t at *
          obtain ⟨kd, ti, tx⟩ := t
          simp only at h0
          subst h0
          unfold thv at hrun
          clear hlk hsm hS hml hd
          go_wp2_with (go_at_call 30; refine (HBL.out _).mono ?_; rintro e w2 ⟨rfl, rfl⟩)
          go_ret2
          exact ⟨rfl, HBW.out.alloc (HBW.out.size) _⟩
        · by_cases h3 : (getD s.d (below a p)).kind = 3
          · by_cases h8 : l = 8
            · subst h8
              rw [wayF_loop _ _ _ _ _ hd h3, HR.out] at heq
              subst heq
              generalize getD s.d (below a p) = t at *
              obtain ⟨kd, ti, tx⟩ := t
              simp only at h3
              subst h3
              unfold thv at hrun
              clear hlk hsm hS hml hd h0
              go_wp2_with (go_at_call 30; refine (HBL.out _).mono ?_; rintro e w2 ⟨rfl, rfl⟩)
              go_ret2
              exact ⟨rfl, HBW.out.alloc (HBW.out.size) _⟩
            · rw [wayF_link _ _ _ _ _ _ hd h3 h8] at heq
              have HE := Lib.hid heq
              clear heq
              generalize getD s.d (below a p) = t at *
              obtain ⟨kd, ti, tx⟩ := t
              simp only at h3 HE
              subst h3
              unfold thv at hrun
              have htx : tx.length ≤ 1048576 := by simpa [Th.small] using hsm
              have hba := (Below.refl wr.heap.size wr).alloc (Nat.le_refl _) (.cells #[.int .i64 3, .int .i64 ti, str tx] 59)
              have HBA := Lib.hid hba
              have HZ := Lib.hid (HSZ.out (.cells #[.int .i64 3, .int .i64 ti, str tx] 59))
              have HAB := Lib.hid (fun w => isAbs_any tx w)
              have HPO := Lib.hid (partsOf_any tx (wr.alloc (.cells #[.int .i64 3, .int .i64 ti, str tx] 59)) (by omega) (hml.below hba hml.pos))
              have hah : ((partsOf tx).getD []).length ≤ 201 ∧ ∀ q ∈ (partsOf tx).getD [], q.length ≤ 64 := by
                cases hpo : partsOf tx with
                | none => simp
                | some l => exact ⟨(partsOf_ok hpo).2.1, fun q hq => ((partsOf_ok hpo).2.2 q hq).1⟩
              have HAH := Lib.hid hah
              have HSL := Lib.hid hsl
              have hTA := (HTL.out.below hba)
              have HTA := Lib.hid hTA
              obtain ⟨i0, hi0, hz0, hz1, hz2⟩ := info_parts Tryd.info_string
              clear hlk hsm hS hml hd h0 hba hah hTA
              cases hab : isAbs tx
              all_goals
                rw [hab] at HAB HE
                go_wp2_with (first | (go_at_call 30; refine (HBL.out _).mono ?_; rintro e w2 ⟨rfl, rfl⟩) | (go_at_call 48; refine (HAB.out _).mono ?_; rintro e w2 ⟨rfl, rfl⟩) | fail)
                refine HPO.out.mono ?_
                generalize wr.alloc (.cells #[.int .i64 3, .int .i64 ti, str tx] 59) = wa at *
                rintro e w2 ⟨hb2, ho2⟩
                have hu : ∃ A1 c1 ok, e = .returned (.tuple #[.slice A1 ((partsOf tx).getD []).length c1, .bool ok]) ∧ w2.ownsRow wa.heap.size 9 1 (.slice A1 ((partsOf tx).getD []).length c1) ((partsOf tx).getD []).length (strs ((partsOf tx).getD [])) := by
                  cases hpo : partsOf tx with
                  | none =>
                    rw [hpo] at ho2
                    exact ⟨none, 0, false, ho2, World.ownsRow_nil _ _ _ _⟩
                  | some l =>
                    rw [hpo] at ho2
                    obtain ⟨A1, c1, he, ho⟩ := ho2
                    exact ⟨A1, c1, true, he, ho⟩
                clear ho2
                obtain ⟨A1, c1, ok, rfl, ho⟩ := hu
                generalize (partsOf tx).getD [] = ah at *
                have HO := Lib.hid ho
                have HT2 := Lib.hid (HTA.out.below hb2)
                have HB2 := Lib.hid hb2
                have h1 := strs_one qs
                have hah := HAH.out.1
                clear ho hb2 HAB HPO
                go_wp2_with (at_builtin; refine wpList_append_src rfl (.tmp 62) (.tmp 63) 41 rfl wa.heap.size 9 i0 (.string ⟨#[]⟩) 16 Tryd.underlying41 hi0 hz0 hz1 hz2 rfl (.slice A1 ah.length c1) ah.length (strs ah) rfl HO.out _ A' qs.length (c - 1) (strs qs) rfl HT2.out.src h1 (by simp only [maxLen]; omega) (by omega) HB2.out.size ?_; intro v' w3 hown hg hat; obtain ⟨A3, c3, rfl⟩ := own_slice hown; have HO3 := Lib.hid hown; have HG3 := Lib.hid hg; clear hown hg hat)
                go_round
                case rel =>
                  have HO4 : w3.ownsRow wa.heap.size 9 1 (.slice A3 (ah ++ qs).length c3) (ah ++ qs).length (strs (ah ++ qs)) := by
                    rw [List.length_append, strs_app]
                    exact HO3.out
                  have hlo : ∀ j, row A1 = some j → wa.heap.size ≤ j := fun j hj => (HO.out.lt j (by rw [row_own]; exact hj)).1
                  have hbe : Below w.heap.size w w3 := (((HBW.out.trans (HBA.out.mono HBW.out.size)).trans (HB2.out.mono (by have := HBW.out.size; have := HBA.out.size; omega))).grown HG3.out (by have := HBW.out.size; have := HBA.out.size; have := HB2.out.size; omega) (fun j hj => by
                    rw [row_own] at hj
                    have := hlo j hj
                    have := HBW.out.size
                    have := HBA.out.size
                    omega))
                  exact ⟨_, l + 1, ah ++ qs, A3, c3, f, by rw [List.length_append], rfl, by go_num, Txt.of_own HO4, fun q hq => (by
                    rcases List.mem_append.1 hq with h | h
                    · exact HAH.out.2 q h
                    · exact HPS.out q h), by omega, (by first | decide | exact hpos), (by simp only [List.length_append, List.length_cons, List.length_nil] at *; omega), (by simp only [List.length_append] at *; omega), HE.out, hbe⟩
                case measure => simp [intOf, lenOf]; omega
          · by_cases h1 : (getD s.d (below a p)).kind = 1 ∧ qs ≠ []
            · rw [wayF_file _ _ _ _ _ _ hd h1.1 h1.2, HR.out] at heq
              subst heq
              have hq0 : 0 < qs.length := List.length_pos_iff.2 h1.2
              have h1 := h1.1
              generalize getD s.d (below a p) = t at *
              obtain ⟨kd, ti, tx⟩ := t
              simp only at h1
              subst h1
              unfold thv at hrun
              clear hlk hsm hS hml hd h0 h3
              go_wp2_with (go_at_call 30; refine (HBL.out _).mono ?_; rintro e w2 ⟨rfl, rfl⟩)
              go_ret2
              exact ⟨rfl, HBW.out.alloc (HBW.out.size) _⟩
            · have h1 : (getD s.d (below a p)).kind = 1 → qs = [] := fun h => Classical.byContradiction fun hq => h1 ⟨h, hq⟩
              rw [wayF_on _ _ _ _ _ _ hd h0 h3 h1] at heq
              have HE := Lib.hid heq
              have H1 := Lib.hid h1
              clear heq h1
              generalize getD s.d (below a p) = t at *
              obtain ⟨kd, ti, tx⟩ := t
              simp only at h0 h3 H1
              unfold thv at hrun
              generalize below a p = a' at *
              have HBN := Lib.hid (HBW.out.alloc (HBW.out.size) (.cells #[.int .i64 kd, .int .i64 ti, str tx] 59))
              have HTN := Lib.hid (HTL.out.below ((Below.refl _ _).alloc (Nat.le_refl _) (.cells #[.int .i64 kd, .int .i64 ti, str tx] 59)))
              clear hlk hsm hS hml hd
              by_cases hk1 : kd = 1
              · have hq0 : ¬ 0 < qs.length := by rw [H1.out hk1]; simp
                subst hk1
                go_wp2_with (go_at_call 30; refine (HBL.out _).mono ?_; rintro e w2 ⟨rfl, rfl⟩)
                go_round
                case rel => exact ⟨a', l, qs, A', c - 1, f, rfl, rfl, rfl, HTN.out, HPS.out, hl8, hbp, by omega, by omega, HE.out, HBN.out⟩
                case measure => simp [intOf, lenOf]
              · go_wp2_with (go_at_call 30; refine (HBL.out _).mono ?_; rintro e w2 ⟨rfl, rfl⟩)
                go_round
                case rel => exact ⟨a', l, qs, A', c - 1, f, rfl, rfl, rfl, HTN.out, HPS.out, hl8, hbp, by omega, by omega, HE.out, HBN.out⟩
                case measure => simp [intOf, lenOf]
end Go.Proofs.YtmabhciijdceoaaDoor
