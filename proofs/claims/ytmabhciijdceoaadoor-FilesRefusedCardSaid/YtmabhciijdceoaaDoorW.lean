/-
  Each place that is in use stands in a directory; a file that is put is where it was put.
-/
import Derived.Test.YtmabhciijdceoaaDoorV
import Derived.Test.YtmabhciijdceoaaDoorM
namespace Go.Proofs.YtmabhciijdceoaaDoor
open Go.RowKit Go.Maps Go.Sort

structure Tree (D : Dt) : Prop where
  root : (getD D rootS).kind = 2
  up : ∀ k, (getD D k).kind ≠ 0 → (getD D (above k)).kind = 2
  kinds : ∀ k, (getD D k).kind = 0 ∨ (getD D k).kind = 1 ∨ (getD D k).kind = 2 ∨ (getD D k).kind = 3
theorem above_root : above rootS = rootS := by decide +kernel
theorem above_below (a z : Str) (h : 1 ≤ a.length) (hz : 47 ∉ z) : above (below a z) = a := by
  unfold below
  split
  · rename_i h0
    subst h0
    have := lastSlash_app [] z hz
    simp only [List.nil_append, List.length_nil] at this
    rw [above, this]
    rfl
  · rw [above, lastSlash_app _ _ hz]
    have : (max (a.length : Int) 1).toNat = a.length := by omega
    rw [this]
    simp
theorem below_two (a z : Str) (h : 1 ≤ a.length) (hz : z ≠ []) : a.length < (below a z).length ∧ below a z ≠ rootS := by
  have hz1 : 1 ≤ z.length := by
    cases z with
    | nil => exact absurd rfl hz
    | cons _ _ => simp
  have h1 : a.length < (below a z).length := by
    unfold below
    split
    · rename_i h0; subst h0; simp; omega
    · simp
  refine ⟨h1, fun e => ?_⟩
  have h2 : a.length < 1 := by rw [e] at h1; exact h1
  omega
theorem below_ne (a z : Str) (h : 1 ≤ a.length) (hz : z ≠ []) : below a z ≠ a := fun e => by
  have := (below_two a z h hz).1
  rw [e] at this
  omega
/-- A way begun where something stands ends at a directory or a file. -/
theorem wayF_kind {D : Dt} (hT : Tree D) : ∀ (f : Nat) (a : Str) (l : Nat) (ps : List Str) (e : Str), wayF D f a l ps = (e, 0) → ((getD D a).kind = 2 ∨ ((getD D a).kind = 1 ∧ ps = [])) → (getD D e).kind = 2 ∨ (getD D e).kind = 1
  | f, a, l, [], e, h, ha => by
    rw [wayF_end] at h
    injection h with h
    subst h
    rcases ha with ha | ha
    · exact .inl ha
    · exact .inr ha.1
  | 0, a, l, p :: ps, e, h, _ => by simp [wayF] at h
  | f + 1, a, l, p :: ps, e, h, ha => by
    have ha2 : (getD D a).kind = 2 := by
      rcases ha with ha | ha
      · exact ha
      · cases ha.2
    by_cases hd : p = dots
    · subst hd
      rw [wayF_up] at h
      exact wayF_kind hT f _ l ps e h (.inl (hT.up a (by omega)))
    · by_cases h0 : (getD D (below a p)).kind = 0
      · rw [wayF_none D f a l p ps hd h0] at h; simp at h
      · by_cases h3 : (getD D (below a p)).kind = 3
        · by_cases h8 : l = 8
          · subst h8; rw [wayF_loop D f a p ps hd h3] at h; simp at h
          · rw [wayF_link D f a l p ps hd h3 h8] at h
            refine wayF_kind hT f _ (l + 1) _ e h (.inl ?_)
            split
            · exact hT.root
            · exact ha2
        · by_cases h1 : (getD D (below a p)).kind = 1 ∧ ps ≠ []
          · rw [wayF_file D f a l p ps hd h1.1 h1.2] at h; simp at h
          · have hps : (getD D (below a p)).kind = 1 → ps = [] := fun h => Classical.byContradiction fun hq => h1 ⟨h, hq⟩
            rw [wayF_on D f a l p ps hd h0 h3 hps] at h
            refine wayF_kind hT f _ l ps e h ?_
            rcases hT.kinds (below a p) with k | k | k | k
            · exact absurd k h0
            · exact .inr ⟨k, hps k⟩
            · exact .inl k
            · exact absurd k h3
/-- Where a path's place is, told apart. -/
theorem placed {D : Dt} {path p : Str} (h : placeOf D path = (p, 0)) : ∃ ps z dir, absParts path = some (ps ++ [z]) ∧ z ≠ dots ∧ way D ps = (dir, 0) ∧ (getD D dir).kind ≠ 1 ∧ p = below dir z ∧ ps.length + 1 ≤ 201 ∧ 1 ≤ dir.length ∧ 47 ∉ z ∧ z ≠ [] := by
  unfold placeOf at h
  split at h
  · simp at h
  · rename_i l hpo
    have hok := absParts_ok hpo
    split at h
    · simp at h
    · rename_i z hz
      obtain ⟨ps, rfl⟩ := List.getLast?_eq_some_iff.1 hz
      rw [List.dropLast_concat] at h
      unfold placeIn at h
      split at h
      · simp at h
      · split at h
        · rename_i h1 h2
          injection h with _ h
          exact absurd h h2
        · split at h
          · simp at h
          · rename_i h1 h2 h3
            injection h with h _
            have hl := hok.2.1
            simp only [List.length_append, List.length_singleton] at hl
            have hwl := way_len D ps (by omega) (fun q hq => (hok.2.2 q (List.mem_append_left _ hq)).1)
            have h2' : (way D ps).2 = 0 := by simpa using h2
            have hz2 := hok.2.2 z (by simp)
            refine ⟨ps, z, (way D ps).1, hpo, h1, Prod.ext rfl h2', h3, h.symm, hl, hwl.2 h2', part_slash hz2.2.1, ?_⟩
            have := hz2.2.2
            unfold keepPart at this
            simp at this
            exact this.1
theorem place_of {D : Dt} {path dir z : Str} {ps : List Str} (h1 : absParts path = some (ps ++ [z])) (h2 : z ≠ dots) (h3 : way D ps = (dir, 0)) (h4 : (getD D dir).kind ≠ 1) : placeOf D path = (below dir z, 0) := by
  unfold placeOf
  rw [h1]
  simp only [List.getLast?_append, List.getLast?_singleton, Option.some_or, List.dropLast_concat]
  unfold placeIn
  rw [if_neg h2, h3]
  simp only
  rw [if_neg (by simp), if_neg h4]
/-- The directory of a place. -/
theorem place_tree {D : Dt} (hT : Tree D) {path p : Str} (h : placeOf D path = (p, 0)) : (getD D (above p)).kind = 2 ∧ above p ≠ p ∧ p ≠ rootS := by
  obtain ⟨ps, z, dir, _, _, h3, h4, rfl, _, h5, h6, h7⟩ := placed h
  rw [above_below dir z h5 h6]
  refine ⟨?_, fun e => below_ne dir z h5 h7 e.symm, (below_two dir z h5 h7).2⟩
  rcases wayF_kind hT _ _ _ _ _ h3 (.inl hT.root) with k | k
  · exact k
  · exact absurd k h4
theorem file_at {D : Dt} {path p : Str} (h : placeOf D path = (p, 0)) (hk : (getD D p).kind = 1) : fileOf D path = (getD D p, 0) := by
  obtain ⟨ps, z, dir, h1, h2, h3, h4, rfl, hl, _⟩ := placed h
  have hw : way D (ps ++ [z]) = (below dir z, 0) := wayF_more D z h2 2000 rootS 0 ps dir (by omega) (by omega) h3 h4 hk
  have he : endOf D path = (below dir z, getD D (below dir z), 0) := by
    unfold endOf
    rw [h1]
    simp only
    rw [hw]
    simp
  unfold fileOf
  rw [he]
  simp only
  rw [if_neg (by simp), if_neg (by omega)]
theorem place_apart {D D' : Dt} (hT : Tree D) {q : Str} (hq : (getD D q).kind = 0 ∨ (getD D q).kind = 1) (hD : ∀ k, k ≠ q → getD D' k = getD D k) {path p : Str} (h : placeOf D path = (p, 0)) : placeOf D' path = (p, 0) := by
  obtain ⟨ps, z, dir, h1, h2, h3, h4, rfl, hl, _⟩ := placed h
  have hk : (getD D dir).kind = 2 := by
    rcases wayF_kind hT _ _ _ _ _ h3 (.inl hT.root) with k | k
    · exact k
    · exact absurd k h4
  have hne : dir ≠ q := by
    intro e
    rw [e] at hk
    omega
  exact place_of h1 h2 (wayF_apart D D' q hq hD _ _ _ _ _ h3 h4) (by rw [hD _ hne]; omega)

theorem Tree.put {D : Dt} (hT : Tree D) (hm : IsMap D) (p : Str) (t : Th) (ht : t.kind = 0 ∨ t.kind = 1 ∨ t.kind = 2 ∨ t.kind = 3) (h1 : (getD D (above p)).kind = 2) (h2 : above p ≠ p) (h3 : (getD D p).kind ≠ 2) : Tree (D.put (.string p) (thD t)) := by
  have hne : ∀ k, k ≠ p → getD (D.put (.string p) (thD t)) k = getD D k := fun k hk => getD_put_ne D p k _ hk
  refine ⟨?_, fun k hk => ?_, fun k => ?_⟩
  · rw [hne _ (fun e => h3 (by rw [← e]; exact hT.root))]
    exact hT.root
  · by_cases e : k = p
    · subst e
      rw [hne _ h2]
      exact h1
    · rw [hne k e] at hk
      have := hT.up k hk
      rw [hne _ (fun e => h3 (by rw [← e]; exact this))]
      exact this
  · by_cases e : k = p
    · subst e; rw [getD_put D k t hm]; exact ht
    · rw [hne k e]; exact hT.kinds k
theorem Tree.del {D : Dt} (hT : Tree D) (q : Str) (h1 : q ≠ rootS) (h2 : (getD D q).kind ≠ 2 ∨ ∀ k, k ≠ rootS → above k = q → (getD D k).kind = 0) : Tree (D.del (.string q)) := by
  have hne : ∀ k, k ≠ q → getD (D.del (.string q)) k = getD D k := fun k hk => getD_del_ne D q k hk
  refine ⟨?_, fun k hk => ?_, fun k => ?_⟩
  · rw [hne _ (fun e => h1 e.symm)]
    exact hT.root
  · by_cases e : k = q
    · subst e; rw [getD_del] at hk; exact absurd rfl hk
    · rw [hne k e] at hk
      have hu := hT.up k hk
      rw [hne _ ?_]
      · exact hu
      · intro e2
        rcases h2 with h2 | h2
        · exact h2 (by rw [← e2]; exact hu)
        · by_cases hr : k = rootS
          · subst hr
            rw [above_root] at e2
            exact h1 e2.symm
          · exact hk (h2 k hr e2)
  · by_cases e : k = q
    · subst e; rw [getD_del]; exact .inl rfl
    · rw [hne k e]; exact hT.kinds k
theorem tree_new : Tree newD := by
  have hr : getD newD rootS = ⟨2, 0, []⟩ := getD_put _ _ _ ⟨[], rfl⟩
  have hne : ∀ k, k ≠ rootS → getD newD k = Th.no := fun k hk => by
    unfold newD
    rw [getD_put_ne _ _ _ _ hk]
    rfl
  refine ⟨by rw [hr], fun k hk => ?_, fun k => ?_⟩
  · by_cases e : k = rootS
    · subst e; rw [above_root, hr]
    · rw [hne k e] at hk; exact absurd rfl hk
  · by_cases e : k = rootS
    · subst e; rw [hr]; exact .inr (.inr (.inl rfl))
    · rw [hne k e]; exact .inl rfl
theorem nothing_in {D : Dt} (hm : IsMap D) (q : Str) (h : namesIn D q = []) : ∀ k, k ≠ rootS → above k = q → (getD D k).kind = 0 := by
  intro k hr ha
  apply Classical.byContradiction
  intro hk
  have hh := has_of_kind D k hk
  obtain ⟨es, rfl⟩ := hm
  have hmem : k ∈ strKeys (.map es) := by
    change es.any (fun p => p.1.sameKey (.string k)) = true at hh
    obtain ⟨x, hx, hs⟩ := List.any_eq_true.1 hh
    refine List.mem_map.2 ⟨x, hx, ?_⟩
    obtain ⟨x1, x2⟩ := x
    simp only at hs ⊢
    cases x1 <;> simp [Lit.sameKey] at hs
    subst hs
    rfl
  have hf : k ∈ (strKeys (.map es)).filter (inDir q) := List.mem_filter.2 ⟨hmem, by simp [inDir, hr, ha]⟩
  have hl := congrArg List.length h
  unfold namesIn at hl
  rw [List.length_mergeSort, List.length_map, List.length_nil] at hl
  have := List.length_pos_of_mem hf
  omega
theorem end_kinds {D : Dt} (hT : Tree D) (path : Str) : (fileOf D path).1.kind = 0 ∨ (fileOf D path).1.kind = 1 ∨ (fileOf D path).1.kind = 2 ∨ (fileOf D path).1.kind = 3 := by
  unfold fileOf
  split
  · exact .inl rfl
  · split
    · exact .inl rfl
    · unfold endOf
      split
      · exact .inl rfl
      · split
        · exact .inl rfl
        · exact hT.kinds _
theorem set_tree {s : St} (hm : IsMap s.d) (hT : Tree s.d) {path p : Str} (h : placeOf s.d path = (p, 0)) (hk : (getD s.d p).kind ≠ 2) (t : Th) (ht : t.kind = 0 ∨ t.kind = 1 ∨ t.kind = 2 ∨ t.kind = 3) : Tree (setAt s p t).1.d := by
  obtain ⟨a, b, _⟩ := place_tree hT h
  unfold setAt
  split
  · exact hT
  · exact hT.put hm p t ht a b hk
theorem eqPlace {D : Dt} {path : Str} (h : ¬ (placeOf D path).2 ≠ 0) : placeOf D path = ((placeOf D path).1, 0) := by
  apply Prod.ext
  · rfl
  · simpa using h
theorem eqFree {D : Dt} {path : Str} (h : ¬ (freeOf D path).2 ≠ 0) : placeOf D path = ((freeOf D path).1, 0) ∧ (getD D (freeOf D path).1).kind = 0 := by
  obtain ⟨e, k, e0⟩ := free_place D path (by simpa using h)
  rw [e]
  exact ⟨Prod.ext rfl e0, k⟩
theorem does_tree {s : St} (hm : IsMap s.d) (hT : Tree s.d) (x : Ac) : Tree (doesM s x).1.d := by
  unfold doesM
  split
  · unfold mkdirM
    split
    · exact hT
    · rename_i h
      obtain ⟨h1, h2⟩ := eqFree h
      exact set_tree hm hT h1 (by omega) _ (.inr (.inr (.inl rfl)))
  · split
    · unfold putM
      split
      · exact hT
      · split
        · exact hT
        · split
          · exact hT
          · split
            · exact hT
            · rename_i h0 h2 _ _
              have := set_tree hm hT (eqPlace h0) h2 ⟨1, s.puts + 1, x.by_⟩ (.inr (.inl rfl))
              split
              · exact this
              · exact hT
    · split
      · unfold alsoM
        split
        · exact hT
        · split
          · exact hT
          · rename_i h _
            obtain ⟨h1, h2⟩ := eqFree h
            exact set_tree hm hT h1 (by omega) _ (end_kinds hT _)
      · split
        · unfold symM
          split
          · exact hT
          · split
            · exact hT
            · rename_i h _
              obtain ⟨h1, h2⟩ := eqFree h
              exact set_tree hm hT h1 (by omega) _ (.inr (.inr (.inr rfl)))
        · split
          · unfold removeM
            split
            · exact hT
            · split
              · exact hT
              · split
                · exact hT
                · rename_i h0 h1 h2
                  refine hT.del _ (place_tree hT (eqPlace h0)).2.2 ?_
                  by_cases hk : (getD s.d (placeOf s.d x.a).1).kind = 2
                  · right
                    apply nothing_in hm
                    exact Classical.byContradiction fun hn => h2 ⟨hk, hn⟩
                  · exact .inl hk
          · split
            · unfold renameM
              split
              · exact hT
              · split
                · exact hT
                · split
                  · exact hT
                  · split
                    · exact hT
                    · rename_i h0 h1 h2 h3
                      have h3a : (getD s.d (placeOf s.d x.a).1).kind ≠ 2 := fun e => h3 (.inl e)
                      have h3b : (getD s.d (placeOf s.d x.b).1).kind ≠ 2 := fun e => h3 (.inr e)
                      have hT1 := hT.del (placeOf s.d x.a).1 (place_tree hT (eqPlace h0)).2.2 (.inl h3a)
                      obtain ⟨a, b, _⟩ := place_tree hT (eqPlace h2)
                      refine hT1.put (hm.del _) _ _ (hT.kinds _) ?_ b ?_
                      · rw [getD_del_ne _ _ _ (fun e => h3a (by rw [← e]; exact a))]
                        exact a
                      · by_cases e : (placeOf s.d x.b).1 = (placeOf s.d x.a).1
                        · rw [e, getD_del]; decide
                        · rw [getD_del_ne _ _ _ e]; exact h3b
            · exact hT
theorem play_tree (xs : List Ac) : ∀ s : St, Inv s → Tree s.d → Tree (playM s xs).d := by
  induction xs with
  | nil => exact fun s _ h => h
  | cons x xs ih => exact fun s hi h => ih _ (does_left hi x).inv (does_tree hi.map h x)

/-- A file that is put, by its name. -/
theorem put_keeps {s : St} (hT : Tree s.d) (path b : Str) (h : (putM s path b).2 = 0) :
    ∃ p, placeOf s.d path = (p, 0) ∧ ((getD s.d p).kind = 0 ∨ (getD s.d p).kind = 1) ∧ putM s path b = (⟨s.d.put (.string p) (thD ⟨1, s.puts + 1, b⟩), s.puts + 1⟩, 0) := by
  unfold putM at *
  split at h
  · exact absurd h (by assumption)
  · split at h
    · simp at h
    · split at h
      · simp at h
      · split at h
        · simp at h
        · split at h
          · rename_i h0 h1 h2 h3 h4
            refine ⟨_, eqPlace h0, ?_, ?_⟩
            · rcases hT.kinds (placeOf s.d path).1 with k | k | k | k
              · exact .inl k
              · exact .inr k
              · exact absurd k h1
              · exact absurd k h2
            · rw [if_neg h0, if_neg h1, if_neg h2, if_neg h3, if_pos h4]
              unfold setAt at *
              split at h4
              · simp at h4
              · rename_i hc
                rw [if_neg hc]
          · simp at h
theorem also_keeps {s : St} (path of_ : Str) (h : (alsoM s path of_).2 = 0) :
    ∃ p, placeOf s.d path = (p, 0) ∧ (getD s.d p).kind = 0 ∧ (alsoM s path of_).1 = ⟨s.d.put (.string p) (thD (fileOf s.d of_).1), s.puts⟩ := by
  unfold alsoM at *
  split at h
  · exact absurd h (by assumption)
  · split at h
    · exact absurd h (by assumption)
    · rename_i h0 h1
      obtain ⟨e1, e2⟩ := eqFree h0
      refine ⟨_, e1, e2, ?_⟩
      rw [if_neg h0, if_neg h1]
      unfold setAt at *
      split at h
      · simp at h
      · rename_i hc
        rw [if_neg hc]
/-- All that the promise says of a file that is put. -/
structure Kept (s : St) (path b : Str) (s1 : St) : Prop where
  eq : s1 = (putM s path b).1
  file : fileOf s1.d path = (⟨1, s.puts + 1, b⟩, 0)
  also : ∀ other, (alsoM s1 other path).2 = 0 →
    fileOf (alsoM s1 other path).1.d other = (⟨1, s.puts + 1, b⟩, 0) ∧ (removeM (alsoM s1 other path).1 path).2 = 0 ∧
    fileOf (removeM (alsoM s1 other path).1 path).1.d other = (⟨1, s.puts + 1, b⟩, 0)
theorem kept {s : St} (hi : Inv s) (hT : Tree s.d) (path b : Str) (h : (putM s path b).2 = 0) : Kept s path b (putM s path b).1 := by
  obtain ⟨p, hp, hk, e⟩ := put_keeps hT path b h
  have hT1 : Tree (putM s path b).1.d := by
    have := does_tree hi.map hT ⟨2, path, [], b⟩
    exact this
  have hi1 : Inv (putM s path b).1 := (put_left hi path b).inv
  rw [e] at hT1 hi1 ⊢
  simp only at hT1 hi1 ⊢
  have g1 : getD (s.d.put (.string p) (thD ⟨1, s.puts + 1, b⟩)) p = ⟨1, s.puts + 1, b⟩ := getD_put _ _ _ hi.map
  have hp1 : placeOf (s.d.put (.string p) (thD ⟨1, s.puts + 1, b⟩)) path = (p, 0) := place_apart hT hk (fun k hk => getD_put_ne _ _ _ _ hk) hp
  have hf : fileOf (s.d.put (.string p) (thD ⟨1, s.puts + 1, b⟩)) path = (⟨1, s.puts + 1, b⟩, 0) := by
    rw [file_at hp1 (by rw [g1]), g1]
  refine ⟨by rw [e], hf, fun other ho => ?_⟩
  obtain ⟨p2, hp2, hk2, e2⟩ := also_keeps other path ho
  have hT2 := does_tree hi1.map hT1 ⟨3, other, path, []⟩
  change Tree (alsoM _ other path).1.d at hT2
  have hi2 : Inv (alsoM (St.mk (s.d.put (.string p) (thD ⟨1, s.puts + 1, b⟩)) (s.puts + 1)) other path).1 := (also_left hi1 other path).inv
  rw [e2] at hT2 hi2 ⊢
  simp only [hf] at hp2 hk2 hT2 hi2 ⊢
  generalize s.d.put (.string p) (thD ⟨1, s.puts + 1, b⟩) = D1 at *
  have hne : p ≠ p2 := by
    intro e
    rw [← e, g1] at hk2
    cases hk2
  have g2 : getD (D1.put (.string p2) (thD ⟨1, s.puts + 1, b⟩)) p2 = ⟨1, s.puts + 1, b⟩ := getD_put _ _ _ hi1.map
  have g2' : getD (D1.put (.string p2) (thD ⟨1, s.puts + 1, b⟩)) p = ⟨1, s.puts + 1, b⟩ := by rw [getD_put_ne _ _ _ _ hne]; exact g1
  have ho2 : placeOf (D1.put (.string p2) (thD ⟨1, s.puts + 1, b⟩)) other = (p2, 0) := place_apart hT1 (.inl hk2) (fun k hk => getD_put_ne _ _ _ _ hk) hp2
  have hq2 : placeOf (D1.put (.string p2) (thD ⟨1, s.puts + 1, b⟩)) path = (p, 0) := place_apart hT1 (.inl hk2) (fun k hk => getD_put_ne _ _ _ _ hk) hp1
  generalize D1.put (.string p2) (thD ⟨1, s.puts + 1, b⟩) = D2 at *
  have er : removeM ⟨D2, s.puts + 1⟩ path = (⟨D2.del (.string p), s.puts + 1⟩, 0) := by
    unfold removeM
    simp only [hq2]
    rw [if_neg (by simp), g2', if_neg (by simp), if_neg (by simp)]
  rw [er]
  refine ⟨by rw [file_at ho2 (by rw [g2]), g2], rfl, ?_⟩
  have g3 : getD (D2.del (.string p)) p2 = ⟨1, s.puts + 1, b⟩ := by rw [getD_del_ne _ _ _ (fun e => hne e.symm)]; exact g2
  have ho3 : placeOf (D2.del (.string p)) other = (p2, 0) := place_apart hT2 (.inr (by rw [g2'])) (fun k hk => getD_del_ne _ _ _ hk) ho2
  show fileOf (D2.del (.string p)) other = _
  rw [file_at ho3 (by rw [g3]), g3]
end Go.Proofs.YtmabhciijdceoaaDoor
