/-
  What acts keep of a store; ways that do not meet a place.
-/
import Derived.Test.YtmabhciijdceoaaDoorT
namespace Go.Proofs.YtmabhciijdceoaaDoor
open Go.RowKit Go.Maps

/-- What every store keeps. -/
structure Inv (s : St) : Prop where
  map : IsMap s.d
  good : Good s.d
  ids : ∀ k, (getD s.d k).id ≤ s.puts
theorem inv_new : Inv ⟨newD, 0⟩ := by
  refine ⟨⟨_, rfl⟩, good_new, fun k => ?_⟩
  show (getD newD k).id ≤ 0
  unfold newD
  by_cases h : k = rootS
  · subst h
    rw [getD_put _ _ _ ⟨[], rfl⟩]
    decide
  · rw [getD_put_ne _ _ _ _ h]
    have : getD (DataW.map []) k = Th.no := rfl
    rw [this]
    decide
theorem Inv.put {s : St} (h : Inv s) (p : Str) (t : Th) (n : Nat) (h1 : 1 ≤ p.length) (h2 : p.length ≤ 120000) (ht : t.id ≤ n) (hn : s.puts ≤ n) : Inv ⟨s.d.put (.string p) (thD t), n⟩ := by
  refine ⟨h.map.put _ _, h.good.put p _ h1 (by omega), fun k => ?_⟩
  show (getD (s.d.put (.string p) (thD t)) k).id ≤ n
  by_cases e : k = p
  · subst e; rw [getD_put _ _ _ h.map]; exact ht
  · rw [getD_put_ne _ _ _ _ e]
    have := h.ids k
    omega
theorem Inv.del {s : St} (h : Inv s) (p : Str) : Inv ⟨s.d.del (.string p), s.puts⟩ := by
  refine ⟨h.map.del _, h.good.del p, fun k => ?_⟩
  show (getD (s.d.del (.string p)) k).id ≤ s.puts
  by_cases e : k = p
  · subst e; rw [getD_del]; show (0 : Int) ≤ _; omega
  · rw [getD_del_ne _ _ _ e]
    exact h.ids k
theorem inv_setAt {s : St} (h : Inv s) (p : Str) (t : Th) (h1 : 1 ≤ p.length) (h2 : p.length ≤ 120000) (ht : t.id ≤ s.puts) : Inv (setAt s p t).1 ∧ (setAt s p t).1.puts = s.puts ∧ ((setAt s p t).2 ≠ 0 → (setAt s p t).1 = s) := by
  unfold setAt
  split
  · exact ⟨h, rfl, fun _ => rfl⟩
  · exact ⟨h.put p t s.puts h1 h2 ht (Nat.le_refl _), rfl, fun h => absurd rfl h⟩
theorem free_place (D : Dt) (path : Str) (h : (freeOf D path).2 = 0) : freeOf D path = placeOf D path ∧ (getD D (placeOf D path).1).kind = 0 ∧ (placeOf D path).2 = 0 := by
  unfold freeOf at *
  split at h
  · exact absurd h (by assumption)
  · split at h
    · simp at h
    · rename_i h1 h2
      rw [if_neg h1, if_neg h2]
      refine ⟨?_, by simpa using h2, by simpa using h1⟩
      apply Prod.ext
      · rfl
      · simp at h1; exact h1.symm
theorem file_id {s : St} (h : Inv s) (path : Str) : (fileOf s.d path).1.id ≤ s.puts := by
  have h0 : (Th.no.id : Int) ≤ s.puts := by show (0 : Int) ≤ _; omega
  unfold fileOf
  split
  · exact h0
  · split
    · exact h0
    · unfold endOf
      split
      · exact h0
      · split
        · exact h0
        · exact h.ids _
/-- What an act leaves: every store's due; and the store as it was where it is refused. -/
structure Left (s : St) (r : St × Int) : Prop where
  inv : Inv r.1
  puts : r.1.puts ≤ s.puts + 1
  same : r.2 ≠ 0 → r.1 = s
theorem Left.stay {s : St} (h : Inv s) (e : Int) : Left s (s, e) := ⟨h, by simp, fun _ => rfl⟩
theorem place_room (D : Dt) (path : Str) (h : (placeOf D path).2 = 0) : 1 ≤ (placeOf D path).1.length ∧ (placeOf D path).1.length ≤ 120000 := ⟨place_pos D path h, (place_facts D path).1⟩
theorem Left.set {s : St} (h : Inv s) (p : Str) (t : Th) (h1 : 1 ≤ p.length) (h2 : p.length ≤ 120000) (ht : t.id ≤ s.puts) : Left s (setAt s p t) := by
  obtain ⟨a, b, c⟩ := inv_setAt h p t h1 h2 ht
  exact ⟨a, by omega, c⟩
theorem mkdir_left {s : St} (h : Inv s) (path : Str) : Left s (mkdirM s path) := by
  unfold mkdirM
  split
  · exact .stay h _
  · rename_i h0
    obtain ⟨e, _, e0⟩ := free_place s.d path (by simpa using h0)
    have hr := place_room s.d path e0
    rw [e]
    exact .set h _ _ hr.1 hr.2 (by show (0 : Int) ≤ _; omega)
theorem also_left {s : St} (h : Inv s) (path of_ : Str) : Left s (alsoM s path of_) := by
  unfold alsoM
  split
  · exact .stay h _
  · split
    · exact .stay h _
    · rename_i h0 _
      obtain ⟨e, _, e0⟩ := free_place s.d path (by simpa using h0)
      have hr := place_room s.d path e0
      rw [e]
      exact .set h _ _ hr.1 hr.2 (file_id h _)
theorem sym_left {s : St} (h : Inv s) (path to_ : Str) : Left s (symM s path to_) := by
  unfold symM
  split
  · exact .stay h _
  · split
    · exact .stay h _
    · rename_i h0 _
      obtain ⟨e, _, e0⟩ := free_place s.d path (by simpa using h0)
      have hr := place_room s.d path e0
      rw [e]
      exact .set h _ _ hr.1 hr.2 (by show (0 : Int) ≤ _; omega)
theorem put_left {s : St} (h : Inv s) (path b : Str) : Left s (putM s path b) := by
  unfold putM
  split
  · exact .stay h _
  · split
    · exact .stay h _
    · split
      · exact .stay h _
      · split
        · exact .stay h _
        · rename_i h0 _ _ _
          have hr := place_room s.d path (by simpa using h0)
          split
          · rename_i hs
            refine ⟨?_, by simp, fun hh => absurd rfl hh⟩
            show Inv ⟨(setAt s (placeOf s.d path).1 ⟨1, s.puts + 1, b⟩).1.d, s.puts + 1⟩
            unfold setAt at *
            split at hs
            · simp at hs
            · rename_i hc
              rw [if_neg hc]
              exact h.put _ _ _ hr.1 hr.2 (by show (s.puts : Int) + 1 ≤ ((s.puts + 1 : Nat) : Int); omega) (by omega)
          · exact .stay h _
theorem remove_left {s : St} (h : Inv s) (path : Str) : Left s (removeM s path) := by
  unfold removeM
  split
  · exact .stay h _
  · split
    · exact .stay h _
    · split
      · exact .stay h _
      · exact ⟨h.del _, by simp, fun hh => absurd rfl hh⟩
theorem rename_left {s : St} (h : Inv s) (from_ to_ : Str) : Left s (renameM s from_ to_) := by
  unfold renameM
  split
  · exact .stay h _
  · split
    · exact .stay h _
    · split
      · exact .stay h _
      · split
        · exact .stay h _
        · rename_i h0 _
          have hr := place_room s.d to_ (by simpa using h0)
          exact ⟨(h.del _).put _ _ _ hr.1 hr.2 (h.ids _) (Nat.le_refl _), by simp, fun hh => absurd rfl hh⟩
theorem does_left {s : St} (h : Inv s) (x : Ac) : Left s (doesM s x) := by
  unfold doesM
  split
  · exact mkdir_left h _
  · split
    · exact put_left h _ _
    · split
      · exact also_left h _ _
      · split
        · exact sym_left h _ _
        · split
          · exact remove_left h _
          · split
            · exact rename_left h _ _
            · exact .stay h _

/-- Acts, one behind the other. -/
def playM (s : St) : List Ac → St
  | [] => s
  | x :: xs => playM (doesM s x).1 xs
theorem playM_snoc (xs : List Ac) (k : Nat) (h : k < xs.length) (s : St) : playM s (xs.take (k + 1)) = (doesM (playM s (xs.take k)) xs[k]).1 := by
  induction xs generalizing s k with
  | nil => simp at h
  | cons x xs ih =>
    cases k with
    | zero => simp [playM]
    | succ k =>
      simp only [List.take_succ_cons, playM, List.getElem_cons_succ]
      exact ih k (by simpa using h) _
theorem play_left (xs : List Ac) : ∀ s : St, Inv s → Inv (playM s xs) ∧ (playM s xs).puts ≤ s.puts + xs.length := by
  induction xs with
  | nil => exact fun s h => ⟨h, by simp [playM]⟩
  | cons x xs ih =>
    intro s h
    have hl := does_left h x
    obtain ⟨a, b⟩ := ih _ hl.inv
    have := hl.puts
    simp only [playM, List.length_cons]
    exact ⟨a, by omega⟩

/-! Ways. -/
theorem wayF_err (D : Dt) : ∀ (f : Nat) (a : Str) (l : Nat) (ps : List Str), (wayF D f a l ps).2 ≠ 0 → (wayF D f a l ps).1 = []
  | f, a, l, [], h => by rw [wayF_end] at h; exact absurd rfl h
  | 0, a, l, p :: ps, _ => rfl
  | f + 1, a, l, p :: ps, h => by
    by_cases hd : p = dots
    · subst hd
      rw [wayF_up] at *
      exact wayF_err D f _ _ _ h
    · by_cases h0 : (getD D (below a p)).kind = 0
      · rw [wayF_none _ _ _ _ _ _ hd h0]
      · by_cases h3 : (getD D (below a p)).kind = 3
        · by_cases h8 : l = 8
          · subst h8; rw [wayF_loop _ _ _ _ _ hd h3]
          · rw [wayF_link _ _ _ _ _ _ hd h3 h8] at *
            exact wayF_err D f _ _ _ h
        · by_cases h1' : (getD D (below a p)).kind = 1 ∧ ps ≠ []
          · rw [wayF_file _ _ _ _ _ _ hd h1'.1 h1'.2]
          · have hon := wayF_on D f a l p ps hd h0 h3 (fun h => Classical.byContradiction fun hq => h1' ⟨h, hq⟩)
            rw [hon] at h ⊢
            exact wayF_err D f _ _ _ h
/-- A way that ends at no file meets no place where nothing or a file stands. -/
theorem wayF_apart (D D' : Dt) (q : Str) (hq : (getD D q).kind = 0 ∨ (getD D q).kind = 1) (hD : ∀ k, k ≠ q → getD D' k = getD D k) :
    ∀ (f : Nat) (a : Str) (l : Nat) (ps : List Str) (e : Str), wayF D f a l ps = (e, 0) → (getD D e).kind ≠ 1 → wayF D' f a l ps = (e, 0)
  | f, a, l, [], e, h, _ => by rw [wayF_end] at *; exact h
  | 0, a, l, p :: ps, e, h, _ => by simp [wayF] at h
  | f + 1, a, l, p :: ps, e, h, he => by
    by_cases hd : p = dots
    · subst hd
      rw [wayF_up] at *
      exact wayF_apart D D' q hq hD f _ _ _ e h he
    · by_cases h0 : (getD D (below a p)).kind = 0
      · rw [wayF_none _ _ _ _ _ _ hd h0] at h; simp at h
      · by_cases h1' : (getD D (below a p)).kind = 1
        · by_cases hp : ps = []
          · subst hp
            rw [wayF_on D f a l p [] hd h0 (by omega) (fun _ => rfl), wayF_end] at h
            injection h with h
            subst h
            exact absurd h1' he
          · rw [wayF_file _ _ _ _ _ _ hd h1' hp] at h; simp at h
        · have hne : below a p ≠ q := by
            intro e'
            rw [e'] at h0 h1'
            rcases hq with hq | hq
            · exact h0 hq
            · exact h1' hq
          have hg := hD _ hne
          by_cases h3 : (getD D (below a p)).kind = 3
          · by_cases h8 : l = 8
            · subst h8; rw [wayF_loop _ _ _ _ _ hd h3] at h; simp at h
            · rw [wayF_link _ _ _ _ _ _ hd h3 h8] at h
              rw [wayF_link D' _ _ _ _ _ hd (by rw [hg]; exact h3) h8, hg]
              exact wayF_apart D D' q hq hD f _ _ _ e h he
          · rw [wayF_on D f a l p ps hd h0 h3 (fun h => absurd h h1')] at h
            rw [wayF_on D' f a l p ps hd (by rw [hg]; exact h0) (by rw [hg]; exact h3) (fun h => absurd (by rw [hg] at h; exact h) h1')]
            exact wayF_apart D D' q hq hD f _ _ _ e h he
theorem parts_short (t : Str) : ((partsOf t).getD []).length ≤ 201 := by
  cases hpo : partsOf t with
  | none => simp
  | some l => exact (partsOf_ok hpo).2.1
/-- One step more, onto a file. -/
theorem wayF_more (D : Dt) (z : Str) (hz : z ≠ dots) : ∀ (f : Nat) (a : Str) (l : Nat) (ps : List Str) (e : Str), l ≤ 8 → (8 - l) * 201 + ps.length + 1 ≤ f → wayF D f a l ps = (e, 0) → (getD D e).kind ≠ 1 → (getD D (below e z)).kind = 1 → wayF D f a l (ps ++ [z]) = (below e z, 0)
  | 0, a, l, ps, e, _, hf, _, _, _ => by omega
  | f + 1, a, l, [], e, hl, _, h, _, hk => by
    rw [wayF_end] at h
    injection h with h
    subst h
    rw [List.nil_append, wayF_on D f a l z [] hz (by omega) (by omega) (fun _ => rfl), wayF_end]
  | f + 1, a, l, p :: ps, e, hl, hf, h, he, hk => by
    simp only [List.length_cons] at hf
    rw [List.cons_append]
    by_cases hd : p = dots
    · subst hd
      rw [wayF_up] at *
      exact wayF_more D z hz f _ l ps e hl (by omega) h he hk
    · by_cases h0 : (getD D (below a p)).kind = 0
      · rw [wayF_none _ _ _ _ _ _ hd h0] at h; simp at h
      · by_cases h1' : (getD D (below a p)).kind = 1
        · by_cases hp : ps = []
          · subst hp
            rw [wayF_on D f a l p [] hd h0 (by omega) (fun _ => rfl), wayF_end] at h
            injection h with h
            subst h
            exact absurd h1' he
          · rw [wayF_file _ _ _ _ _ _ hd h1' hp] at h; simp at h
        · by_cases h3 : (getD D (below a p)).kind = 3
          · by_cases h8 : l = 8
            · subst h8; rw [wayF_loop _ _ _ _ _ hd h3] at h; simp at h
            · rw [wayF_link _ _ _ _ _ _ hd h3 h8] at h
              rw [wayF_link D _ _ _ _ _ hd h3 h8, ← List.append_assoc]
              refine wayF_more D z hz f _ (l + 1) _ e (by omega) ?_ h he hk
              rw [List.length_append]
              have := parts_short (getD D (below a p)).text
              omega
          · rw [wayF_on D f a l p ps hd h0 h3 (fun h => absurd h h1')] at h
            rw [wayF_on D f a l p (ps ++ [z]) hd h0 h3 (fun h => absurd h h1')]
            exact wayF_more D z hz f _ l ps e hl (by omega) h he hk
theorem spent_room {l n f : Nat} (z : Nat) (hz : z ≤ 201) (hl : l + 1 ≤ 8) (h8 : ¬ l + 1 = 8) (h : (8 - (l + 1)) * 201 + (n + 1) ≤ f + 1) : (8 - (l + 1 + 1)) * 201 + (z + n) ≤ f := by
  obtain rfl | rfl | rfl | rfl | rfl | rfl | rfl : l = 0 ∨ l = 1 ∨ l = 2 ∨ l = 3 ∨ l = 4 ∨ l = 5 ∨ l = 6 := by omega
  all_goals omega
/-- With one link more behind it a way is the same, or too long. -/
theorem wayF_spent (D : Dt) : ∀ (f : Nat) (a : Str) (l : Nat) (ps : List Str) (r r' : Str × Int), l + 1 ≤ 8 → (8 - (l + 1)) * 201 + ps.length ≤ f → wayF D f a (l + 1) ps = r' → wayF D (f + 1) a l ps = r → r' = r ∨ r' = ([], 35)
  | f, a, l, [], r, r', _, _, h1, h2 => by
    rw [wayF_end] at h1 h2
    exact .inl (h1.symm.trans h2)
  | 0, a, l, p :: ps, r, r', _, h, _, _ => by simp at h
  | f + 1, a, l, p :: ps, r, r', hl, h, h1, h2 => by
    simp only [List.length_cons] at h
    by_cases hd : p = dots
    · subst hd
      rw [wayF_up] at h1 h2
      exact wayF_spent D f _ l ps r r' hl (by omega) h1 h2
    · by_cases h0 : (getD D (below a p)).kind = 0
      · rw [wayF_none D f a (l + 1) p ps hd h0] at h1
        rw [wayF_none D (f + 1) a l p ps hd h0] at h2
        exact .inl (h1.symm.trans h2)
      · by_cases h3 : (getD D (below a p)).kind = 3
        · have h8' : l ≠ 8 := by omega
          rw [wayF_link D (f + 1) a l p ps hd h3 h8'] at h2
          by_cases h8 : l + 1 = 8
          · rw [h8, wayF_loop D f a p ps hd h3] at h1; exact .inr h1.symm
          · rw [wayF_link D f a (l + 1) p ps hd h3 h8] at h1
            refine wayF_spent D f _ (l + 1) _ r r' (by omega) ?_ h1 h2
            rw [List.length_append]
            exact spent_room _ (parts_short (getD D (below a p)).text) hl h8 h
        · by_cases h1' : (getD D (below a p)).kind = 1 ∧ ps ≠ []
          · rw [wayF_file D f a (l + 1) p ps hd h1'.1 h1'.2] at h1
            rw [wayF_file D (f + 1) a l p ps hd h1'.1 h1'.2] at h2
            exact .inl (h1.symm.trans h2)
          · have hps : (getD D (below a p)).kind = 1 → ps = [] := fun h => Classical.byContradiction fun hq => h1' ⟨h, hq⟩
            rw [wayF_on D f a (l + 1) p ps hd h0 h3 hps] at h1
            rw [wayF_on D (f + 1) a l p ps hd h0 h3 hps] at h2
            exact wayF_spent D f _ l ps r r' hl (by omega) h1 h2
end Go.Proofs.YtmabhciijdceoaaDoor
