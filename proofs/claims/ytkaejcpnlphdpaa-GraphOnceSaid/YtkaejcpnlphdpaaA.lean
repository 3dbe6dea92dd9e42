/-
  Graphs, plainly: nodes, lists without doubles, breadth first, and in depth.
-/
import Derived.Test.YtkaejcpnlphdpaaCom
namespace Go.Proofs.Ytkaejcpnlphdpaa

abbrev Gr := List (List Int)
def adj (g : Gr) (x : Int) : List Int := g.getD x.toNat []
def isNode (n : Nat) (x : Int) : Bool := decide (0 ≤ x ∧ x < (n : Int))
def nodesB (n : Nat) (l : List Int) : Bool := l.all (isNode n)
def rightB (g : Gr) : Bool := decide (g.length ≤ 256) && g.all (nodesB g.length)
theorem nodes_mem {n : Nat} {l : List Int} (h : nodesB n l = true) {x : Int} (hx : x ∈ l) : isNode n x = true := List.all_eq_true.1 h x hx
theorem node_nat {n : Nat} {x : Int} (h : isNode n x = true) : ∃ k : Nat, x = (k : Int) ∧ k < n := by
  have := of_decide_eq_true h
  exact ⟨x.toNat, by omega, by omega⟩
theorem adj_nat (g : Gr) (k : Nat) (h : k < g.length) : adj g (k : Int) = g[k] := by simp [adj, List.getD, h]
theorem right_adj {g : Gr} (h : rightB g = true) (x : Int) : nodesB g.length (adj g x) = true := by
  unfold rightB at h
  simp only [Bool.and_eq_true] at h
  unfold adj
  rw [List.getD_eq_getElem?_getD]
  cases hx : g[x.toNat]? with
  | none => rfl
  | some l => exact List.all_eq_true.1 h.2 l (List.mem_of_getElem? hx)
theorem right_len {g : Gr} (h : rightB g = true) : g.length ≤ 256 := by
  unfold rightB at h
  simp only [Bool.and_eq_true, decide_eq_true_eq] at h
  exact h.1

/-- A list with others behind it, each that it has not got. -/
def once : List Int → List Int → List Int
  | l, [] => l
  | l, x :: m => once (if x ∈ l then l else l ++ [x]) m
theorem once_app : ∀ (m l k : List Int), once l (m ++ k) = once (once l m) k
  | [], _, _ => rfl
  | x :: m, l, k => by simp only [List.cons_append, once]; exact once_app m _ k
theorem once_snoc (l m : List Int) (x : Int) : once l (m ++ [x]) = if x ∈ once l m then once l m else once l m ++ [x] := by rw [once_app]; rfl
theorem once_pre : ∀ (m l : List Int), l <+: once l m
  | [], l => List.prefix_refl l
  | x :: m, l => by
    simp only [once]
    split
    · exact once_pre m l
    · exact (List.prefix_append l [x]).trans (once_pre m _)
theorem once_mem : ∀ (m l : List Int) (y : Int), y ∈ once l m ↔ y ∈ l ∨ y ∈ m
  | [], l, y => by simp [once]
  | x :: m, l, y => by
    simp only [once]
    rw [once_mem m _ y]
    split
    · rename_i h
      constructor
      · rintro (h1 | h1)
        · exact .inl h1
        · exact .inr (List.mem_cons_of_mem _ h1)
      · rintro (h1 | h1)
        · exact .inl h1
        · rcases List.mem_cons.1 h1 with rfl | h2
          · exact .inl h
          · exact .inr h2
    · simp [or_assoc]
/-- What holds of a list, and goes on to one more that it has not got. -/
theorem once_ind {P : List Int → Prop} {Q : Int → Prop} (hs : ∀ l x, P l → x ∉ l → Q x → P (l ++ [x])) : ∀ (m l : List Int), P l → (∀ x ∈ m, Q x) → P (once l m)
  | [], l, h, _ => h
  | x :: m, l, h, hm => by
    simp only [once]
    refine once_ind hs m _ ?_ fun y hy => hm y (List.mem_cons_of_mem _ hy)
    split
    · exact h
    · rename_i hx
      exact hs l x h hx (hm x (List.mem_cons_self ..))
/-- How many nodes are not in a list. -/
def free (n : Nat) (C : List Int) : Nat := (List.range n).countP fun (i : Nat) => !decide ((i : Int) ∈ C)
theorem free_succ (n : Nat) (C : List Int) : free (n + 1) C = free n C + if (n : Int) ∈ C then 0 else 1 := by
  unfold free
  rw [List.range_succ, List.countP_append]
  congr 1
  by_cases h : (n : Int) ∈ C <;> simp [h]
theorem free_add : ∀ (n : Nat) (C : List Int) (x : Int), x ∉ C → free n (C ++ [x]) + (if isNode n x then 1 else 0) = free n C
  | 0, C, x, h => by
    have h1 : isNode 0 x = false := decide_eq_false (by omega)
    rw [h1]; rfl
  | n + 1, C, x, h => by
    have h1 := free_add n C x h
    rw [free_succ, free_succ]
    by_cases hx : x = (n : Int)
    · subst hx
      have h2 : isNode n (n : Int) = false := decide_eq_false (by omega)
      have h3 : isNode (n + 1) (n : Int) = true := decide_eq_true (by omega)
      rw [h2] at h1
      rw [h3]
      simp [h] at h1 ⊢
      omega
    · have h3 : isNode (n + 1) x = isNode n x := by
        unfold isNode
        apply Bool.eq_iff_iff.2
        simp only [decide_eq_true_eq]
        omega
      rw [h3]
      have h4 : ((n : Int) ∈ C ++ [x]) ↔ (n : Int) ∈ C := by
        simp only [List.mem_append, List.mem_singleton]
        constructor
        · rintro (h | h)
          · exact h
          · exact absurd h.symm hx
        · exact .inl
      simp only [h4]
      omega
theorem free_nil (n : Nat) : free n [] = n := by
  induction n with
  | zero => rfl
  | succ n ih => rw [free_succ, ih]; simp
theorem free_le (n : Nat) (C : List Int) : free n C ≤ n := by
  unfold free
  exact Nat.le_trans (List.countP_le_length ..) (by simp)
theorem free_mono : ∀ (n : Nat) {C D : List Int}, (∀ x ∈ C, x ∈ D) → free n D ≤ free n C
  | 0, _, _, _ => Nat.le_refl _
  | n + 1, C, D, h => by
    have h1 := free_mono n h
    rw [free_succ, free_succ]
    by_cases hx : (n : Int) ∈ C
    · simp [hx, h _ hx, h1]
    · by_cases hy : (n : Int) ∈ D
      · simp [hx, hy]; omega
      · simp [hx, hy, h1]
/-- No double, and nodes alone: as many as are not free. -/
def Full (n : Nat) (l : List Int) : Prop := l.length + free n l = n
theorem Full.snoc {n : Nat} {l : List Int} {x : Int} (h : Full n l) (hx : x ∉ l) (hn : isNode n x = true) : Full n (l ++ [x]) := by
  unfold Full at *
  have := free_add n l x hx
  rw [hn] at this
  simp at this ⊢
  omega
theorem Full.nil (n : Nat) : Full n [] := by unfold Full; rw [free_nil]; simp
theorem Full.once {n : Nat} {l m : List Int} (h : Full n l) (hm : nodesB n m = true) : Full n (once l m) :=
  once_ind (P := Full n) (Q := fun x => isNode n x = true) (fun _ _ h hx hn => h.snoc hx hn) m l h fun _ hx => nodes_mem hm hx
theorem Full.le {n : Nat} {l : List Int} (h : Full n l) : l.length ≤ n := by unfold Full at h; omega
theorem once_nodes {n : Nat} {l m : List Int} (h : nodesB n l = true) (hm : nodesB n m = true) : nodesB n (once l m) = true := by
  unfold nodesB at *
  rw [List.all_eq_true] at *
  intro x hx
  rcases (once_mem m l x).1 hx with h1 | h1
  · exact h x h1
  · exact hm x h1

/-! Breadth first. -/
/-- Behind so many steps. -/
def bfsS (g : Gr) (r : List Int) : Nat → List Int
  | 0 => once [] r
  | k + 1 => match (bfsS g r k)[k]? with
    | some x => once (bfsS g r k) (adj g x)
    | none => bfsS g r k
def bfs (g : Gr) (r : List Int) : List Int := bfsS g r g.length
theorem bfs_step (g : Gr) (r : List Int) (k : Nat) (h : k < (bfsS g r k).length) : bfsS g r (k + 1) = once (bfsS g r k) (adj g (bfsS g r k)[k]) := by
  show (match (bfsS g r k)[k]? with | some x => _ | none => _) = _
  rw [List.getElem?_eq_getElem h]
theorem bfs_end (g : Gr) (r : List Int) (k : Nat) (h : (bfsS g r k).length ≤ k) : bfsS g r (k + 1) = bfsS g r k := by
  show (match (bfsS g r k)[k]? with | some x => _ | none => _) = _
  rw [List.getElem?_eq_none h]
theorem bfs_stay (g : Gr) (r : List Int) (k : Nat) (h : (bfsS g r k).length ≤ k) : ∀ d, bfsS g r (k + d) = bfsS g r k
  | 0 => rfl
  | d + 1 => by
    have := bfs_stay g r k h d
    rw [← Nat.add_assoc, bfs_end g r (k + d) (by rw [this]; omega), this]
section
variable {g : Gr} {r : List Int}
theorem bfs_nodes (hg : rightB g = true) (hr : nodesB g.length r = true) : ∀ k, nodesB g.length (bfsS g r k) = true ∧ Full g.length (bfsS g r k)
  | 0 => ⟨once_nodes rfl hr, (Full.nil _).once hr⟩
  | k + 1 => by
    obtain ⟨h1, h2⟩ := bfs_nodes hg hr k
    by_cases h : k < (bfsS g r k).length
    · rw [bfs_step g r k h]
      exact ⟨once_nodes h1 (right_adj hg _), h2.once (right_adj hg _)⟩
    · rw [bfs_end g r k (by omega)]
      exact ⟨h1, h2⟩
theorem bfs_len (hg : rightB g = true) (hr : nodesB g.length r = true) (k : Nat) : (bfsS g r k).length ≤ g.length := (bfs_nodes hg hr k).2.le
/-- Where the steps end, it is the whole. -/
theorem bfs_done (hg : rightB g = true) (hr : nodesB g.length r = true) {k : Nat} (hk : (bfsS g r k).length = k) : bfs g r = bfsS g r k := by
  have h1 := bfs_len hg hr k
  have := bfs_stay g r k (by omega) (g.length - k)
  rwa [show k + (g.length - k) = g.length by omega] at this
theorem bfs_pre1 (k : Nat) : bfsS g r k <+: bfsS g r (k + 1) := by
  by_cases h : k < (bfsS g r k).length
  · rw [bfs_step g r k h]
    exact once_pre _ _
  · rw [bfs_end g r k (by omega)]
    exact List.prefix_refl _
theorem bfs_pre (k : Nat) : ∀ d, bfsS g r k <+: bfsS g r (k + d)
  | 0 => List.prefix_refl _
  | d + 1 => (bfs_pre k d).trans (bfs_pre1 (k + d))
theorem bfs_roots : ∀ x ∈ r, x ∈ bfs g r := fun x hx => by
  have := bfs_pre (g := g) (r := r) 0 g.length
  rw [Nat.zero_add] at this
  exact this.subset ((once_mem r [] x).2 (.inr hx))
theorem bfs_closed (hg : rightB g = true) (hr : nodesB g.length r = true) : ∀ x ∈ bfs g r, ∀ y ∈ adj g x, y ∈ bfs g r := by
  intro x hx y hy
  obtain ⟨k, hk, rfl⟩ := List.getElem_of_mem hx
  have hn := bfs_len hg hr g.length
  have hk2 : k < g.length := Nat.lt_of_lt_of_le hk hn
  have hp := bfs_pre (g := g) (r := r) k (g.length - k)
  rw [show k + (g.length - k) = g.length by omega] at hp
  by_cases h : k < (bfsS g r k).length
  · have he : (bfs g r)[k] = (bfsS g r k)[k] := (hp.getElem h).symm
    have hp2 := bfs_pre (g := g) (r := r) (k + 1) (g.length - (k + 1))
    rw [show k + 1 + (g.length - (k + 1)) = g.length by omega, bfs_step g r k h] at hp2
    rw [he] at hy
    exact hp2.subset ((once_mem _ _ y).2 (.inr hy))
  · have := bfs_stay g r k (by omega) (g.length - k)
    rw [show k + (g.length - k) = g.length by omega] at this
    have h2 : (bfs g r).length ≤ k := by show (bfsS g r g.length).length ≤ k; rw [this]; omega
    omega
/-- What has the roots, and all that it leads to, has it all. -/
theorem bfs_least {S : Int → Prop} (h0 : ∀ x ∈ r, S x) (h1 : ∀ x, S x → ∀ y ∈ adj g x, S y) : ∀ k, ∀ x ∈ bfsS g r k, S x
  | 0 => fun x hx => by
    rcases (once_mem r [] x).1 hx with h | h
    · cases h
    · exact h0 x h
  | k + 1 => fun x hx => by
    have ih := bfs_least h0 h1 k
    by_cases h : k < (bfsS g r k).length
    · rw [bfs_step g r k h] at hx
      rcases (once_mem _ _ x).1 hx with h2 | h2
      · exact ih x h2
      · exact h1 _ (ih _ (List.getElem_mem h)) x h2
    · rw [bfs_end g r k (by omega)] at hx
      exact ih x hx
/-- Each once, and led to. -/
def Told (g : Gr) (r l : List Int) : Prop := ∀ (i : Nat) (h : i < l.length), l[i] ∉ l.take i ∧ (l[i] ∈ r ∨ ∃ y ∈ l.take i, l[i] ∈ adj g y)
theorem Told.nil : Told g r [] := fun _ h => absurd h (Nat.not_lt_zero _)
theorem Told.snoc {l : List Int} {x : Int} (h : Told g r l) (hx : x ∉ l) (hl : x ∈ r ∨ ∃ y ∈ l, x ∈ adj g y) : Told g r (l ++ [x]) := by
  intro i hi
  by_cases h2 : i < l.length
  · have := h i h2
    rw [List.getElem_append_left h2, List.take_append_of_le_length (Nat.le_of_lt h2)]
    exact this
  · have h3 : i = l.length := by simp at hi; omega
    subst h3
    rw [List.getElem_append_right (Nat.le_refl _), List.take_append_of_le_length (Nat.le_refl _), List.take_length]
    simpa using ⟨hx, hl⟩
theorem bfs_told : ∀ k, Told g r (bfsS g r k)
  | 0 => once_ind (P := Told g r) (Q := fun x => x ∈ r) (fun _ _ h hx hr => h.snoc hx (.inl hr)) r [] Told.nil fun x hx => hx
  | k + 1 => by
    have ih := bfs_told k
    by_cases h : k < (bfsS g r k).length
    · rw [bfs_step g r k h]
      have hmem : (bfsS g r k)[k] ∈ bfsS g r k := List.getElem_mem h
      generalize (bfsS g r k)[k] = y at *
      have := once_ind (P := fun l => y ∈ l ∧ Told g r l) (Q := fun x => x ∈ adj g y) (fun l x hl hx hr => ⟨List.mem_append_left _ hl.1, hl.2.snoc hx (.inr ⟨y, hl.1, hr⟩)⟩) (adj g y) _ ⟨hmem, ih⟩ fun x hx => hx
      exact this.2
    · rw [bfs_end g r k (by omega)]
      exact ih
end

/-! In depth. -/
/-- What a walk over a list does: those that are closed, and those that are left. -/
inductive D (g : Gr) : List Int → List Int → List Int → List Int → List Int → Prop
  | nil (C o) : D g C o [] C o
  | skip {C o x l C' o'} : x ∈ C → D g C o l C' o' → D g C o (x :: l) C' o'
  | go {C o x l C1 o1 C' o'} : x ∉ C → D g (C ++ [x]) o (adj g x) C1 o1 → D g C1 (o1 ++ [x]) l C' o' → D g C o (x :: l) C' o'
theorem D.more {g : Gr} {C o l C' o' : List Int} (h : D g C o l C' o') : (∀ x ∈ C, x ∈ C') ∧ (∀ x ∈ l, x ∈ C') ∧ o <+: o' := by
  induction h with
  | nil => exact ⟨fun x hx => hx, by simp, List.prefix_refl _⟩
  | skip hx _ ih =>
    refine ⟨ih.1, fun y hy => ?_, ih.2.2⟩
    rcases List.mem_cons.1 hy with rfl | h
    · exact ih.1 _ hx
    · exact ih.2.1 y h
  | go hx _ _ ih1 ih2 =>
    refine ⟨fun y hy => ih2.1 y (ih1.1 y (List.mem_append_left _ hy)), fun y hy => ?_, (ih1.2.2.trans (List.prefix_append _ _)).trans ih2.2.2⟩
    rcases List.mem_cons.1 hy with rfl | h
    · exact ih2.1 _ (ih1.1 _ (by simp))
    · exact ih2.2.1 y h
theorem D.some {g : Gr} (hg : rightB g = true) : ∀ (f : Nat) (C o l : List Int), free g.length C ≤ f → nodesB g.length l = true → ∃ C' o', D g C o l C' o'
  | f, C, o, [], _, _ => ⟨C, o, .nil C o⟩
  | f, C, o, x :: l, hf, hl => by
    have hx : isNode g.length x = true := nodes_mem hl (by simp)
    have hl2 : nodesB g.length l = true := by unfold nodesB at *; simp only [List.all_cons, Bool.and_eq_true] at hl; exact hl.2
    by_cases h : x ∈ C
    · obtain ⟨C', o', h2⟩ := D.some hg f C o l hf hl2
      exact ⟨C', o', .skip h h2⟩
    · have h3 := free_add g.length C x h
      rw [hx] at h3
      simp only [if_true] at h3
      match f, hf with
      | 0, hf => omega
      | f + 1, hf =>
        obtain ⟨C1, o1, h4⟩ := D.some hg f (C ++ [x]) o (adj g x) (by omega) (right_adj hg x)
        have h5 := free_mono g.length h4.more.1
        obtain ⟨C', o', h6⟩ := D.some hg (f + 1) C1 (o1 ++ [x]) l (by omega) hl2
        exact ⟨C', o', .go h h4 h6⟩
  termination_by f _ _ l => (f, l.length)
/-- What is left was not closed, is closed now, is a node, and no double. -/
theorem D.left {g : Gr} {n : Nat} (hg : ∀ x, nodesB n (adj g x) = true) {C o l C' o' : List Int} (h : D g C o l C' o') : (∀ x ∈ o, x ∈ C) → nodesB n l = true → nodesB n o = true → Full n o → nodesB n o' = true ∧ Full n o' ∧ (∀ x ∈ o', x ∈ o ∨ x ∉ C) ∧ ∀ x ∈ o', x ∈ C' := by
  induction h with
  | nil => exact fun h0 h1 h2 h3 => ⟨h2, h3, fun x hx => .inl hx, h0⟩
  | skip hx _ ih =>
    intro h0 h1 h2 h3
    exact ih h0 (by unfold nodesB at *; simp only [List.all_cons, Bool.and_eq_true] at h1; exact h1.2) h2 h3
  | @go C o x l C1 o1 C' o' hx hd _ ih1 ih2 =>
    intro h0 h1 h2 h3
    have hn : isNode n x = true := nodes_mem h1 (by simp)
    have h4 := ih1 (fun y hy => List.mem_append_left _ (h0 y hy)) (hg x) h2 h3
    have hxo : x ∉ o1 := fun h => by
      rcases h4.2.2.1 x h with h | h
      · exact hx (h0 x h)
      · exact h (by simp)
    have h5 := ih2 (fun y hy => by
      rcases List.mem_append.1 hy with h | h
      · exact h4.2.2.2 y h
      · rw [List.mem_singleton.1 h]; exact hd.more.1 x (by simp)) (by unfold nodesB at *; simp only [List.all_cons, Bool.and_eq_true] at h1; exact h1.2) (by unfold nodesB at *; simp [h4.1, hn]) (h4.2.1.snoc hxo hn)
    refine ⟨h5.1, h5.2.1, fun y hy => ?_, h5.2.2.2⟩
    rcases h5.2.2.1 y hy with h | h
    · rcases List.mem_append.1 h with h | h
      · rcases h4.2.2.1 y h with h | h
        · exact .inl h
        · exact .inr fun hc => h (List.mem_append_left _ hc)
      · rw [List.mem_singleton.1 h]; exact .inr hx
    · exact .inr fun hc => h (hd.more.1 y (List.mem_append_left _ hc))
/-- Each behind all that it leads to, where nodes lead to greater ones alone. -/
def Good (g : Gr) (d : List Int) : List Int → Prop := fun o => ∀ (i : Nat) (h : i < o.length), ∀ y ∈ adj g o[i], y ∈ o.take i ∨ y ∈ d
theorem Good.snoc {g : Gr} {d o : List Int} {x : Int} (h : Good g d o) (hx : ∀ y ∈ adj g x, y ∈ o ∨ y ∈ d) : Good g d (o ++ [x]) := by
  intro i hi
  by_cases h2 : i < o.length
  · have := h i h2
    rw [List.getElem_append_left h2, List.take_append_of_le_length (Nat.le_of_lt h2)]
    exact this
  · have h3 : i = o.length := by simp at hi; omega
    subst h3
    rw [List.getElem_append_right (Nat.le_refl _), List.take_append_of_le_length (Nat.le_refl _), List.take_length]
    simpa using hx
theorem D.fresh {g : Gr} {C o l C' o' : List Int} (h : D g C o l C' o') : ∀ y ∈ C', y ∈ C ∨ y ∈ o' := by
  induction h with
  | nil => exact fun y hy => .inl hy
  | skip hx _ ih => exact ih
  | go hx hd hd2 ih1 ih2 =>
    intro y hy
    rcases ih2 y hy with h | h
    · rcases ih1 y h with h | h
      · rcases List.mem_append.1 h with h | h
        · exact .inl h
        · rw [List.mem_singleton.1 h]
          exact .inr (hd2.more.2.2.subset (by simp))
      · exact .inr (hd2.more.2.2.subset (List.mem_append_left _ h))
    · exact .inr h
theorem D.good {g : Gr} {d : List Int} (hg : ∀ x, ∀ y ∈ adj g x, x < y) {C o l C' o' : List Int} (h : D g C o l C' o') : ∀ b : Int, (∀ y ∈ C, y ∈ o ∨ y ∈ d ∨ y ≤ b) → (∀ x ∈ l, b < x) → Good g d o → Good g d o' := by
  induction h with
  | nil => exact fun b h0 _ h2 => h2
  | skip hx _ ih => exact fun b h0 h1 h2 => ih b h0 (fun y hy => h1 y (List.mem_cons_of_mem _ hy)) h2
  | @go C o x l C1 o1 C' o' hx hd _ ih1 ih2 =>
    intro b h0 h1 h2
    have hb : b < x := h1 x (by simp)
    have h3 := ih1 x (fun y hy => by
      rcases List.mem_append.1 hy with h | h
      · rcases h0 y h with h | h | h
        · exact .inl h
        · exact .inr (.inl h)
        · exact .inr (.inr (by omega))
      · rw [List.mem_singleton.1 h]; exact .inr (.inr (Int.le_refl _))) (hg x) h2
    have h4 : ∀ y ∈ C1, y ∈ o1 ∨ y ∈ d ∨ y ≤ b ∨ y = x := fun y hy => by
      rcases hd.fresh y hy with h | h
      · rcases List.mem_append.1 h with h | h
        · rcases h0 y h with h | h | h
          · exact .inl (hd.more.2.2.subset h)
          · exact .inr (.inl h)
          · exact .inr (.inr (.inl h))
        · exact .inr (.inr (.inr (List.mem_singleton.1 h)))
      · exact .inl h
    refine ih2 b (fun y hy => ?_) (fun y hy => h1 y (List.mem_cons_of_mem _ hy)) (h3.snoc fun y hy => ?_)
    · rcases h4 y hy with h | h | h | h
      · exact .inl (List.mem_append_left _ h)
      · exact .inr (.inl h)
      · exact .inr (.inr h)
      · exact .inl (by simp [h])
    · have hlt := hg x y hy
      rcases h4 y (hd.more.2.1 y hy) with h | h | h | h
      · exact .inl h
      · exact .inr h
      · omega
      · omega
/-- The last one. -/
theorem D.last {g : Gr} {C o C' o' : List Int} {x : Int} (h : D g C o [x] C' o') : (x ∈ C ∧ C' = C ∧ o' = o) ∨ (x ∉ C ∧ ∃ C1 o1, D g (C ++ [x]) o (adj g x) C1 o1 ∧ C' = C1 ∧ o' = o1 ++ [x]) := by
  cases h with
  | skip hx h2 => cases h2; exact .inl ⟨hx, rfl, rfl⟩
  | go hx h2 h3 => cases h3; exact .inr ⟨hx, _, _, h2, rfl, rfl⟩
end Go.Proofs.Ytkaejcpnlphdpaa
