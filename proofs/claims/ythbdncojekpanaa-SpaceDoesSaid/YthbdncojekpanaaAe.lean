/-
  A space as plain things: regions in order, each with what is read of it byte by byte; what each act does to it.
  What each act does keeps the regions in order; a space that lies in memory as such regions; each act of the program, said so.
-/
import Derived.Test.YthbdncojekpanaaZ
import Derived.Test.YthbdncojekpanaaAc
namespace Go.Proofs.Ythbdncojekpanaa
section
open Go.RowKit

structure Seg where
  at_ : Int
  size : Int
  perm : Int
  f : Nat → UInt8
def seg (b : Blk) : Seg := ⟨b.at_, b.size, b.perm, fun j => b.bytes.getD j 0⟩
def segs (rs : List Raw) : List Seg := rs.map fun r => seg r.b
def over (f : Nat → UInt8) (k : Nat) (ms : Str) : Nat → UInt8 := fun j => if k ≤ j ∧ j < k + ms.length then ms.getD (j - k) 0 else f j
theorem getD_app (l m : Str) (j : Nat) : (l ++ m).getD j 0 = if j < l.length then l.getD j 0 else m.getD (j - l.length) 0 := by
  simp only [List.getD_eq_getElem?_getD, List.getElem?_append]
  split <;> rfl
theorem zeros_get (n j : Nat) : (zeros n).getD j 0 = 0 := by
  simp only [zeros, List.getD_eq_getElem?_getD, List.getElem?_replicate]
  split <;> rfl
theorem getD_past (l : Str) (j : Nat) (h : l.length ≤ j) : l.getD j 0 = 0 := by
  rw [List.getD_eq_getElem?_getD, List.getElem?_eq_none h]; rfl
theorem getD_take (l : Str) (n j : Nat) : (l.take n).getD j 0 = if j < n then l.getD j 0 else 0 := by
  simp only [List.getD_eq_getElem?_getD, List.getElem?_take]
  split <;> rfl
theorem getD_drop (l : Str) (n j : Nat) : (l.drop n).getD j 0 = l.getD (n + j) 0 := by
  simp only [List.getD_eq_getElem?_getD, List.getElem?_drop]
theorem writeM_f (l : Str) (f : Nat) (m : Str) : (fun j => (writeM l f m).getD j 0) = over (fun j => l.getD j 0) f m := by
  funext j
  unfold writeM over
  rw [getD_app, getD_app, getD_take, getD_app, zeros_get, getD_drop]
  simp only [List.length_append, List.length_take, zeros_len]
  have hmin : min f (l.length + (f + m.length - l.length)) = f := by omega
  rw [hmin]
  by_cases h1 : j < f
  · rw [if_pos (show j < f + m.length by omega), if_pos h1, if_pos h1, if_neg (show ¬ (f ≤ j ∧ j < f + m.length) by omega)]
    split
    · rfl
    · exact (getD_past l j (by omega)).symm
  · by_cases h2 : j < f + m.length
    · rw [if_pos h2, if_neg h1, if_pos (show f ≤ j ∧ j < f + m.length by omega)]
    · rw [if_neg h2, if_neg (show ¬ (f ≤ j ∧ j < f + m.length) by omega)]
      congr 1
      omega
theorem readM_f (l : Str) (f n : Nat) : readM l f n = (List.range n).map fun j => l.getD (f + j) 0 := by
  apply List.ext_getElem
  · rw [readM_len, List.length_map, List.length_range]
  · intro j h1 h2
    have hj : j < n := by rw [readM_len] at h1; exact h1
    have e1 : (readM l f n)[j] = (readM l f n).getD j 0 := by rw [List.getD_eq_getElem?_getD, List.getElem?_eq_getElem h1]; rfl
    rw [e1]
    unfold readM
    rw [getD_take, if_pos hj, getD_app, getD_drop, zeros_get, List.getElem_map, List.getElem_range]
    split
    · rfl
    · rename_i h3
      rw [List.length_drop] at h3
      exact (getD_past l _ (by omega)).symm

/-! What is asked of the regions, and what becomes of them. -/
def inS (a n : Int) (s : Seg) : Bool := decide (s.at_ ≤ a ∧ a + n ≤ s.at_ + s.size)
def holdS (ss : List Seg) (a n : Int) : Option Seg := ss.find? (inS a n)
def goesS (ss : List Seg) (a n need : Int) : Int :=
  if n < 1 ∨ 1048576 < n then 1 else match holdS ss a n with
    | none => 50
    | some s => if bits .and .i64 s.perm need = need then 0 else 52
def gotS (ss : List Seg) (a n : Int) : Str := match holdS ss a n with
  | none => []
  | some s => (List.range n.toNat).map fun j => s.f ((a - s.at_).toNat + j)
def putS (ss : List Seg) (a : Int) (ms : Str) : List Seg := ss.map fun s => if inS a ms.length s = true then ⟨s.at_, s.size, s.perm, over s.f (a - s.at_).toNat ms⟩ else s
def gapS (n : Int) : Int → List Seg → Option Int
  | a, [] => if a + n ≤ 4294967296 then some a else none
  | a, s :: ss => if a + n ≤ s.at_ then some a else gapS n (s.at_ + s.size) ss
def insS (x : Seg) : List Seg → List Seg
  | [] => [x]
  | s :: ss => if x.at_ < s.at_ then x :: s :: ss else s :: insS x ss
def freeS (ss : List Seg) (a n : Int) : Prop := ∀ s ∈ ss, a + n ≤ s.at_ ∨ s.at_ + s.size ≤ a
def delS (ss : List Seg) (a : Int) : List Seg := ss.filter fun s => decide (s.at_ ≠ a)
def permS (ss : List Seg) (a p : Int) : List Seg := ss.map fun s => if s.at_ = a then ⟨s.at_, s.size, p, s.f⟩ else s
def hasS (ss : List Seg) (a : Int) : Bool := ss.any fun s => decide (s.at_ = a)
instance (ss : List Seg) (a n : Int) : Decidable (freeS ss a n) := inferInstanceAs (Decidable (∀ s ∈ ss, _))

theorem find_map {α β : Type} (g : α → β) (p : β → Bool) (l : List α) : (l.map g).find? p = (l.find? fun x => p (g x)).map g := List.find?_map ..
theorem hold_segs (rs : List Raw) (a n : Int) : holdS (segs rs) a n = (holder (blks rs) a n).map seg := by
  unfold holdS holder segs blks
  rw [find_map, find_map, Option.map_map]
  rfl
theorem goes_segs (rs : List Raw) (a n need : Int) : goes (blks rs) a n need = goesS (segs rs) a n need := by
  unfold goes goesS
  rw [hold_segs]
  cases holder (blks rs) a n <;> rfl
theorem got_segs (rs : List Raw) (a n : Int) : got (blks rs) a n = gotS (segs rs) a n := by
  unfold got gotS
  rw [hold_segs]
  cases holder (blks rs) a n with
  | none => rfl
  | some b => exact readM_f _ _ _
theorem gap_segs (n : Int) : ∀ (rs : List Raw) (a : Int), gapFrom n a rs = gapS n a (segs rs)
  | [], a => rfl
  | r :: rs, a => by
    unfold gapFrom
    show _ = if a + n ≤ r.b.at_ then some a else gapS n (r.b.at_ + r.b.size) (segs rs)
    rw [gap_segs n rs]
theorem free_segs (rs : List Raw) (a n : Int) : Free rs a n ↔ freeS (segs rs) a n := by
  constructor
  · intro h s hs
    obtain ⟨r, hr, rfl⟩ := List.mem_map.1 hs
    exact h r hr
  · intro h r hr
    exact h (seg r.b) (List.mem_map_of_mem hr)
theorem segs_len (rs : List Raw) : (segs rs).length = rs.length := List.length_map ..
theorem segs_at (rs : List Raw) (k : Nat) (hk : k < rs.length) : (segs rs)[k]'(by rw [segs_len]; exact hk) = seg rs[k].b := List.getElem_map ..
theorem ins_segs (a s p : Int) : ∀ (rs : List Raw) (i : Nat), i ≤ rs.length → (∀ (k : Nat) (hk : k < rs.length), k < i → rs[k].b.at_ < a) → (∀ (k : Nat) (hk : k < rs.length), i ≤ k → a < rs[k].b.at_) →
    segs (rs.insertIdx i (newR a s p)) = insS ⟨a, s, p, fun _ => 0⟩ (segs rs) := by
  have hz : seg (newR a s p).b = ⟨a, s, p, fun _ => 0⟩ := by
    show Seg.mk a s p _ = _
    congr 1
  intro rs
  induction rs with
  | nil =>
    intro i hi _ _
    have : i = 0 := by simpa using hi
    subst this
    show [seg (newR a s p).b] = _
    rw [hz]
    rfl
  | cons r rs ih =>
    intro i hi hlo hhi
    cases i with
    | zero =>
      have h0 : a < r.b.at_ := hhi 0 (by simp) (Nat.le_refl _)
      show seg (newR a s p).b :: seg r.b :: segs rs = if a < r.b.at_ then _ else _
      rw [if_pos h0, hz]
      rfl
    | succ i =>
      have h0 := hlo 0 (by simp) (by omega)
      rw [List.insertIdx_succ_cons]
      show seg r.b :: segs (rs.insertIdx i (newR a s p)) = if a < r.b.at_ then _ else seg r.b :: insS _ (segs rs)
      have h1 : ¬ a < r.b.at_ := by
        have h2 : r.b.at_ < a := h0
        omega
      rw [if_neg h1, ih i (by simpa using hi) (fun k hk hki => hlo (k + 1) (by simpa using hk) (by omega)) (fun k hk hki => hhi (k + 1) (by simpa using hk) (by omega))]
theorem uniq {rs : List Raw} (ho : Ord rs) {j k : Nat} (hj : j < rs.length) (hk : k < rs.length) (h : rs[j].b.at_ = rs[k].b.at_) : j = k := by
  rcases Nat.lt_trichotomy j k with h1 | h1 | h1
  · have := ho.asc j k hj hk h1; omega
  · exact h1
  · have := ho.asc k j hk hj h1; omega
theorem set_segs {rs : List Raw} {k : Nat} (hk : k < rs.length) (r : Raw) (g : Seg → Seg) (hg : g (seg rs[k].b) = seg r.b) (ho : ∀ (j : Nat) (hj : j < rs.length), j ≠ k → g (seg rs[j].b) = seg rs[j].b) : segs (rs.set k r) = (segs rs).map g := by
  apply List.ext_getElem
  · rw [segs_len, List.length_set, List.length_map, segs_len]
  · intro j h1 h2
    have hj : j < rs.length := by rw [segs_len, List.length_set] at h1; exact h1
    rw [segs_at _ _ (by rw [List.length_set]; exact hj), List.getElem_map, segs_at _ _ hj, List.getElem_set]
    by_cases e : k = j
    · subst e
      rw [if_pos rfl, hg]
    · rw [if_neg e, ho j hj (fun e' => e e'.symm)]
theorem map_erase {α β : Type} (g : α → β) : ∀ (l : List α) (k : Nat), (l.eraseIdx k).map g = (l.map g).eraseIdx k
  | [], k => by cases k <;> rfl
  | x :: l, 0 => rfl
  | x :: l, k + 1 => by rw [List.eraseIdx_cons_succ, List.map_cons, List.map_cons, List.eraseIdx_cons_succ, map_erase g l k]
theorem del_segs {rs : List Raw} (ho : Ord rs) {k : Nat} (hk : k < rs.length) : segs (rs.eraseIdx k) = delS (segs rs) rs[k].b.at_ := by
  have hd : ∀ (l : List Seg) (k : Nat) (hk : k < l.length), (∀ (j : Nat) (hj : j < l.length), l[j].at_ = l[k].at_ → j = k) → l.eraseIdx k = l.filter fun s => decide (s.at_ ≠ l[k].at_) := by
    intro l
    induction l with
    | nil => intro k hk; simp at hk
    | cons s l ih =>
      intro k hk hu
      cases k with
      | zero =>
        rw [List.eraseIdx_cons_zero, List.getElem_cons_zero, List.filter_cons_of_neg (by simp)]
        refine (List.filter_eq_self.2 fun x hx => ?_).symm
        obtain ⟨j, hj, rfl⟩ := List.getElem_of_mem hx
        simp only [ne_eq, decide_eq_true_eq]
        intro e
        have := hu (j + 1) (by simpa using hj) (by simpa using e)
        omega
      | succ k =>
        have h0 : s.at_ ≠ (s :: l)[k + 1].at_ := fun e => by
          have := hu 0 (by simp) (by simpa using e)
          omega
        rw [List.eraseIdx_cons_succ, List.filter_cons_of_pos (by simpa using h0)]
        congr 1
        exact ih k (by simpa using hk) fun j hj e => by
          have := hu (j + 1) (by simpa using hj) (by simpa using e)
          omega
  have h1 : segs (rs.eraseIdx k) = (segs rs).eraseIdx k := by
    exact map_erase _ rs k
  have hk' : k < (segs rs).length := by rw [segs_len]; exact hk
  rw [h1, hd (segs rs) k hk' (fun j hj e => ?_)]
  · unfold delS
    rw [segs_at rs k hk]
    rfl
  · have hj' : j < rs.length := by rw [segs_len] at hj; exact hj
    rw [segs_at rs j hj', segs_at rs k hk] at e
    exact uniq ho hj' hk e
theorem perm_segs {rs : List Raw} (ho : Ord rs) {k : Nat} (hk : k < rs.length) {a p : Int} (ha : rs[k].b.at_ = a) : segs (rs.set k ⟨⟨rs[k].b.at_, rs[k].b.size, p, rs[k].b.bytes⟩, rs[k].A, rs[k].c⟩) = permS (segs rs) a p := by
  refine set_segs hk _ _ ?_ fun j hj hne => ?_
  · show (if rs[k].b.at_ = a then _ else _) = _
    rw [if_pos ha]
    rfl
  · show (if rs[j].b.at_ = a then _ else _) = _
    rw [if_neg fun e => hne (uniq ho hj hk (e.trans ha.symm))]
theorem put_segs {rs : List Raw} (ho : Ord rs) {k : Nat} (hk : k < rs.length) {a : Int} {ms : Str} (hm : 1 ≤ ms.length) (h1 : rs[k].b.at_ ≤ a) (h2 : a + ms.length ≤ rs[k].b.at_ + rs[k].b.size) (A : Option Addr) (c : Nat) :
    segs (rs.set k ⟨⟨rs[k].b.at_, rs[k].b.size, rs[k].b.perm, writeM rs[k].b.bytes (a - rs[k].b.at_).toNat ms⟩, A, c⟩) = putS (segs rs) a ms := by
  refine set_segs hk _ _ ?_ fun j hj hne => ?_
  · show (if inS a ms.length (seg rs[k].b) = true then _ else _) = _
    rw [if_pos (by unfold inS; simpa using ⟨h1, h2⟩)]
    show Seg.mk _ _ _ _ = Seg.mk _ _ _ _
    rw [writeM_f]
    rfl
  · show (if inS a ms.length (seg rs[j].b) = true then _ else _) = _
    rw [if_neg]
    unfold inS
    simp only [decide_eq_true_eq]
    rintro ⟨h3, h4⟩
    have h3' : rs[j].b.at_ ≤ a := h3
    have h4' : a + ms.length ≤ rs[j].b.at_ + rs[j].b.size := h4
    rcases Nat.lt_or_gt_of_ne hne with h5 | h5
    · have := ho.next j k hj hk h5; omega
    · have := ho.next k j hk hj h5; omega
theorem has_segs (rs : List Raw) (a : Int) : hasS (segs rs) a = true ↔ ∃ (k : Nat) (hk : k < rs.length), rs[k].b.at_ = a := by
  unfold hasS
  rw [List.any_eq_true]
  constructor
  · rintro ⟨s, hs, e⟩
    obtain ⟨r, hr, rfl⟩ := List.mem_map.1 hs
    obtain ⟨k, hk, rfl⟩ := List.getElem_of_mem hr
    exact ⟨k, hk, of_decide_eq_true e⟩
  · rintro ⟨k, hk, e⟩
    exact ⟨seg rs[k].b, List.mem_map_of_mem (List.getElem_mem hk), decide_eq_true e⟩
end

section
open Go.RowKit

structure Good (ss : List Seg) : Prop where
  fit : ∀ s ∈ ss, 4096 ≤ s.at_ ∧ s.at_ % 64 = 0 ∧ 64 ≤ s.size ∧ s.size ≤ 1048576 ∧ s.size % 64 = 0 ∧ s.at_ + s.size ≤ 4294967296 ∧ 0 ≤ s.perm ∧ s.perm ≤ 7
  next : ss.Pairwise fun a b => a.at_ + a.size ≤ b.at_
theorem good_nil : Good [] := ⟨(by intro s hs; cases hs), List.Pairwise.nil⟩
theorem Good.al {rs : List Raw} (h : Good (segs rs)) : Al rs := fun r hr => by
  obtain ⟨_, h1, _, _, h2, _⟩ := h.fit (seg r.b) (List.mem_map_of_mem hr)
  exact ⟨h1, h2⟩
theorem ins_mem_s {x s : Seg} : ∀ {ss : List Seg}, s ∈ insS x ss → s = x ∨ s ∈ ss
  | [], h => .inl (List.mem_singleton.1 h)
  | y :: ss, h => by
    unfold insS at h
    split at h
    · rcases List.mem_cons.1 h with h | h
      · exact .inl h
      · exact .inr h
    · rcases List.mem_cons.1 h with h | h
      · exact .inr (by rw [h]; exact List.mem_cons_self ..)
      · rcases ins_mem_s h with h | h
        · exact .inl h
        · exact .inr (List.mem_cons_of_mem _ h)
theorem good_ins {ss : List Seg} (h : Good ss) {x : Seg} (hx : 4096 ≤ x.at_ ∧ x.at_ % 64 = 0 ∧ 64 ≤ x.size ∧ x.size ≤ 1048576 ∧ x.size % 64 = 0 ∧ x.at_ + x.size ≤ 4294967296 ∧ 0 ≤ x.perm ∧ x.perm ≤ 7) (hf : freeS ss x.at_ x.size) : Good (insS x ss) := by
  refine ⟨fun s hs => ?_, ?_⟩
  · rcases ins_mem_s hs with rfl | hs
    · exact hx
    · exact h.fit s hs
  · have key : ∀ (l : List Seg), l.Pairwise (fun a b => a.at_ + a.size ≤ b.at_) → (∀ s ∈ l, 64 ≤ s.size) → freeS l x.at_ x.size → (insS x l).Pairwise fun a b => a.at_ + a.size ≤ b.at_ := by
      intro l
      induction l with
      | nil => intro _ _ _; exact List.pairwise_singleton _ _
      | cons y l ih =>
        intro hp hs hf
        obtain ⟨hy, hp2⟩ := List.pairwise_cons.1 hp
        have hys := hs y (List.mem_cons_self ..)
        unfold insS
        split
        · rename_i hlt
          refine List.pairwise_cons.2 ⟨fun z hz => ?_, hp⟩
          have h1 : x.at_ + x.size ≤ y.at_ := by
            rcases hf y (List.mem_cons_self ..) with h1 | h1
            · exact h1
            · omega
          rcases List.mem_cons.1 hz with rfl | hz
          · exact h1
          · have := hy z hz; omega
        · rename_i hlt
          refine List.pairwise_cons.2 ⟨fun z hz => ?_, ih hp2 (fun s h => hs s (List.mem_cons_of_mem _ h)) fun s h => hf s (List.mem_cons_of_mem _ h)⟩
          rcases ins_mem_s hz with rfl | hz
          · rcases hf y (List.mem_cons_self ..) with h1 | h1
            · omega
            · exact h1
          · exact hy z hz
    exact key ss h.next (fun s hs => (h.fit s hs).2.2.1) hf
theorem good_del {ss : List Seg} (h : Good ss) (a : Int) : Good (delS ss a) :=
  ⟨fun s hs => h.fit s (List.mem_filter.1 hs).1, h.next.sublist List.filter_sublist⟩
theorem good_map {ss : List Seg} (h : Good ss) (g : Seg → Seg) (hg : ∀ s ∈ ss, (g s).at_ = s.at_ ∧ (g s).size = s.size ∧ 0 ≤ (g s).perm ∧ (g s).perm ≤ 7) : Good (ss.map g) := by
  refine ⟨fun s hs => ?_, ?_⟩
  · obtain ⟨s0, h0, rfl⟩ := List.mem_map.1 hs
    obtain ⟨e1, e2, e3, e4⟩ := hg s0 h0
    obtain ⟨f1, f2, f3, f4, f5, f6, _⟩ := h.fit s0 h0
    rw [e1, e2]
    exact ⟨f1, f2, f3, f4, f5, f6, e3, e4⟩
  · rw [List.pairwise_map]
    refine h.next.imp_of_mem fun {a b} ha hb hab => ?_
    obtain ⟨e1, e2, _⟩ := hg a ha
    obtain ⟨e3, _⟩ := hg b hb
    rw [e1, e2, e3]
    exact hab
theorem good_perm {ss : List Seg} (h : Good ss) (a p : Int) (hp : permB p = true) : Good (permS ss a p) := good_map h _ fun s hs => by
  have hp2 : 0 ≤ p ∧ p ≤ 7 := by unfold permB at hp; simpa using hp
  have := (h.fit s hs).2.2.2.2.2.2
  split
  · exact ⟨rfl, rfl, hp2⟩
  · exact ⟨rfl, rfl, this⟩
theorem good_put {ss : List Seg} (h : Good ss) (a : Int) (ms : Str) : Good (putS ss a ms) := good_map h _ fun s hs => by
  have := (h.fit s hs).2.2.2.2.2.2
  split
  · exact ⟨rfl, rfl, this⟩
  · exact ⟨rfl, rfl, this⟩

/-! What each act answers, and what is behind it. -/
abbrev newS (a s p : Int) : Seg := ⟨a, s, p, fun _ => 0⟩
def mapS (ss : List Seg) (s p : Int) : Int × Int × List Seg :=
  if (sizeB s && permB p) = true then (match gapS s 4096 ss with
    | none => (0, 3, ss)
    | some a => (a, 0, insS (newS a (up s) p) ss)) else (0, 1, ss)
def mapAtS (ss : List Seg) (a s p : Int) : Int × List Seg :=
  if (sizeB s && (permB p && startB a s)) = true then (if freeS ss a s then (0, insS (newS a (up s) p) ss) else (51, ss)) else (1, ss)
def unmapS (ss : List Seg) (a : Int) : Int × List Seg := if hasS ss a = true then (0, delS ss a) else (50, ss)
def protS (ss : List Seg) (a p : Int) : Int × List Seg := if permB p = true then (if hasS ss a = true then (0, permS ss a p) else (50, ss)) else (1, ss)
def storeS (ss : List Seg) (a : Int) (ms : Str) (need : Int) : Int × List Seg := if goesS ss a ms.length need = 0 then (0, putS ss a ms) else (goesS ss a ms.length need, ss)
theorem up_fit {a s : Int} (h0 : a % 64 = 0) (h1 : 4096 ≤ a) (hs : 1 ≤ s ∧ s ≤ 1048576) (h2 : a + s ≤ 4294967296) : 4096 ≤ a ∧ a % 64 = 0 ∧ 64 ≤ up s ∧ up s ≤ 1048576 ∧ up s % 64 = 0 ∧ a + up s ≤ 4294967296 := by
  unfold up
  omega
theorem gapS_free {ss : List Seg} : ∀ {s a r : Int}, Good ss → (∀ x ∈ ss, a ≤ x.at_) → gapS s a ss = some r → a ≤ r ∧ r + s ≤ 4294967296 ∧ freeS ss r s ∧ (a % 64 = 0 → r % 64 = 0) := by
  induction ss with
  | nil =>
    intro s a r _ _ h
    unfold gapS at h
    split at h
    · cases h
      exact ⟨Int.le_refl _, by assumption, (fun x hx => by cases hx), fun h => h⟩
    · cases h
  | cons x ss ih =>
    intro s a r ho hx h
    obtain ⟨hnx, hp2⟩ := List.pairwise_cons.1 ho.next
    have hox : Good ss := ⟨fun r hr => ho.fit r (List.mem_cons_of_mem _ hr), hp2⟩
    have hfx := ho.fit x (List.mem_cons_self ..)
    have hax := hx x (List.mem_cons_self ..)
    unfold gapS at h
    split at h
    · cases h
      rename_i hle
      refine ⟨Int.le_refl _, by omega, fun y hy => ?_, fun h => h⟩
      rcases List.mem_cons.1 hy with rfl | hy
      · exact .inl hle
      · have := hnx y hy
        exact .inl (by omega)
    · obtain ⟨h1, h2, h3, h4⟩ := ih hox hnx h
      refine ⟨by omega, h2, fun y hy => ?_, fun h0 => h4 (by omega)⟩
      rcases List.mem_cons.1 hy with rfl | hy
      · exact .inr h1
      · exact h3 y hy
theorem freeS_up {ss : List Seg} (hg : Good ss) {a s : Int} (h0 : a % 64 = 0) (h : freeS ss a s) : freeS ss a (up s) := fun x hx => by
  obtain ⟨_, h1, _⟩ := hg.fit x hx
  rcases h x hx with h3 | h3
  · left
    unfold up
    omega
  · exact .inr h3
theorem size_of {s : Int} (h : sizeB s = true) : 1 ≤ s ∧ s ≤ 1048576 := by unfold sizeB at h; simpa using h
theorem perm_of {s : Int} (h : permB s = true) : 0 ≤ s ∧ s ≤ 7 := by unfold permB at h; simpa using h
theorem start_of {a s : Int} (h : startB a s = true) : a % 64 = 0 ∧ 4096 ≤ a ∧ a ≤ 4294967296 - s := by unfold startB at h; simpa using h
theorem good_map_ {ss : List Seg} (h : Good ss) (s p : Int) : Good (mapS ss s p).2.2 := by
  unfold mapS
  split
  · rename_i hb
    obtain ⟨h1, h2⟩ := (Bool.and_eq_true _ _).mp hb
    cases hgp : gapS s 4096 ss with
    | none => exact h
    | some a =>
      obtain ⟨g1, g2, g3, g4⟩ := gapS_free h (fun x hx => (h.fit x hx).1) hgp
      have g5 := g4 (by omega)
      have h3 := up_fit g5 g1 (size_of h1) (by omega)
      have h4 := perm_of h2
      exact good_ins h (x := newS a (up s) p) ⟨h3.1, h3.2.1, h3.2.2.1, h3.2.2.2.1, h3.2.2.2.2.1, h3.2.2.2.2.2, h4.1, h4.2⟩ (freeS_up h g5 g3)
  · exact h
theorem good_mapAt {ss : List Seg} (h : Good ss) (a s p : Int) : Good (mapAtS ss a s p).2 := by
  unfold mapAtS
  split
  · rename_i hb
    obtain ⟨h1, h2⟩ := (Bool.and_eq_true _ _).mp hb
    obtain ⟨h2, h3⟩ := (Bool.and_eq_true _ _).mp h2
    split
    · rename_i hf
      have h5 := start_of h3
      have h3 := up_fit h5.1 h5.2.1 (size_of h1) (by omega)
      have h4 := perm_of h2
      exact good_ins h (x := newS a (up s) p) ⟨h3.1, h3.2.1, h3.2.2.1, h3.2.2.2.1, h3.2.2.2.2.1, h3.2.2.2.2.2, h4.1, h4.2⟩ (freeS_up h h5.1 hf)
    · exact h
  · exact h
theorem good_unmap {ss : List Seg} (h : Good ss) (a : Int) : Good (unmapS ss a).2 := by
  unfold unmapS
  split
  · exact good_del h a
  · exact h
theorem good_prot {ss : List Seg} (h : Good ss) (a p : Int) : Good (protS ss a p).2 := by
  unfold protS
  split
  · rename_i hb
    split
    · exact good_perm h a p hb
    · exact h
  · exact h
theorem good_store {ss : List Seg} (h : Good ss) (a : Int) (ms : Str) (need : Int) : Good (storeS ss a ms need).2 := by
  unfold storeS
  split
  · exact good_put h a ms
  · exact h

/-! A space in memory. -/
/-- A space whose box is the block g, which lies in just the blocks F, and is these regions. -/
def Lies (w : World) (B g : Nat) (F : Nat → Prop) (ss : List Seg) : Prop := ∃ A c rs, Sp w B g A c rs ∧ segs rs = ss ∧ Good ss ∧ ∀ k, F k ↔ Foot g A rs k
/-- Behind an act: the space is these regions now; nothing beside it has changed; it lies in what it lay in, and in what is new. -/
def Went (w w' : World) (B g : Nat) (F : Nat → Prop) (ss : List Seg) : Prop := ∃ F', Lies w' B g F' ss ∧ Beside w w' F ∧ ∀ k, F' k → F k ∨ w.heap.size ≤ k
theorem Lies.good {w : World} {B g : Nat} {F : Nat → Prop} {ss : List Seg} (h : Lies w B g F ss) : Good ss := by
  obtain ⟨_, _, _, _, _, h, _⟩ := h
  exact h
theorem Lies.lt {w : World} {B g : Nat} {F : Nat → Prop} {ss : List Seg} (h : Lies w B g F ss) {k : Nat} (hk : F k) : B ≤ k ∧ k < w.heap.size := by
  obtain ⟨A, c, rs, h1, _, _, h4⟩ := h
  exact h1.lt ((h4 k).1 hk)
theorem Lies.own {w : World} {B g : Nat} {F : Nat → Prop} {ss : List Seg} (h : Lies w B g F ss) : F g := by
  obtain ⟨A, c, rs, h1, _, _, h4⟩ := h
  exact (h4 g).2 (.inl rfl)
theorem Lies.beside {w w' : World} {B g : Nat} {F p : Nat → Prop} {ss : List Seg} (h : Lies w B g F ss) (hb : Beside w w' p) (hn : ∀ k, F k → ¬ p k) : Lies w' B g F ss := by
  obtain ⟨A, c, rs, h1, h2, h3, h4⟩ := h
  exact ⟨A, c, rs, h1.beside hb fun k hk => hn k ((h4 k).2 hk), h2, h3, h4⟩
theorem Lies.below {w w' : World} {B g : Nat} {F : Nat → Prop} {ss : List Seg} (h : Lies w B g F ss) (hb : Below w.heap.size w w') : Lies w' B g F ss := h.beside (Beside.of_below hb (fun _ => False)) fun _ _ e => e
theorem Went.stay {w w' : World} {B g : Nat} {F : Nat → Prop} {ss : List Seg} (h : Lies w B g F ss) (hb : Below w.heap.size w w') : Went w w' B g F ss := ⟨F, h.below hb, Beside.of_below hb _, fun _ hk => .inl hk⟩
theorem Went.lies {w w' : World} {B g : Nat} {F : Nat → Prop} {ss : List Seg} (h : Went w w' B g F ss) : ∃ F', Lies w' B g F' ss ∧ Beside w w' F ∧ ∀ k, F' k → F k ∨ w.heap.size ≤ k := h
theorem Went.then {w w1 w2 : World} {B g : Nat} {F F' : Nat → Prop} {ss : List Seg} (hb : Beside w w1 F) (hF : ∀ k, F' k → F k ∨ w.heap.size ≤ k) (h : Went w1 w2 B g F' ss) : Went w w2 B g F ss := by
  obtain ⟨F2, h1, h2, h3⟩ := h
  refine ⟨F2, h1, hb.then h2 fun k hk hf => ?_, fun k hk => ?_⟩
  · rcases hF k hf with h | h
    · exact h
    · omega
  · rcases h3 k hk with h | h
    · exact hF k h
    · exact .inr (Nat.le_trans hb.size h)
theorem lies_of {w w' : World} {B g : Nat} {A A' : Option Addr} {c' : Nat} {rs rs' : List Raw} {F : Nat → Prop} (h : ∀ k, F k ↔ Foot g A rs k) (hs : Sp w' B g A' c' rs') (hg : Good (segs rs')) (hb : Beside w w' (Foot g A rs)) (hF : ∀ k, Foot g A' rs' k → Foot g A rs k ∨ w.heap.size ≤ k) : Went w w' B g F (segs rs') :=
  ⟨Foot g A' rs', ⟨A', c', rs', hs, rfl, hg, fun _ => Iff.rfl⟩, hb.weak fun k _ hk => (h k).2 hk, fun k hk => (hF k hk).imp (h k).2 id⟩
theorem Inset.went {w w' : World} {B g : Nat} {A : Option Addr} {rs : List Raw} {a s p : Int} {e : Ending} {F : Nat → Prop} (h : Inset w B g A rs a s p e w') (hF : ∀ k, F k ↔ Foot g A rs k) (hg : Good (insS (newS a s p) (segs rs))) : Went w w' B g F (insS (newS a s p) (segs rs)) := by
  obtain ⟨_, i, A', c', h1, h2, h3, h4, h5, h6⟩ := h
  rw [← ins_segs a s p rs i h1 h2 h3] at hg ⊢
  refine lies_of hF h4 hg h5 fun k hk => ?_
  rcases hk with rfl | hk | ⟨r, hr, hk⟩
  · exact .inl (.inl rfl)
  · rcases h6 with e | ⟨q, hq, e⟩
    · exact .inl (.inr (.inl (hk.trans e)))
    · rw [e] at hk
      cases hk
      exact .inr hq
  · rcases ins_mem h1 hr with rfl | hr
    · cases hk
    · exact .inl (.inr (.inr ⟨r, hr, hk⟩))
end
end Go.Proofs.Ythbdncojekpanaa
