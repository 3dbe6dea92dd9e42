/-
  A space as plain things: regions in order, each with what is read of it byte by byte; what each act does to it.
  Regions: the regions of a space, one by one.
-/
import Derived.Test.YtfkhfjefddgkoaaDoorZSZ
namespace Go.Proofs.YtfkhfjefddgkoaaDoor
open Go.RowKit

structure Seg where
  at_ : Int
  size : Int
  perm : Int
  f : Nat → UInt8
def seg (b : Blk) : Seg := ⟨b.at_, b.size, b.perm, fun j => b.bytes.getD j 0⟩
def segs (rs : List Raw) : List Seg := rs.map fun r => seg r.b
def over (f : Nat → UInt8) (k : Nat) (ms : Str) : Nat → UInt8 := fun j => if k ≤ j ∧ j < k + ms.length then ms.getD (j - k) 0 else f j
theorem getD_app (l m : Str) (j : Nat) : (l ++ m).getD j 0 = if j < l.length then l.getD j 0 else m.getD (j - l.length) 0 := by
  simp only [List.getD_eq_getElem?_getD, List.getElem?_append]
  split <;> rfl
theorem zeros_get (n j : Nat) : (zeros n).getD j 0 = 0 := by
  simp only [zeros, List.getD_eq_getElem?_getD, List.getElem?_replicate]
  split <;> rfl
theorem getD_past (l : Str) (j : Nat) (h : l.length ≤ j) : l.getD j 0 = 0 := by
  rw [List.getD_eq_getElem?_getD, List.getElem?_eq_none h]; rfl
theorem getD_take (l : Str) (n j : Nat) : (l.take n).getD j 0 = if j < n then l.getD j 0 else 0 := by
  simp only [List.getD_eq_getElem?_getD, List.getElem?_take]
  split <;> rfl
theorem getD_drop (l : Str) (n j : Nat) : (l.drop n).getD j 0 = l.getD (n + j) 0 := by
  simp only [List.getD_eq_getElem?_getD, List.getElem?_drop]
theorem writeM_f (l : Str) (f : Nat) (m : Str) : (fun j => (writeM l f m).getD j 0) = over (fun j => l.getD j 0) f m := by
  funext j
  unfold writeM over
  rw [getD_app, getD_app, getD_take, getD_app, zeros_get, getD_drop]
  simp only [List.length_append, List.length_take, zeros_len]
  have hmin : min f (l.length + (f + m.length - l.length)) = f := by omega
  rw [hmin]
  by_cases h1 : j < f
  · rw [if_pos (show j < f + m.length by omega), if_pos h1, if_pos h1, if_neg (show ¬ (f ≤ j ∧ j < f + m.length) by omega)]
    split
    · rfl
    · exact (getD_past l j (by omega)).symm
  · by_cases h2 : j < f + m.length
    · rw [if_pos h2, if_neg h1, if_pos (show f ≤ j ∧ j < f + m.length by omega)]
    · rw [if_neg h2, if_neg (show ¬ (f ≤ j ∧ j < f + m.length) by omega)]
      congr 1
      omega
theorem readM_f (l : Str) (f n : Nat) : readM l f n = (List.range n).map fun j => l.getD (f + j) 0 := by
  apply List.ext_getElem
  · rw [readM_len, List.length_map, List.length_range]
  · intro j h1 h2
    have hj : j < n := by rw [readM_len] at h1; exact h1
    have e1 : (readM l f n)[j] = (readM l f n).getD j 0 := by rw [List.getD_eq_getElem?_getD, List.getElem?_eq_getElem h1]; rfl
    rw [e1]
    unfold readM
    rw [getD_take, if_pos hj, getD_app, getD_drop, zeros_get, List.getElem_map, List.getElem_range]
    split
    · rfl
    · rename_i h3
      rw [List.length_drop] at h3
      exact (getD_past l _ (by omega)).symm

/-! What is asked of the regions, and what becomes of them. -/
def inS (a n : Int) (s : Seg) : Bool := decide (s.at_ ≤ a ∧ a + n ≤ s.at_ + s.size)
def holdS (ss : List Seg) (a n : Int) : Option Seg := ss.find? (inS a n)
def goesS (ss : List Seg) (a n need : Int) : Int :=
  if n < 1 ∨ 1048576 < n then 1 else match holdS ss a n with
    | none => 50
    | some s => if bits .and .i64 s.perm need = need then 0 else 52
def gotS (ss : List Seg) (a n : Int) : Str := match holdS ss a n with
  | none => []
  | some s => (List.range n.toNat).map fun j => s.f ((a - s.at_).toNat + j)
def putS (ss : List Seg) (a : Int) (ms : Str) : List Seg := ss.map fun s => if inS a ms.length s = true then ⟨s.at_, s.size, s.perm, over s.f (a - s.at_).toNat ms⟩ else s
def gapS (n : Int) : Int → List Seg → Option Int
  | a, [] => if a + n ≤ 4294967296 then some a else none
  | a, s :: ss => if a + n ≤ s.at_ then some a else gapS n (s.at_ + s.size) ss
def insS (x : Seg) : List Seg → List Seg
  | [] => [x]
  | s :: ss => if x.at_ < s.at_ then x :: s :: ss else s :: insS x ss
def freeS (ss : List Seg) (a n : Int) : Prop := ∀ s ∈ ss, a + n ≤ s.at_ ∨ s.at_ + s.size ≤ a
def delS (ss : List Seg) (a : Int) : List Seg := ss.filter fun s => decide (s.at_ ≠ a)
def permS (ss : List Seg) (a p : Int) : List Seg := ss.map fun s => if s.at_ = a then ⟨s.at_, s.size, p, s.f⟩ else s
def hasS (ss : List Seg) (a : Int) : Bool := ss.any fun s => decide (s.at_ = a)
instance (ss : List Seg) (a n : Int) : Decidable (freeS ss a n) := inferInstanceAs (Decidable (∀ s ∈ ss, _))

theorem find_map {α β : Type} (g : α → β) (p : β → Bool) (l : List α) : (l.map g).find? p = (l.find? fun x => p (g x)).map g := List.find?_map ..
theorem hold_segs (rs : List Raw) (a n : Int) : holdS (segs rs) a n = (holder (blks rs) a n).map seg := by
  unfold holdS holder segs blks
  rw [find_map, find_map, Option.map_map]
  rfl
theorem goes_segs (rs : List Raw) (a n need : Int) : goes (blks rs) a n need = goesS (segs rs) a n need := by
  unfold goes goesS
  rw [hold_segs]
  cases holder (blks rs) a n <;> rfl
theorem got_segs (rs : List Raw) (a n : Int) : got (blks rs) a n = gotS (segs rs) a n := by
  unfold got gotS
  rw [hold_segs]
  cases holder (blks rs) a n with
  | none => rfl
  | some b => exact readM_f _ _ _
theorem gap_segs (n : Int) : ∀ (rs : List Raw) (a : Int), gapFrom n a rs = gapS n a (segs rs)
  | [], a => rfl
  | r :: rs, a => by
    unfold gapFrom
    show _ = if a + n ≤ r.b.at_ then some a else gapS n (r.b.at_ + r.b.size) (segs rs)
    rw [gap_segs n rs]
theorem free_segs (rs : List Raw) (a n : Int) : Free rs a n ↔ freeS (segs rs) a n := by
  constructor
  · intro h s hs
    obtain ⟨r, hr, rfl⟩ := List.mem_map.1 hs
    exact h r hr
  · intro h r hr
    exact h (seg r.b) (List.mem_map_of_mem hr)
theorem segs_len (rs : List Raw) : (segs rs).length = rs.length := List.length_map ..
theorem segs_at (rs : List Raw) (k : Nat) (hk : k < rs.length) : (segs rs)[k]'(by rw [segs_len]; exact hk) = seg rs[k].b := List.getElem_map ..
theorem ins_segs (a s p : Int) : ∀ (rs : List Raw) (i : Nat), i ≤ rs.length → (∀ (k : Nat) (hk : k < rs.length), k < i → rs[k].b.at_ < a) → (∀ (k : Nat) (hk : k < rs.length), i ≤ k → a < rs[k].b.at_) →
    segs (rs.insertIdx i (newR a s p)) = insS ⟨a, s, p, fun _ => 0⟩ (segs rs) := by
  have hz : seg (newR a s p).b = ⟨a, s, p, fun _ => 0⟩ := by
    show Seg.mk a s p _ = _
    congr 1
  intro rs
  induction rs with
  | nil =>
    intro i hi _ _
    have : i = 0 := by simpa using hi
    subst this
    show [seg (newR a s p).b] = _
    rw [hz]
    rfl
  | cons r rs ih =>
    intro i hi hlo hhi
    cases i with
    | zero =>
      have h0 : a < r.b.at_ := hhi 0 (by simp) (Nat.le_refl _)
      show seg (newR a s p).b :: seg r.b :: segs rs = if a < r.b.at_ then _ else _
      rw [if_pos h0, hz]
      rfl
    | succ i =>
      have h0 := hlo 0 (by simp) (by omega)
      rw [List.insertIdx_succ_cons]
      show seg r.b :: segs (rs.insertIdx i (newR a s p)) = if a < r.b.at_ then _ else seg r.b :: insS _ (segs rs)
      have h1 : ¬ a < r.b.at_ := by
        have h2 : r.b.at_ < a := h0
        omega
      rw [if_neg h1, ih i (by simpa using hi) (fun k hk hki => hlo (k + 1) (by simpa using hk) (by omega)) (fun k hk hki => hhi (k + 1) (by simpa using hk) (by omega))]
theorem uniq {rs : List Raw} (ho : Ord rs) {j k : Nat} (hj : j < rs.length) (hk : k < rs.length) (h : rs[j].b.at_ = rs[k].b.at_) : j = k := by
  rcases Nat.lt_trichotomy j k with h1 | h1 | h1
  · have := ho.asc j k hj hk h1; omega
  · exact h1
  · have := ho.asc k j hk hj h1; omega
theorem set_segs {rs : List Raw} {k : Nat} (hk : k < rs.length) (r : Raw) (g : Seg → Seg) (hg : g (seg rs[k].b) = seg r.b) (ho : ∀ (j : Nat) (hj : j < rs.length), j ≠ k → g (seg rs[j].b) = seg rs[j].b) : segs (rs.set k r) = (segs rs).map g := by
  apply List.ext_getElem
  · rw [segs_len, List.length_set, List.length_map, segs_len]
  · intro j h1 h2
    have hj : j < rs.length := by rw [segs_len, List.length_set] at h1; exact h1
    rw [segs_at _ _ (by rw [List.length_set]; exact hj), List.getElem_map, segs_at _ _ hj, List.getElem_set]
    by_cases e : k = j
    · subst e
      rw [if_pos rfl, hg]
    · rw [if_neg e, ho j hj (fun e' => e e'.symm)]
theorem map_erase {α β : Type} (g : α → β) : ∀ (l : List α) (k : Nat), (l.eraseIdx k).map g = (l.map g).eraseIdx k
  | [], k => by cases k <;> rfl
  | x :: l, 0 => rfl
  | x :: l, k + 1 => by rw [List.eraseIdx_cons_succ, List.map_cons, List.map_cons, List.eraseIdx_cons_succ, map_erase g l k]
theorem del_segs {rs : List Raw} (ho : Ord rs) {k : Nat} (hk : k < rs.length) : segs (rs.eraseIdx k) = delS (segs rs) rs[k].b.at_ := by
  have hd : ∀ (l : List Seg) (k : Nat) (hk : k < l.length), (∀ (j : Nat) (hj : j < l.length), l[j].at_ = l[k].at_ → j = k) → l.eraseIdx k = l.filter fun s => decide (s.at_ ≠ l[k].at_) := by
    intro l
    induction l with
    | nil => intro k hk; simp at hk
    | cons s l ih =>
      intro k hk hu
      cases k with
      | zero =>
        rw [List.eraseIdx_cons_zero, List.getElem_cons_zero, List.filter_cons_of_neg (by simp)]
        refine (List.filter_eq_self.2 fun x hx => ?_).symm
        obtain ⟨j, hj, rfl⟩ := List.getElem_of_mem hx
        simp only [ne_eq, decide_eq_true_eq]
        intro e
        have := hu (j + 1) (by simpa using hj) (by simpa using e)
        omega
      | succ k =>
        have h0 : s.at_ ≠ (s :: l)[k + 1].at_ := fun e => by
          have := hu 0 (by simp) (by simpa using e)
          omega
        rw [List.eraseIdx_cons_succ, List.filter_cons_of_pos (by simpa using h0)]
        congr 1
        exact ih k (by simpa using hk) fun j hj e => by
          have := hu (j + 1) (by simpa using hj) (by simpa using e)
          omega
  have h1 : segs (rs.eraseIdx k) = (segs rs).eraseIdx k := by
    exact map_erase _ rs k
  have hk' : k < (segs rs).length := by rw [segs_len]; exact hk
  rw [h1, hd (segs rs) k hk' (fun j hj e => ?_)]
  · unfold delS
    rw [segs_at rs k hk]
    rfl
  · have hj' : j < rs.length := by rw [segs_len] at hj; exact hj
    rw [segs_at rs j hj', segs_at rs k hk] at e
    exact uniq ho hj' hk e
theorem perm_segs {rs : List Raw} (ho : Ord rs) {k : Nat} (hk : k < rs.length) {a p : Int} (ha : rs[k].b.at_ = a) : segs (rs.set k ⟨⟨rs[k].b.at_, rs[k].b.size, p, rs[k].b.bytes⟩, rs[k].A, rs[k].c⟩) = permS (segs rs) a p := by
  refine set_segs hk _ _ ?_ fun j hj hne => ?_
  · show (if rs[k].b.at_ = a then _ else _) = _
    rw [if_pos ha]
    rfl
  · show (if rs[j].b.at_ = a then _ else _) = _
    rw [if_neg fun e => hne (uniq ho hj hk (e.trans ha.symm))]
theorem put_segs {rs : List Raw} (ho : Ord rs) {k : Nat} (hk : k < rs.length) {a : Int} {ms : Str} (hm : 1 ≤ ms.length) (h1 : rs[k].b.at_ ≤ a) (h2 : a + ms.length ≤ rs[k].b.at_ + rs[k].b.size) (A : Option Addr) (c : Nat) :
    segs (rs.set k ⟨⟨rs[k].b.at_, rs[k].b.size, rs[k].b.perm, writeM rs[k].b.bytes (a - rs[k].b.at_).toNat ms⟩, A, c⟩) = putS (segs rs) a ms := by
  refine set_segs hk _ _ ?_ fun j hj hne => ?_
  · show (if inS a ms.length (seg rs[k].b) = true then _ else _) = _
    rw [if_pos (by unfold inS; simpa using ⟨h1, h2⟩)]
    show Seg.mk _ _ _ _ = Seg.mk _ _ _ _
    rw [writeM_f]
    rfl
  · show (if inS a ms.length (seg rs[j].b) = true then _ else _) = _
    rw [if_neg]
    unfold inS
    simp only [decide_eq_true_eq]
    rintro ⟨h3, h4⟩
    have h3' : rs[j].b.at_ ≤ a := h3
    have h4' : a + ms.length ≤ rs[j].b.at_ + rs[j].b.size := h4
    rcases Nat.lt_or_gt_of_ne hne with h5 | h5
    · have := ho.next j k hj hk h5; omega
    · have := ho.next k j hk hj h5; omega
theorem has_segs (rs : List Raw) (a : Int) : hasS (segs rs) a = true ↔ ∃ (k : Nat) (hk : k < rs.length), rs[k].b.at_ = a := by
  unfold hasS
  rw [List.any_eq_true]
  constructor
  · rintro ⟨s, hs, e⟩
    obtain ⟨r, hr, rfl⟩ := List.mem_map.1 hs
    obtain ⟨k, hk, rfl⟩ := List.getElem_of_mem hr
    exact ⟨k, hk, of_decide_eq_true e⟩
  · rintro ⟨k, hk, e⟩
    exact ⟨seg rs[k].b, List.mem_map_of_mem (List.getElem_mem hk), decide_eq_true e⟩
end Go.Proofs.YtfkhfjefddgkoaaDoor

namespace Go.Proofs.YtfkhfjefddgkoaaDoor
open Go.RowKit

/-- A region alone. -/
structure Rg where
  at_ : Int
  size : Int
  perm : Int
abbrev rgC (r : Rg) : List Value := [.int .i64 r.at_, .int .i64 r.size, .int .i64 r.perm]
def gcells (l : List Rg) : List Value := l.flatMap rgC
theorem gcells_len (l : List Rg) : (gcells l).length = l.length * 3 := by
  induction l with
  | nil => rfl
  | cons r l ih =>
    have : gcells (r :: l) = rgC r ++ gcells l := rfl
    have h3 : (rgC r).length = 3 := rfl
    rw [this, List.length_append, h3, ih, List.length_cons]
    omega
theorem gcells_app (l l' : List Rg) : gcells (l ++ l') = gcells l ++ gcells l' := by simp [gcells]
theorem gcells_one (l : List Rg) : ∀ u ∈ gcells l, u.oneCell' = true := by
  intro u hu
  obtain ⟨r, _, hr⟩ := List.mem_flatMap.1 hu
  simp only [rgC, List.mem_cons, List.not_mem_nil, or_false] at hr
  rcases hr with rfl | rfl | rfl <;> rfl
def Raw.rg (r : Raw) : Rg := ⟨r.b.at_, r.b.size, r.b.perm⟩
abbrev rgs (rs : List Raw) : List Rg := rs.map Raw.rg
theorem Tryd.info_region : (Tryd.prog.info? 89).map (fun i => (i.zero.map (fun z => z.cells.toList), i.size, i.bytes)) = some (some [.int .i64 0, .int .i64 0, .int .i64 0], 3, 24) := by kernel_rfl
theorem region_parts : ∃ i z, Tryd.prog.info? 89 = some i ∧ i.zero = some z ∧ z.cells.size = 3 ∧ i.size = 3 ∧ i.bytes = 24 := by
  have h := Tryd.info_region
  cases hi : Tryd.prog.info? 89 with
  | none => rw [hi] at h; cases h
  | some i =>
    rw [hi] at h
    simp only [Option.map_some, Option.some.injEq, Prod.mk.injEq] at h
    obtain ⟨h1, h2, h3⟩ := h
    cases hz : i.zero with
    | none => rw [hz] at h1; cases h1
    | some z =>
      rw [hz] at h1
      simp only [Option.map_some, Option.some.injEq] at h1
      exact ⟨i, z, rfl, hz, by have := congrArg List.length h1; simpa using this, h2, h3⟩
theorem row_form3 {w : World} {B n sz : Nat} {v : Value} {e : TypeId} {xs : List Value} (h : w.ownsRow B e sz v n xs) : ∃ A c, v = .slice A n c := by
  rcases h.2 with ⟨hv, h0⟩ | ⟨g, cap, cur, hv, _⟩
  · exact ⟨_, _, by rw [hv, h0]⟩
  · exact ⟨_, _, hv⟩
theorem wpList_appR {w : World} {ops : Array Oper} {rest : List Oper} {o : Oper} {a : Act} {Q : Exit → Act → World → Prop} (hgd : o.guard = none) (s x : Operand)
    (ho : o.op = .call { callee := .builtin .append, args := #[s, x], argTypes := #[83, 83] })
    (B : Nat) (A : Option Addr) (n c vb : Nat) (l : List Rg) (r : Rg) (hs : a.eval s = .slice A n c) (hx : a.eval x = .slice (some ⟨vb, 0, none⟩) 1 1) (hown : w.ownsRow B 89 3 (.slice A n c) n (gcells l)) (hB : B ≤ w.heap.size) (hfew : n ≤ 67108864)
    (hv : ∃ t, Bx w vb (rgC r).toArray t)
    (h : ∀ A' c' w', w'.ownsRow B 89 3 (.slice A' (n + 1) c') (n + 1) (gcells (l ++ [r])) → Below B w w' → wpList Tryd.prog ops Q rest (a.put o.dst (.slice A' (n + 1) c')) w') : wpList Tryd.prog ops Q (o :: rest) a w := by
  obtain ⟨i0, z, hi0, hz0, hzs, hz1, hz2⟩ := region_parts
  obtain ⟨t, hv⟩ := hv
  refine wpList_append_own_at w hgd s x 83 ho B 89 i0 z 3 24 Tryd.underlying83 hi0 hz0 hz1 hz2 hzs (by omega) (.slice A n c) n (gcells l) hs hown ⟨vb, 0, none⟩ 1 1 (gcells [r]) hx (by rw [gcells_len]; rfl) (fun j u hu => by rw [plainAdd, Nat.zero_add, hv.c j]; simpa [gcells] using hu) (gcells_one _) (by simp only [maxLen]; omega) (by omega) hB fun v' w' h1 h2 _ h4 => ?_
  obtain ⟨A', c', rfl⟩ := row_form3 h1
  rw [← gcells_app] at h1
  refine h A' c' w' h1 ((Below.refl B w).grown h2 hB fun k hk => ?_)
  exact (hown.lt k hk).1
theorem Bx.new2 (w : World) (o : Obj) (cs : Array Value) (t : TypeId) : Bx ((w.alloc o).alloc (.cells cs t)) (w.heap.size + 1) cs t := by
  have h := Bx.new (w.alloc o) cs t
  simpa using h
theorem alloc2_beside (w : World) (o o' : Obj) (p : Nat → Prop) : Beside w ((w.alloc o).alloc o') p := (Beside.alloc w o p).trans (Beside.alloc _ o' p)
/-- Behind Regions. -/
def Rgns (w : World) (l : List Rg) (e : Ending) (w' : World) : Prop :=
  ∃ A' c', e = .returned (.slice A' l.length c') ∧ w'.ownsRow w.heap.size 89 3 (.slice A' l.length c') l.length (gcells l) ∧ Below w.heap.size w w'
set_option maxRecDepth 100000 in
set_option maxHeartbeats 2000000 in
theorem Regions_any (B g : Nat) (A : Option Addr) (c : Nat) (rs : List Raw) (w : World) (h : Sp w B g A c rs) :
    Calls Tryd.prog 34 #[.pointer (some ⟨g, 0, none⟩)] w (Rgns w (rgs rs)) := by
  obtain ⟨i0, z, hi0, hz0, hzs, hz1, hz2⟩ := region_parts
  have HS := Lib.hid h
  have hc : w.cell? ⟨g, 0, none⟩ = some (.slice A rs.length c) := h.box.c 0
  have hfew := ord_few h.ord
  have HBL := Lib.hid h.bls
  clear h
  generalize hn : rs.length = n at *
  have HN := Lib.hid hn
  have HE := Lib.hid (show ∀ A' c' w', w'.ownsRow w.heap.size 89 3 (.slice A' n c') n (gcells (rgs rs)) → Below w.heap.size w w' → Rgns w (rgs rs) (.returned (.slice A' n c')) w' from fun A' c' w' h1 h2 => by
    have hl : (rgs rs).length = n := by rw [List.length_map]; exact hn
    exact ⟨A', c', by rw [hl], by rw [hl]; exact h1, h2⟩)
  generalize hL : Rgns w (rgs rs) = L at *
  clear hL hn
  go_enter Tryd.func34, Tryd.ntmps34
  go_wp2_with (at_make; refine wpList_make_own _ rfl _ _ 83 rfl w.heap.size 89 i0 z 3 Tryd.underlying83 hi0 hz0 hz1 _ _ _ n rfl rfl rfl (by rw [hz2]; omega) (by simp only [maxLen]; omega) (Nat.le_refl _) ?_; intro w1 hown hg1; have HO := Lib.hid hown; have HB := Lib.hid ((Below.refl w.heap.size w).grown hg1 (Nat.le_refl _) (fun k hk => by cases hk)); have hc1 := cell_below HB.out hc; clear hown hg1)
  go_loopw [3, 19] (fun t3 t19 wr => ∃ (k : Nat) (A' : Option Addr) (c' : Nat), k ≤ n ∧ t19 = .int .i64 k ∧ t3 = .slice A' k c' ∧ wr.ownsRow w.heap.size 89 3 (.slice A' k c') k (gcells (rgs (rs.take k))) ∧ Below w.heap.size w wr) (fun _ t19 _ => n - (intOf t19).toNat)
  case atStart => exact ⟨0, _, _, Nat.zero_le _, rfl, rfl, HO.out, HB.out⟩
  case round =>
    obtain ⟨k, A', c', hk, rfl, rfl, ho, hb⟩ := hrel
    have HO2 := Lib.hid ho
    have HB2 := Lib.hid hb
    clear ho hb
    by_cases hlt : k < n
    · have hkr : k < rs.length := by rw [HN.out]; exact hlt
      obtain ⟨ad, rfl⟩ : ∃ ad, A = some ad := by
        cases A with
        | none => have := (HBL.out.nil rfl).1; have := HN.out; omega
        | some ad => exact ⟨ad, rfl⟩
      obtain ⟨b, o, rfl⟩ := HBL.out.plain ad rfl
      obtain ⟨c0, c1, c2, c3⟩ := (HBL.out.below HB2.out).at_ b o k rfl hkr
      have HTK := Lib.hid (show rgs (rs.take k) ++ [rs[k].rg] = rgs (rs.take (k + 1)) by show (rs.take k).map Raw.rg ++ [rs[k].rg] = (rs.take (k + 1)).map Raw.rg; rw [List.take_succ_eq_append_getElem hkr, List.map_append]; rfl)
      have HRG := Lib.hid (show rs[k].rg = ⟨rs[k].b.at_, rs[k].b.size, rs[k].b.perm⟩ from rfl)
      generalize rs[k].rg = rg at *
      generalize hA0 : rs[k].A = A0 at *
      generalize hl0 : rs[k].b.bytes.length = l0 at *
      generalize hcc : rs[k].c = cc at *
      generalize hpm : rs[k].b.perm = p0 at *
      generalize hsz : rs[k].b.size = s0 at *
      generalize hat : rs[k].b.at_ = a0 at *
      clear hpm hA0 hl0 hcc hsz hat
      have HB3 := Lib.hid (fun o o' => (Beside.of_below HB2.out (fun k => w.heap.size ≤ k)).trans (alloc2_beside wr o o' (fun k => w.heap.size ≤ k)))
      have HO3 := Lib.hid (fun o o' => own_beside HO2.out (alloc2_beside wr o o' (fun _ => False)) fun _ _ e => e)
      have HRB := Lib.hid (fun o => Bx.new2 wr o (rgC rg).toArray 89)
      have HRG2 := HRG.out
      subst HRG2
      have HTK2 := Lib.hid (fun w' (b2 : Below w.heap.size ((wr.alloc (.cells #[.int .i64 a0, .int .i64 s0, .int .i64 p0, .slice A0 l0 cc] 122)).alloc (.cells #[.int .i64 a0, .int .i64 s0, .int .i64 p0] 89)) w') => (((HB3.out _ _).below (fun _ h => h) (Nat.le_refl _)).trans b2))
      go_wp2_with (at_builtin; refine wpList_appR rfl (.tmp 23) (.tmp 26) rfl w.heap.size A' k c' (wr.heap.size + 1) (rgs (rs.take k)) _ (by rfl) (by rfl) (HO3.out _ _) (HB3.out _ _).size (by omega) ⟨_, HRB.out _⟩ ?_; intro A2 c2 w2 ho hb; have HO4 := Lib.hid ho; have HB4 := Lib.hid (HTK2.out w2 hb); clear ho hb)
      go_roundw
      case rel => exact ⟨k + 1, A2, c2, hlt, by go_num, rfl, by rw [← HTK.out]; exact HO4.out, HB4.out⟩
      case measure => simp [intOf]; omega
    · obtain rfl : k = n := by omega
      have HTA := Lib.hid (show rs.take k = rs from List.take_of_length_le (by rw [HN.out]; exact Nat.le_refl _))
      go_wp2_with fail
      first | go_ret | skip
      have ho := HO2.out
      rw [HTA.out] at ho
      exact HE.out _ _ _ ho HB2.out
end Go.Proofs.YtfkhfjefddgkoaaDoor
