/-
  Images in a row, and what a look-up among them finds.
-/
import Derived.Test.YtpcgedngikpnoaaISF
import Derived.Test.YtpcgedngikpnoaaTQ
import Derived.Test.YtpcgedngikpnoaaTU
namespace Go.Proofs.Ytpcgedngikpnoaa
set_option maxRecDepth 100000
set_option linter.unusedSimpArgs false
set_option linter.unusedVariables false
open Go.RowKit

def noIm : Im := ⟨[], 0, [], [], [], [], [], [], 0, [], [], [], [], [], 0⟩
/-- An image of which the symbols and the table can be read. -/
structure SyIn (w : World) (P : Nat → Prop) (p : Pl) (x : Im) : Prop where
  syms : Syl w P p.sy.1 x.syms.length p.sy.2 x.syms
  tab : TabV w P p.bk.1 x.rows.length p.bk.2 p.fw.1 p.fw.2 (rowF x.rows) x.words
section
variable {w w' : World} {P Q : Nat → Prop} {p : Pl} {x : Im}
theorem SyIn.keep (h : SyIn w P p x) (hk : ∀ k, P k → k < w.heap.size → w'.heap[k]? = w.heap[k]?) : SyIn w' P p x := ⟨h.syms.keep hk, h.tab.keep hk⟩
theorem SyIn.weak (h : SyIn w P p x) (hk : ∀ k, P k → Q k) : SyIn w Q p x := ⟨h.syms.weak hk, h.tab.weak hk⟩
theorem SyIn.lt (h : SyIn w (fun k => k < w.heap.size) p x) (hb : Below w.heap.size w w') : SyIn w' (fun k => k < w'.heap.size) p x :=
  (h.keep fun k hk _ => hb.block k hk).weak fun _ hk => Nat.lt_of_lt_of_le hk hb.size
theorem ImIn.sy (h : ImIn w P p x) : SyIn w P p x := ⟨h.syms, h.tab⟩
end
/-- No list of an image is too long. -/
structure FitS (x : Im) : Prop where
  syms : x.syms.length ≤ 140737488355328
  name : ∀ s ∈ x.syms, s.name.length ≤ 140737488351232
  ver : ∀ s ∈ x.syms, s.ver.length ≤ 140737488351232
  rows : x.rows.length ≤ 140737488355328
  row : ∀ k, (rowF x.rows k).length ≤ 140737488355328
  words : x.words.length ≤ 140737488355328
theorem Fit.s {x : Im} (h : Fit x) : FitS x := by
  have h1 := h.syms
  have h2 := h.rows
  have h3 := h.words
  unfold Long at h1 h2 h3
  refine ⟨by omega, fun s hs => ?_, fun s hs => ?_, by omega, fun k => ?_, by omega⟩
  · exact (h.sym s hs).1
  · exact (h.sym s hs).2.1
  · unfold rowF
    rw [List.getD_eq_getElem?_getD]
    by_cases hk : k < x.rows.length
    · rw [List.getElem?_eq_getElem hk, Option.getD_some]
      have := (h.row _ (List.getElem_mem hk)).1
      unfold Long at this
      omega
    · rw [List.getElem?_eq_none (by omega)]
      simp
/-- Images one behind the other in memory. -/
structure Ims (w : World) (P : Nat → Prop) (A : Option Addr) (n c : Nat) (xs : List Im) : Prop where
  len : xs.length = n
  ex : ∃ q : Nat → Pl, Els w P A n c 15 (fun k => imA (q k) (xs.getD k noIm)) ∧ ∀ k, k < n → SyIn w P (q k) (xs.getD k noIm)
section
variable {w w' : World} {P Q : Nat → Prop} {A : Option Addr} {n c : Nat} {xs : List Im}
theorem Ims.keep (h : Ims w P A n c xs) (hk : ∀ k, P k → k < w.heap.size → w'.heap[k]? = w.heap[k]?) : Ims w' P A n c xs := by
  obtain ⟨hl, q, h1, h2⟩ := h
  exact ⟨hl, q, h1.keep hk, fun k hk' => (h2 k hk').keep hk⟩
theorem Ims.weak (h : Ims w P A n c xs) (hk : ∀ k, P k → Q k) : Ims w Q A n c xs := by
  obtain ⟨hl, q, h1, h2⟩ := h
  exact ⟨hl, q, h1.weak hk, fun k hk' => (h2 k hk').weak hk⟩
theorem Ims.lt (h : Ims w (fun k => k < w.heap.size) A n c xs) (hb : Below w.heap.size w w') : Ims w' (fun k => k < w'.heap.size) A n c xs :=
  (h.keep fun k hk _ => hb.block k hk).weak fun _ hk => Nat.lt_of_lt_of_le hk hb.size
end
def FitsS (xs : List Im) : Prop := xs.length ≤ 140737488355328 ∧ ∀ x ∈ xs, FitS x
/-- What a reference finds in an image, by its table; and by all symbols. -/
def tabI (r : Sym) (x : Im) : Int × Nat := findT x.rows.length (rowF x.rows) x.words x.shift r x.syms
def linI (r : Sym) (x : Im) : Int := firstS r x.syms
/-- What is found among images from number i on. -/
abbrev Fd := Int × Int × Bool
def lookP (f : Im → Int) (skip : Int) : Nat → List Im → Fd
  | _, [] => (0, 0, false)
  | i, x :: l => if (i : Int) = skip ∨ f x = -1 then lookP f skip (i + 1) l else ((i : Int), f x, true)
/-- How many are gone through. -/
def goneP (f : Im → Int) (skip : Int) : Nat → List Im → Nat
  | i, [] => i
  | i, x :: l => if (i : Int) = skip ∨ f x = -1 then goneP f skip (i + 1) l else i + 1
/-- How many symbols were looked at, when k of n images are gone through. -/
def numA (g : Im → Nat) (skip : Int) (xs : List Im) (k : Nat) (j : Nat) : Int := if j < k ∧ ¬ (j : Int) = skip then (g (xs.getD j noIm) : Int) else 0
def numL (g : Im → Nat) (skip : Int) (xs : List Im) (k : Nat) : List Int := (List.range xs.length).map (numA g skip xs k)
theorem numL_len (g : Im → Nat) (skip : Int) (xs : List Im) (k : Nat) : (numL g skip xs k).length = xs.length := by simp [numL]
theorem numL_skip {g : Im → Nat} {skip : Int} {xs : List Im} {k : Nat} (h : (k : Int) = skip) : numL g skip xs (k + 1) = numL g skip xs k := by
  unfold numL
  apply List.map_congr_left
  intro j _
  unfold numA
  by_cases hj : (j : Int) = skip
  · rw [if_neg (fun e => e.2 hj), if_neg (fun e => e.2 hj)]
  · have : j < k + 1 ↔ j < k := by omega
    simp only [this]
theorem numL_set {g : Im → Nat} {skip : Int} {xs : List Im} {k : Nat} (hk : k < xs.length) (h : ¬ (k : Int) = skip) : numL g skip xs (k + 1) = (numL g skip xs k).set k (g (xs.getD k noIm) : Int) := by
  apply List.ext_getElem
  · simp [numL]
  · intro j h1 h2
    rw [List.getElem_set]
    have hj : j < xs.length := by simpa [numL] using h1
    by_cases hjk : k = j
    · subst hjk
      simp [numL, numA, h]
    · rw [if_neg hjk]
      have : j < k + 1 ↔ j < k := by omega
      simp [numL, numA, this]
theorem numL_zero (g : Im → Nat) (skip : Int) (xs : List Im) : numL g skip xs 0 = (List.range xs.length).map fun _ => (0 : Int) := by
  unfold numL
  apply List.map_congr_left
  intro j _
  unfold numA
  rw [if_neg (by omega)]
section
variable {f : Im → Int} {skip : Int} {xs : List Im} {k : Nat}
theorem look_drop (hk : k < xs.length) : lookP f skip k (xs.drop k) = if (k : Int) = skip ∨ f (xs.getD k noIm) = -1 then lookP f skip (k + 1) (xs.drop (k + 1)) else ((k : Int), f (xs.getD k noIm), true) := by
  rw [List.getD_eq_getElem?_getD, List.getElem?_eq_getElem hk, Option.getD_some]
  conv => lhs; rw [List.drop_eq_getElem_cons hk]
  rfl
theorem gone_drop (hk : k < xs.length) : goneP f skip k (xs.drop k) = if (k : Int) = skip ∨ f (xs.getD k noIm) = -1 then goneP f skip (k + 1) (xs.drop (k + 1)) else k + 1 := by
  rw [List.getD_eq_getElem?_getD, List.getElem?_eq_getElem hk, Option.getD_some]
  conv => lhs; rw [List.drop_eq_getElem_cons hk]
  rfl
theorem look_on (hk : k < xs.length) (h : (k : Int) = skip ∨ f (xs.getD k noIm) = -1) : lookP f skip k (xs.drop k) = lookP f skip (k + 1) (xs.drop (k + 1)) ∧ goneP f skip k (xs.drop k) = goneP f skip (k + 1) (xs.drop (k + 1)) := ⟨(look_drop hk).trans (if_pos h), (gone_drop hk).trans (if_pos h)⟩
theorem look_at (hk : k < xs.length) (h : ¬ (k : Int) = skip) (h2 : ¬ f (xs.getD k noIm) = -1) : lookP f skip k (xs.drop k) = ((k : Int), f (xs.getD k noIm), true) ∧ goneP f skip k (xs.drop k) = k + 1 := ⟨(look_drop hk).trans (if_neg (not_or.2 ⟨h, h2⟩)), (gone_drop hk).trans (if_neg (not_or.2 ⟨h, h2⟩))⟩
theorem look_end : lookP f skip xs.length (xs.drop xs.length) = (0, 0, false) ∧ goneP f skip xs.length (xs.drop xs.length) = xs.length := by rw [List.drop_length]; exact ⟨rfl, rfl⟩
/-- What a look-up finds. -/
theorem look_spec : ∀ (d k : Nat), k + d = xs.length →
    (lookP f skip k (xs.drop k) = (0, 0, false) ∧ goneP f skip k (xs.drop k) = xs.length ∧ ∀ j, k ≤ j → j < xs.length → ¬ (j : Int) = skip → f (xs.getD j noIm) = -1) ∨
    ∃ j, k ≤ j ∧ j < xs.length ∧ lookP f skip k (xs.drop k) = ((j : Int), f (xs.getD j noIm), true) ∧ goneP f skip k (xs.drop k) = j + 1 ∧ ¬ (j : Int) = skip ∧ ¬ f (xs.getD j noIm) = -1 ∧ ∀ m, k ≤ m → m < j → ¬ (m : Int) = skip → f (xs.getD m noIm) = -1 := by
  intro d
  induction d with
  | zero =>
    intro k hk
    obtain rfl : k = xs.length := by omega
    exact .inl ⟨look_end.1, look_end.2, fun j h1 h2 => by omega⟩
  | succ d ih =>
    intro k hk
    have hlt : k < xs.length := by omega
    by_cases h : (k : Int) = skip ∨ f (xs.getD k noIm) = -1
    · obtain ⟨e1, e2⟩ := look_on hlt h
      have hz : ¬ (k : Int) = skip → f (xs.getD k noIm) = -1 := fun hn => h.resolve_left hn
      rcases ih (k + 1) (by omega) with ⟨h1, h2, h3⟩ | ⟨j, h1, h2, h3, h4, h5, h6, h7⟩
      · refine .inl ⟨e1.trans h1, e2.trans h2, fun j hj hjl hs => ?_⟩
        rcases Nat.eq_or_lt_of_le hj with rfl | hlt'
        · exact hz hs
        · exact h3 j hlt' hjl hs
      · refine .inr ⟨j, by omega, h2, e1.trans h3, e2.trans h4, h5, h6, fun m hm hmj hs => ?_⟩
        rcases Nat.eq_or_lt_of_le hm with rfl | hlt'
        · exact hz hs
        · exact h7 m hlt' hmj hs
    · have hs : ¬ (k : Int) = skip := fun e => h (.inl e)
      have hf : ¬ f (xs.getD k noIm) = -1 := fun e => h (.inr e)
      obtain ⟨e1, e2⟩ := look_at hlt hs hf
      exact .inr ⟨k, Nat.le_refl _, hlt, e1, e2, hs, hf, fun m h1 h2 => by omega⟩
end
theorem look_congr {f g : Im → Int} {skip : Int} : ∀ (l : List Im) (i : Nat), (∀ x ∈ l, f x = g x) → lookP f skip i l = lookP g skip i l
  | [], _, _ => rfl
  | x :: l, i, h => by
    unfold lookP
    rw [h x List.mem_cons_self, look_congr l (i + 1) fun y hy => h y (List.mem_cons_of_mem _ hy)]
/-- Tables that are right. -/
def rightI (x : Im) : Bool := rightT x.rows.length (rowF x.rows) x.words x.shift x.syms
theorem right_lin {x : Im} (h : rightI x = true) (r : Sym) : (tabI r x).1 = linI r x := (find_first h).1
theorem goF_low (r : Sym) (ss : List Sym) (v : Bool) : ∀ (l : List Int) (e : Nat), (goF r ss v l e).1 = -1 ∨ 0 ≤ (goF r ss v l e).1 ∧ (goF r ss v l e).1 < (ss.length : Int)
  | [], _ => .inl rfl
  | i :: l, e => by
    rw [goF]
    by_cases h : i < 0 ∨ (ss.length : Int) ≤ i
    · rw [if_pos h]
      exact goF_low r ss v l e
    · rw [if_neg h]
      split
      · split
        · right
          show 0 ≤ i ∧ i < (ss.length : Int)
          omega
        · exact goF_low r ss v l _
      · rw [if_neg (by decide)]
        exact goF_low r ss v l _
theorem tab_low (r : Sym) (x : Im) : (tabI r x).1 = -1 ∨ 0 ≤ (tabI r x).1 ∧ (tabI r x).1 < (x.syms.length : Int) := by
  unfold tabI findT
  split
  · exact .inl rfl
  · exact goF_low _ _ _ _ _
theorem lin_low (r : Sym) (x : Im) : linI r x = -1 ∨ 0 ≤ linI r x ∧ linI r x < (x.syms.length : Int) := by
  unfold linI firstS
  split
  · rename_i k h
    have := (List.findIdx?_eq_some_iff_getElem.1 h).1
    right; omega
  · exact .inl rfl
end Go.Proofs.Ytpcgedngikpnoaa
