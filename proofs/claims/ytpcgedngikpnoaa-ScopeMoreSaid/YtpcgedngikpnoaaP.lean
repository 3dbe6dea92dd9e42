/-
  Rows of structs that the call owns; appended, and stored to.
-/
import Derived.Test.YtpcgedngikpnoaaI
namespace Go.Proofs.Ytpcgedngikpnoaa
set_option maxRecDepth 100000
set_option linter.unusedSimpArgs false
set_option linter.unusedVariables false
open Go.RowKit

/-- The cells of n elements, one behind the other. -/
def flatE (E : Nat → Array Value) : Nat → List Value
  | 0 => []
  | n + 1 => flatE E n ++ (E n).toList
theorem flatE_congr {E E' : Nat → Array Value} : ∀ n, (∀ i, i < n → E i = E' i) → flatE E n = flatE E' n
  | 0, _ => rfl
  | n + 1, h => by
    show flatE E n ++ (E n).toList = flatE E' n ++ (E' n).toList
    rw [flatE_congr n (fun i hi => h i (by omega)), h n (by omega)]
theorem flatE_len {E : Nat → Array Value} {sz : Nat} : ∀ n, (∀ i, i < n → (E i).size = sz) → (flatE E n).length = n * sz
  | 0, _ => by simp [flatE]
  | n + 1, h => by
    show (flatE E n ++ (E n).toList).length = _
    rw [List.length_append, flatE_len n (fun i hi => h i (by omega)), Array.length_toList, h n (by omega), Nat.succ_mul]
theorem flatE_get {E : Nat → Array Value} {sz : Nat} : ∀ n, (∀ i, i < n → (E i).size = sz) → ∀ k, k < n → ∀ j u, (E k)[j]? = some u → (flatE E n)[k * sz + j]? = some u
  | 0, _, k, hk, _, _, _ => by omega
  | n + 1, h, k, hk, j, u, hu => by
    have hl := flatE_len n (fun i hi => h i (by omega))
    show (flatE E n ++ (E n).toList)[k * sz + j]? = some u
    have hj : j < (E k).size := (Array.getElem?_eq_some_iff.1 hu).1
    rw [h k hk] at hj
    rcases Nat.lt_or_ge k n with hkn | hkn
    · have h1 : (k + 1) * sz ≤ n * sz := Nat.mul_le_mul_right _ hkn
      rw [Nat.succ_mul] at h1
      rw [List.getElem?_append_left (by rw [hl]; omega)]
      exact flatE_get n (fun i hi => h i (by omega)) k hkn j u hu
    · obtain rfl : k = n := by omega
      rw [List.getElem?_append_right (by rw [hl]; omega), hl, Nat.add_sub_cancel_left]
      simpa using hu
theorem own_sl {w : World} {base n sz : Nat} {e : TypeId} {v : Value} {xs : List Value} (h : w.ownsRow base e sz v n xs) : ∃ A c, v = .slice A n c := by
  rcases h.2 with ⟨rfl, rfl⟩ | ⟨g, cap, cur, rfl, _⟩
  · exact ⟨_, _, rfl⟩
  · exact ⟨_, _, rfl⟩
/-- Elements of a row of the call's own can be read. -/
theorem els_of_own {w : World} {base n c sz : Nat} {e : TypeId} {A : Option Addr} {E : Nat → Array Value} (hE : ∀ i, i < n → (E i).size = sz) (h : w.ownsRow base e sz (.slice A n c) n (flatE E n)) : Els w (fun k => base ≤ k ∧ k < w.heap.size) A n c sz E := by
  refine ⟨fun hA => ?_, ?_, fun ad hA _ => ?_, fun ad hA k hk j u hu => ?_⟩
  · subst hA
    rcases h.2 with ⟨hv, h0⟩ | ⟨g, cap, cur, hv, _⟩
    · injection hv with _ _ hc
      exact ⟨h0, hc⟩
    · injection hv with h1; cases h1
  · rcases h.2 with ⟨hv, h0⟩ | ⟨g, cap, cur, hv, _, _, hle, _⟩
    · omega
    · injection hv with _ _ hc; subst hc; exact hle
  · subst hA
    exact h.lt ad.block rfl
  · subst hA
    rcases h.2 with ⟨hv, h0⟩ | ⟨g, cap, cur, hv, _⟩
    · cases hv
    · have q := h.cells (g := ad.block) rfl
      injection hv with h1
      injection h1 with h1
      subst h1
      exact q _ u (flatE_get n hE k hk j u hu)

theorem flatE_els {w : World} {P : Nat → Prop} {A : Addr} {m c sz : Nat} {E : Nat → Array Value} (hz : 0 < sz) (hE : ∀ i, i < m → (E i).size = sz) (h : Els w P (some A) m c sz E) : ∀ j u, (flatE E m)[j]? = some u → w.cell? (A.add j) = some u := by
  intro j u hu
  have hl := flatE_len m hE
  have hj : j < m * sz := by rw [← hl]; exact (List.getElem?_eq_some_iff.1 hu).1
  have hk : j / sz < m := (Nat.div_lt_iff_lt_mul hz).2 hj
  have hr : j % sz < sz := Nat.mod_lt _ hz
  have he : j / sz * sz + j % sz = j := Nat.div_add_mod' j sz
  have hsz : j % sz < (E (j / sz)).size := by rw [hE _ hk]; exact hr
  have hv : (E (j / sz))[j % sz]? = some (E (j / sz))[j % sz] := Array.getElem?_eq_getElem hsz
  have h1 := flatE_get m hE (j / sz) hk (j % sz) _ hv
  rw [he, hu] at h1
  cases h1
  have := h.at_ A rfl (j / sz) hk (j % sz) _ hv
  rwa [he] at this
theorem flatE_app (E F : Nat → Array Value) (n : Nat) : ∀ m, flatE E n ++ flatE F m = flatE (fun k => if k < n then E k else F (k - n)) (n + m)
  | 0 => by
    rw [Nat.add_zero]
    show flatE E n ++ [] = _
    rw [List.append_nil]
    exact flatE_congr n fun i hi => by rw [if_pos hi]
  | m + 1 => by
    show flatE E n ++ (flatE F m ++ (F m).toList) = flatE _ (n + m) ++ (if n + m < n then E (n + m) else F (n + m - n)).toList
    rw [← List.append_assoc, flatE_app E F n m, if_neg (by omega), Nat.add_sub_cancel_left]
/-- An append of elements that can be read onto a row of the call's own. -/
theorem wpList_append_els {Pr : Program} {w : World} {ops : Array Oper} {rest : List Oper} {o : Oper} {a : Act} {Q : Exit → Act → World → Prop} (hgd : o.guard = none) (s x : Operand) (t : TypeId)
    (ho : o.op = .call { callee := .builtin .append, args := #[s, x], argTypes := #[t, t] })
    (base : Nat) (e : TypeId) (i : TypeInfo) (z : Value) (sz bytes : Nat) (ht : Pr.underlying t = some (.slice e)) (hi : Pr.info? e = some i) (hz : i.zero = some z)
    (hsize : i.size = sz) (hby : i.bytes = bytes) (hzs : z.cells.size = sz) (hsz : 0 < sz)
    (v : Value) (n : Nat) (E : Nat → Array Value) (hs : a.eval s = v) (hown : w.ownsRow base e sz v n (flatE E n))
    (P : Nat → Prop) (A : Option Addr) (m c : Nat) (F : Nat → Array Value) (hx : a.eval x = .slice A m c) (hr : Els w P A m c sz F) (hF : ∀ i, i < m → (F i).size = sz) (h1 : ∀ i, i < m → ∀ u ∈ (F i).toList, u.oneCell' = true)
    (h63 : n + m ≤ maxLen) (hbytes : (n + m) * bytes ≤ 140737488355328) (hbase : base ≤ w.heap.size)
    (h : ∀ v' w', w'.ownsRow base e sz v' (n + m) (flatE (fun k => if k < n then E k else F (k - n)) (n + m)) → w.grownBy w' v.ownBlock → (v'.ownBlock = v.ownBlock ∨ v'.ownBlock = some w.heap.size) → wpList Pr ops Q rest (a.put o.dst v') w') : wpList Pr ops Q (o :: rest) a w := by
  have h1' : ∀ k, k ≤ m → ∀ u ∈ flatE F k, u.oneCell' = true := by
    intro k
    induction k with
    | zero => intro _ u hu; cases hu
    | succ k ih =>
      intro hk u hu
      rcases List.mem_append.1 (show u ∈ flatE F k ++ (F k).toList from hu) with hu | hu
      · exact ih (by omega) u hu
      · exact h1 k (by omega) u hu
  cases A with
  | none =>
    obtain ⟨rfl, rfl⟩ := hr.nil rfl
    exact wpList_append_own_none hgd s x t ho base e i sz ht hi v n _ hs hown hx (h v w (by
      rw [← flatE_app E F n 0]
      show w.ownsRow base e sz v (n + 0) (flatE E n ++ [])
      rw [List.append_nil]
      exact hown) (World.grownBy.refl w _) (.inl rfl))
  | some ad =>
    exact wpList_append_own_at w hgd s x t ho base e i z sz bytes ht hi hz hsize hby hzs hsz v n _ hs hown ad m c (flatE F m) hx (flatE_len m hF) (flatE_els hsz hF hr) (h1' m (Nat.le_refl _)) h63 hbytes hbase fun v' w' a1 a2 _ a3 => h v' w' (by rw [← flatE_app]; exact a1) a2 a3
theorem im_one (p : Pl) (x : Im) : ∀ u ∈ (imA p x).toList, u.oneCell' = true := by
  intro u hu
  simp only [imA, List.mem_cons, List.not_mem_nil, or_false] at hu
  rcases hu with rfl | rfl | rfl | rfl | rfl | rfl | rfl | rfl | rfl | rfl | rfl | rfl | rfl | rfl | rfl <;> rfl
theorem sym_one (s : Sym) : ∀ u ∈ (symA s).toList, u.oneCell' = true := by
  intro u hu
  simp only [symA, List.mem_cons, List.not_mem_nil, or_false] at hu
  rcases hu with rfl | rfl | rfl | rfl | rfl | rfl | rfl | rfl | rfl <;> rfl

/-- A row of images of the call's own; what they hold is older. -/
structure OwnI (w : World) (base : Nat) (v : Value) (xs : List Im) : Prop where
  ex : ∃ q : Nat → Pl, w.ownsRow base 62 15 v xs.length (flatE (fun k => imA (q k) (xs.getD k noIm)) xs.length) ∧ ∀ k, k < xs.length → SyIn w (fun k => k < base) (q k) (xs.getD k noIm)
theorem OwnI.nil (w : World) (base : Nat) : OwnI w base (.slice none 0 0) [] := ⟨fun _ => ⟨(none, 0), (none, 0), (none, 0), (none, 0), (none, 0), (none, 0), (none, 0), (none, 0), (none, 0), (none, 0), (none, 0)⟩, World.ownsRow_nil _ _ _ _, fun k hk => by cases hk⟩
theorem OwnI.lt {w : World} {base : Nat} {v : Value} {xs : List Im} (h : OwnI w base v xs) : ∀ k, v.ownBlock = some k → base ≤ k ∧ k < w.heap.size := by
  obtain ⟨q, h1, _⟩ := h.ex
  exact fun k hk => h1.lt k hk
theorem OwnI.keep {w w' : World} {base : Nat} {v : Value} {xs : List Im} (h : OwnI w base v xs) (hk : ∀ k, v.ownBlock = some k → w'.heap[k]? = w.heap[k]?) (hb : ∀ k, k < base → k < w.heap.size → w'.heap[k]? = w.heap[k]?) : OwnI w' base v xs := by
  obtain ⟨q, h1, h2⟩ := h.ex
  exact ⟨q, own_kept h1 hk, fun k hk' => (h2 k hk').keep hb⟩
theorem OwnI.below {w w' : World} {base : Nat} {v : Value} {xs : List Im} (h : OwnI w base v xs) (hb : Below w.heap.size w w') : OwnI w' base v xs :=
  h.keep (fun k hk => hb.block k (h.lt k hk).2) fun k _ hl => hb.block k hl
theorem OwnI.slice {w : World} {base : Nat} {v : Value} {xs : List Im} (h : OwnI w base v xs) : ∃ A c, v = .slice A xs.length c := by
  obtain ⟨q, h1, _⟩ := h.ex
  exact own_sl h1
theorem OwnI.ims {w : World} {base : Nat} {A : Option Addr} {c : Nat} {xs : List Im} (h : OwnI w base (.slice A xs.length c) xs) (hb : base ≤ w.heap.size) : Ims w (fun k => k < w.heap.size) A xs.length c xs := by
  obtain ⟨q, h1, h2⟩ := h.ex
  exact ⟨rfl, q, (els_of_own (E := fun k => imA (q k) (xs.getD k noIm)) (fun _ _ => rfl) h1).weak fun k hk => hk.2, fun k hk => (h2 k hk).weak fun j hj => Nat.lt_of_lt_of_le hj hb⟩
abbrev zImV : Value := .agg #[.string ⟨#[]⟩, .int .i64 0, .slice none 0 0, .slice none 0 0, .slice none 0 0, .slice none 0 0, .slice none 0 0, .slice none 0 0, .int .i64 0, .slice none 0 0, .slice none 0 0, .slice none 0 0, .slice none 0 0, .slice none 0 0, .int .i64 0]
theorem info_im3 : ∃ i, Try.prog.info? 62 = some i ∧ i.zero = some zImV ∧ i.size = 15 ∧ i.bytes = 304 := info3 (by kernel_rfl)
/-- Images are appended to a row of images. -/
theorem app_ims {w : World} {ops : Array Oper} {rest : List Oper} {o : Oper} {a : Act} {Q : Exit → Act → World → Prop} (hgd : o.guard = none) (s x : Operand)
    (ho : o.op = .call { callee := .builtin .append, args := #[s, x], argTypes := #[26, 26] }) (base : Nat) (v : Value) (xs ys : List Im) (hs : a.eval s = v) (hown : OwnI w base v xs)
    (P : Nat → Prop) (A : Option Addr) (c : Nat) (q : Nat → Pl) (hx : a.eval x = .slice A ys.length c) (hr : Els w P A ys.length c 15 (fun k => imA (q k) (ys.getD k noIm))) (hy : ∀ k, k < ys.length → SyIn w (fun k => k < base) (q k) (ys.getD k noIm))
    (hbytes : (xs.length + ys.length) * 304 ≤ 140737488355328) (hbase : base ≤ w.heap.size)
    (h : ∀ v' w', OwnI w' base v' (xs ++ ys) → w.grownBy w' v.ownBlock → (v'.ownBlock = v.ownBlock ∨ v'.ownBlock = some w.heap.size) → Below base w w' → wpList Try.prog ops Q rest (a.put o.dst v') w') : wpList Try.prog ops Q (o :: rest) a w := by
  obtain ⟨i0, hi, hz0, hz1, hz2⟩ := info_im3
  have hlt := hown.lt
  obtain ⟨qx, h1, h2⟩ := hown.ex
  refine wpList_append_els hgd s x 26 ho base 62 i0 zImV 15 304 Try.underlying26 hi hz0 hz1 hz2 rfl (by decide) v xs.length _ hs h1 P A ys.length c _ hx hr (fun _ _ => rfl) (fun k _ => im_one _ _) (by simp only [maxLen]; omega) hbytes hbase ?_
  intro v' w' hown' hgr hat
  have hbel : Below base w w' := ⟨hgr.os, hgr.tape, hgr.output, hgr.size, fun k hk => hgr.block k (by omega) (fun e => by have := (hlt k e.symm).1; omega)⟩
  refine h v' w' ⟨fun k => if k < xs.length then qx k else q (k - xs.length), ?_, fun k hk => ?_⟩ hgr hat hbel
  · rw [List.length_append]
    rw [flatE_congr (E' := fun k => imA (if k < xs.length then qx k else q (k - xs.length)) ((xs ++ ys).getD k noIm)) (xs.length + ys.length) (fun k hk => ?_)] at hown'
    · exact hown'
    · by_cases hkx : k < xs.length
      · rw [if_pos hkx, if_pos hkx, List.getD_eq_getElem?_getD, List.getD_eq_getElem?_getD, List.getElem?_append_left hkx]
      · rw [if_neg hkx, if_neg hkx, List.getD_eq_getElem?_getD, List.getD_eq_getElem?_getD, List.getElem?_append_right (by omega)]
  · rw [List.length_append] at hk
    show SyIn w' _ (if k < xs.length then qx k else q (k - xs.length)) _
    by_cases hkx : k < xs.length
    · rw [if_pos hkx, show (xs ++ ys).getD k noIm = xs.getD k noIm by rw [List.getD_eq_getElem?_getD, List.getD_eq_getElem?_getD, List.getElem?_append_left hkx]]
      exact (h2 k hkx).keep fun j hj _ => hbel.block j hj
    · rw [if_neg hkx, show (xs ++ ys).getD k noIm = ys.getD (k - xs.length) noIm by rw [List.getD_eq_getElem?_getD, List.getD_eq_getElem?_getD, List.getElem?_append_right (by omega)]]
      exact (hy (k - xs.length) (by omega)).keep fun j hj _ => hbel.block j hj
theorem one_els {w : World} {b : Nat} {p : Pl} {x : Im} (h : Bx w b (imA p x) 62) : Els w (fun k => k < w.heap.size) (some ⟨b, 0, none⟩) [x].length 1 15 (fun k => imA ((fun _ => p) k) ([x].getD k noIm)) := by
  refine ⟨(by intro h; cases h), Nat.le_refl _, (fun ad e _ => by cases e; exact h.lt), ?_⟩
  intro ad e k hk j u hu
  cases e
  have hk : k < 1 := hk
  obtain rfl : k = 0 := by omega
  rw [plainAdd, Nat.zero_add, Nat.zero_mul, Nat.zero_add, h.c]
  exact hu
end Go.Proofs.Ytpcgedngikpnoaa
