/-
  A region that draws its order, in which operations make memory and call: what each one yields is said by a condition on its value that holds in every later world; then the order does not matter.
-/
import Derived.Test.YtpcgedngikpnoaaCom
import Derived.Deep.RegionHeld
namespace Go.Proofs.Ytpcgedngikpnoaa
set_option maxRecDepth 100000
set_option linter.unusedSimpArgs false
set_option linter.unusedVariables false
open Go.RowKit

theorem put_none {a : Act} {d : Option Tmp} {v : Value} (h : d = none) : a.put d v = a := by rw [h]; rfl
section
variable {P : Program} {ops : Array Oper} {Q : Exit → Act → World → Prop} {md : Region.Mode}
/-- How many operations are not listed yet. -/
def leftOf (ops : Array Oper) (listed : Array Bool) : Nat := ((List.range ops.size).filter fun i => !listed.getD i true).length
theorem ready_unlisted {listed : Array Bool} {i : Nat} (h : i ∈ Region.ready md ops listed) : i < ops.size ∧ listed.getD i true = false := by
  unfold Region.ready at h
  rw [List.mem_filter] at h
  simp only [List.mem_range, Bool.and_eq_true, Bool.not_eq_true'] at h
  exact ⟨h.1, h.2.1⟩
theorem ready_deps {listed : Array Bool} {i : Nat} {o : Oper} (h : i ∈ Region.ready md ops listed) (ho : ops[i]? = some o) : ∀ e ∈ o.after, Region.binds md e = true → listed.getD e.on false = true := by
  unfold Region.ready at h
  rw [List.mem_filter] at h
  simp only [ho, Option.map_some, Option.getD_some, Bool.and_eq_true, Array.all_eq_true'] at h
  intro e he hb
  have := h.2.2 e he
  simpa [hb] using this
theorem filter_drop {p q : Nat → Bool} {i : Nat} : ∀ (l : List Nat), l.Nodup → i ∈ l → p i = true → q i = false → (∀ j, j ≠ i → q j = p j) → (l.filter q).length + 1 = (l.filter p).length
  | [], _, h, _, _, _ => by cases h
  | x :: l, hn, h, hp, hq, he => by
    rw [List.nodup_cons] at hn
    by_cases hx : x = i
    · subst hx
      rw [List.filter_cons_of_pos hp, List.filter_cons_of_neg (by rw [hq]; decide), List.length_cons]
      congr 2
      apply List.filter_congr
      intro j hj
      exact he j fun e => hn.1 (e ▸ hj)
    · have hm : i ∈ l := by
        rcases List.mem_cons.1 h with e | e
        · exact absurd e.symm hx
        · exact e
      have := filter_drop l hn.2 hm hp hq he
      cases hpx : p x
      · rw [List.filter_cons_of_neg (by rw [he x hx, hpx]; decide), List.filter_cons_of_neg (by rw [hpx]; decide)]
        exact this
      · rw [List.filter_cons_of_pos (by rw [he x hx]; exact hpx), List.filter_cons_of_pos hpx, List.length_cons, List.length_cons]
        omega
theorem left_step {listed : Array Bool} {i : Nat} (hi : i < ops.size) (hl : listed.getD i true = false) : leftOf ops (listed.setIfInBounds i true) + 1 = leftOf ops listed := by
  have hs : i < listed.size := by
    rcases Nat.lt_or_ge i listed.size with h | h
    · exact h
    · simp [Array.getD, Nat.not_lt.2 h] at hl
  unfold leftOf
  refine filter_drop (i := i) _ List.nodup_range (List.mem_range.2 hi) (by rw [hl]; rfl) ?_ ?_
  · simp [Array.getD_eq_getD_getElem?, hs]
  · intro j hj
    simp [Array.getD_eq_getD_getElem?, Array.getElem?_setIfInBounds, Ne.symm hj]
/-- An invariant of all orders. -/
theorem wpAny_inv (J : Array Bool → Act → World → Prop) (E : Array Bool → Prop)
    (hstep : ∀ listed a w i, J listed a w → ¬ E listed → i ∈ Region.ready md ops listed → wpOp P ops Q i (J (listed.setIfInBounds i true)) a w)
    (hgo : ∀ listed a w, J listed a w → ¬ E listed → Region.ready md ops listed ≠ [])
    (hend : ∀ listed a w, J listed a w → E listed → wpAny P md ops Q (leftOf ops listed) listed a w) :
    ∀ (fuel : Nat) (listed : Array Bool) (a : Act) (w : World), leftOf ops listed = fuel → J listed a w → wpAny P md ops Q fuel listed a w := by
  intro fuel
  induction fuel with
  | zero =>
    intro listed a w hf hJ
    by_cases hE : E listed
    · have := hend listed a w hJ hE
      rwa [hf] at this
    · exfalso
      apply hgo listed a w hJ hE
      rw [List.eq_nil_iff_forall_not_mem]
      intro i hi
      obtain ⟨h1, h2⟩ := ready_unlisted hi
      have := left_step h1 h2
      omega
  | succ f ih =>
    intro listed a w hf hJ
    by_cases hE : E listed
    · have := hend listed a w hJ hE
      rwa [hf] at this
    · refine ⟨fun h => absurd h (hgo listed a w hJ hE), fun i hi => ?_⟩
      refine wpOp_mono (fun a' w' hJ' => ?_) (hstep listed a w i hJ hE hi)
      obtain ⟨h1, h2⟩ := ready_unlisted hi
      have := left_step h1 h2
      exact ih _ a' w' (by omega) hJ'
/-- All that an operation waits for, by so many steps. -/
def upOf (md : Region.Mode) (ops : Array Oper) : Nat → Nat → List Nat
  | 0, _ => []
  | f + 1, i => match ops[i]? with
    | none => []
    | some o => (o.after.toList.filter (Region.binds md)).flatMap fun e => e.on :: upOf md ops f e.on
/-- What is listed has all listed that it waits for. -/
def Closed (md : Region.Mode) (ops : Array Oper) (listed : Array Bool) : Prop := ∀ i o, ops[i]? = some o → listed.getD i true = true → ∀ e ∈ o.after, Region.binds md e = true → listed.getD e.on false = true
theorem closed_up {listed : Array Bool} (hc : Closed md ops listed) (hs : listed.size = ops.size) : ∀ (f i : Nat), (∀ o, ops[i]? = some o → ∀ e ∈ o.after, Region.binds md e = true → listed.getD e.on false = true) → ∀ j ∈ upOf md ops f i, listed.getD j false = true
  | 0, _, _, j, hj => by cases hj
  | f + 1, i, h, j, hj => by
    unfold upOf at hj
    cases ho : ops[i]? with
    | none => rw [ho] at hj; cases hj
    | some o =>
      rw [ho] at hj
      simp only [List.mem_flatMap, List.mem_filter, Array.mem_toList_iff, List.mem_cons] at hj
      obtain ⟨e, ⟨he, hb⟩, hj⟩ := hj
      have h1 := h o ho e he hb
      rcases hj with rfl | hj
      · exact h1
      · refine closed_up hc hs f e.on (fun o2 ho2 => hc e.on o2 ho2 ?_) j hj
        have hlt : e.on < listed.size := by
          rcases Nat.lt_or_ge e.on listed.size with h | h
          · exact h
          · simp [Array.getD, Nat.not_lt.2 h] at h1
        simpa [Array.getD, hlt] using h1
theorem closed_set {listed : Array Bool} {i : Nat} (hc : Closed md ops listed) (hs : listed.size = ops.size) (hi : i ∈ Region.ready md ops listed) : Closed md ops (listed.setIfInBounds i true) := by
  intro j o ho hj e he hb
  have hjs : j < ops.size := (Array.getElem?_eq_some_iff.1 ho).1
  have key : listed.getD e.on false = true → (listed.setIfInBounds i true).getD e.on false = true := by
    intro h
    rw [Array.getD_eq_getD_getElem?] at h ⊢
    rw [Array.getElem?_setIfInBounds]
    split
    · rename_i hei
      subst hei
      split
      · rfl
      · rename_i hn
        rw [Array.getElem?_eq_none (by omega)] at h
        cases h
    · exact h
  by_cases hji : j = i
  · subst hji
    exact key (ready_deps hi ho e he hb)
  · refine key (hc j o ho ?_ e he hb)
    have hjl : j < listed.size := by omega
    simpa [Array.getD_eq_getD_getElem?, Array.getElem?_setIfInBounds, Ne.symm hji] using hj
/-- What is known of operation i, when its value is v. -/
abbrev Vals := Nat → Option Value
def Vals.up (vs : Vals) (i : Nat) (v : Value) : Vals := fun j => if j = i then some v else vs j
/-- Do operations wait for lesser ones alone, and all behind m for all ahead of it? -/
def backB (ops : Array Oper) (m : Nat) : Bool :=
  ((List.range ops.size).all fun i => ((ops[i]?).map fun o => o.after.all fun e => !Region.binds .any e || decide (e.on < i)).getD true) &&
  ((List.range ops.size).all fun i => decide (i < m) || (List.range m).all fun j => (upOf .any ops ops.size i).contains j)
/-- Which operations an operation waits for. -/
def depsOf (ops : Array Oper) (i : Nat) : List Nat := ((ops[i]?).map fun o => (o.after.toList.filter (Region.binds .any)).map (·.on)).getD []
theorem min_not {p : Nat → Bool} : ∀ m, (∃ i, i < m ∧ p i = false) → ∃ i, i < m ∧ p i = false ∧ ∀ j, j < i → p j = true
  | 0, ⟨i, h, _⟩ => by omega
  | m + 1, ⟨i, h, hp⟩ => by
    by_cases hx : ∃ j, j < m ∧ p j = false
    · obtain ⟨k, h1, h2, h3⟩ := min_not m hx
      exact ⟨k, by omega, h2, h3⟩
    · have hall : ∀ j, j < m → p j = true := fun j hj => by
        cases hpj : p j with
        | true => rfl
        | false => exact absurd ⟨j, hj, hpj⟩ hx
      refine ⟨i, h, hp, fun j hj => hall j (by omega)⟩
/-- A region that draws its order: its first m operations in whatever order, the rest behind them. -/
theorem wp_region_free {id : Nat} {a0 : Act} {w0 : World} (m : Nat) (T : Vals → Act) (F : Nat → Value → Nat → Nat → World → Prop) (L : Array Bool) (k : Nat)
    (hx : P.follows .mixedOrders = true) (hchk : backB ops m = true) (hm : m ≤ ops.size) (hLs : L.size = ops.size) (hL : ((List.range ops.size).all fun i => L.getD i true == decide (i < m)) = true) (hk : leftOf ops L = k)
    (hT0 : T (fun _ => none) = a0)
    (hT : ∀ i, i < m → ∀ vs v, (T vs).put ((ops[i]?).bind (·.dst)) v = T (Vals.up vs i v))
    (hF : ∀ i v lo hi w w', F i v lo hi w → Below w.heap.size w w' → hi ≤ w.heap.size → F i v lo hi w')
    (hstep : ∀ i, i < m → ∀ (vs : Vals) (w' : World), Below w0.heap.size w0 w' → (∀ j ∈ depsOf ops i, ∃ v lo hi, vs j = some v ∧ F j v lo hi w') →
      ∀ K : Act → World → Prop, Shut (∀ v w2, F i v w'.heap.size w2.heap.size w2 → Below w'.heap.size w' w2 → K ((T vs).put ((ops[i]?).bind (·.dst)) v) w2) →
      ∀ o, ops[i]? = some o → if Region.wanted o (yielded ops (T vs).tmps) = true then Oper.wp P o (T vs) w' K Q else K ((T vs).put o.dst undef) w')
    (hend : ∀ (vs : Vals) (lo hi : Nat → Nat) (w' : World), Below w0.heap.size w0 w' → (∀ i, i < m → ∃ v, vs i = some v ∧ F i v (lo i) (hi i) w') → (∀ i, i < m → w0.heap.size ≤ lo i ∧ lo i ≤ hi i ∧ hi i ≤ w'.heap.size) → (∀ i j, i < m → j < m → i ≠ j → hi i ≤ lo j ∨ hi j ≤ lo i) → wpAny P .any ops Q k L (T vs) w') :
    (Code.region id ops true).wp P Q a0 w0 := by
  unfold backB at hchk
  rw [Bool.and_eq_true] at hchk
  obtain ⟨hb1, hb2⟩ := hchk
  rw [List.all_eq_true] at hb1 hb2 hL
  have hback : ∀ i o, ops[i]? = some o → ∀ e ∈ o.after, Region.binds .any e = true → e.on < i := by
    intro i o ho e he hb
    have := hb1 i (List.mem_range.2 (Array.getElem?_eq_some_iff.1 ho).1)
    simp only [ho, Option.map_some, Option.getD_some, Array.all_eq_true'] at this
    have := this e he
    simpa [hb] using this
  have hbelow : ∀ w', Below w0.drew.heap.size w0.drew w' → Below w0.heap.size w0 w' := fun w' h => (drew_below w0).trans (h.mono (Nat.le_refl _))
  refine wp_region_any hx ?_
  let J : Array Bool → Act → World → Prop := fun listed a w' => listed.size = ops.size ∧ Closed .any ops listed ∧ ∃ (vs : Vals) (lo hi : Nat → Nat), a = T vs ∧ (∀ i, i < ops.size → listed.getD i true = (vs i).isSome) ∧ Below w0.heap.size w0 w' ∧ (∀ j v, vs j = some v → F j v (lo j) (hi j) w' ∧ w0.heap.size ≤ lo j ∧ lo j ≤ hi j ∧ hi j ≤ w'.heap.size) ∧
    (∀ i j v v', i ≠ j → vs i = some v → vs j = some v' → hi i ≤ lo j ∨ hi j ≤ lo i) ∧ ∀ j, m ≤ j → vs j = none
  have hlt : ∀ listed a w' i, J listed a w' → ¬ (∀ i, i < m → listed.getD i true = true) → i ∈ Region.ready .any ops listed → i < m := by
    intro listed a w' i hJ hE hi
    by_cases him : i < m
    · exact him
    · exfalso
      apply hE
      intro j hj
      obtain ⟨h1, h2⟩ := ready_unlisted hi
      have := hb2 i (List.mem_range.2 h1)
      simp only [him, decide_false, Bool.false_or, List.all_eq_true, List.mem_range] at this
      have hjl := closed_up hJ.2.1 hJ.1 ops.size i (fun o ho => ready_deps hi ho) j (by simpa using this j hj)
      have hjs : j < listed.size := by have := hJ.1; omega
      simpa [Array.getD, hjs] using hjl
  have key := wpAny_inv (P := P) (ops := ops) (Q := Q) (md := .any) J (fun listed => ∀ i, i < m → listed.getD i true = true) ?_ ?_ ?_ ops.size (Array.replicate ops.size false) a0 w0.drew ?_ ?_
  · exact key
  · intro listed a w' i hJ hE hi
    have him := hlt listed a w' i hJ hE hi
    obtain ⟨hsz, hcl, vs, lo, hi', rfl, hls, hbl, hfs, hsp, hno⟩ := hJ
    have his : i < ops.size := by omega
    have ho : ops[i]? = some ops[i] := Array.getElem?_eq_getElem his
    have hvi : vs i = none := by
      have := hls i his
      rw [(ready_unlisted hi).2] at this
      cases h : vs i with
      | none => rfl
      | some v => rw [h] at this; cases this
    refine wpOp_step ho fun K hK => hstep i him vs w' hbl ?_ K ?_ _ ho
    · intro j hj
      unfold depsOf at hj
      rw [ho] at hj
      simp only [Option.map_some, Option.getD_some, List.mem_map, List.mem_filter, Array.mem_toList_iff] at hj
      obtain ⟨e, ⟨he, hb⟩, rfl⟩ := hj
      have h1 := ready_deps hi ho e he hb
      have h2 : e.on < ops.size := by have := hback i _ ho e he hb; omega
      have h3 := hls e.on h2
      rw [show listed.getD e.on true = true by simpa [Array.getD, hsz, h2] using h1] at h3
      cases h : vs e.on with
      | none => rw [h] at h3; cases h3
      | some v => exact ⟨v, lo e.on, hi' e.on, rfl, (hfs e.on v h).1⟩
    · intro v w2 hfv hb2
      apply hK
      refine ⟨by simpa using hsz, closed_set hcl hsz hi, Vals.up vs i v, fun j => if j = i then w'.heap.size else lo j, fun j => if j = i then w2.heap.size else hi' j, hT i him vs v, ?_, hbl.trans (hb2.mono hbl.size), ?_, ?_, ?_⟩
      · intro j hj
        unfold Vals.up
        by_cases hji : j = i
        · subst hji
          simp [Array.getD_eq_getD_getElem?, hsz, hj]
        · rw [if_neg hji, ← hls j hj]
          simp [Array.getD_eq_getD_getElem?, Array.getElem?_setIfInBounds, Ne.symm hji]
      · intro j u hu
        unfold Vals.up at hu
        by_cases hji : j = i
        · subst hji
          rw [if_pos rfl] at hu
          cases hu
          simp only [if_true]
          exact ⟨hfv, hbl.size, hb2.size, Nat.le_refl _⟩
        · rw [if_neg hji] at hu
          simp only [if_neg hji]
          obtain ⟨q1, q2, q3, q4⟩ := hfs j u hu
          exact ⟨hF j u _ _ w' w2 q1 hb2 q4, q2, q3, Nat.le_trans q4 hb2.size⟩
      · intro x y u u' hxy hu hu'
        unfold Vals.up at hu hu'
        by_cases hxi : x = i
        · subst hxi
          rw [if_neg (Ne.symm hxy)] at hu'
          simp only [if_true, if_neg (Ne.symm hxy)]
          exact .inr (hfs y u' hu').2.2.2
        · rw [if_neg hxi] at hu
          by_cases hyi : y = i
          · subst hyi
            simp only [if_true, if_neg hxi]
            exact .inl (hfs x u hu).2.2.2
          · rw [if_neg hyi] at hu'
            simp only [if_neg hxi, if_neg hyi]
            exact hsp x y u u' hxy hu hu'
      · intro j hj
        unfold Vals.up
        rw [if_neg (by omega)]
        exact hno j hj
  · intro listed a w' hJ hE hr
    obtain ⟨i, h1, h2, h3⟩ := min_not (p := fun i => listed.getD i true) m (by
      apply Classical.byContradiction
      intro hn
      apply hE
      intro i hi
      cases h : listed.getD i true with
      | true => rfl
      | false => exact absurd ⟨i, hi, h⟩ hn)
    have : i ∈ Region.ready .any ops listed := by
      unfold Region.ready
      rw [List.mem_filter]
      have his : i < ops.size := by omega
      refine ⟨List.mem_range.2 his, ?_⟩
      rw [Array.getElem?_eq_getElem his]
      simp only [h2, Bool.not_false, Bool.true_and, Option.map_some, Option.getD_some, Array.all_eq_true']
      intro e he
      cases hb : Region.binds .any e with
      | false => rfl
      | true =>
        have hlt' := hback i _ (Array.getElem?_eq_getElem his) e he hb
        have := h3 e.on hlt'
        have hs : e.on < listed.size := by have := hJ.1; omega
        simpa [Array.getD, hs] using this
    rw [hr] at this
    cases this
  · intro listed a w' hJ hE
    have hLL : listed = L := by
      apply Array.ext
      · rw [hJ.1, hLs]
      · intro i h1 h2
        have hi : i < ops.size := by rw [← hJ.1]; exact h1
        have e2 := hL i (List.mem_range.2 hi)
        simp only [beq_iff_eq, Array.getD, h2, dite_true] at e2
        have e2' : L[i] = decide (i < m) := e2
        rw [e2']
        by_cases him : i < m
        · have := hE i him
          simp only [Array.getD, h1, dite_true] at this
          have t2 : listed[i] = true := this
          rw [t2, decide_eq_true him]
        · obtain ⟨hsz, hcl, vs, lo, hi', rfl, hls, hbl, hfs, hsp, hno⟩ := hJ
          have := hls i hi
          rw [hno i (by omega)] at this
          simp only [Array.getD, h1, dite_true] at this
          have t2 : listed[i] = false := this
          rw [t2, decide_eq_false him]
    subst hLL
    obtain ⟨hsz, hcl, vs, lo, hi', rfl, hls, hbl, hfs, hsp, hno⟩ := hJ
    rw [hk]
    have hsome : ∀ i, i < m → ∃ v, vs i = some v := fun i hi => by
      have h1 := hls i (by omega)
      rw [hE i hi] at h1
      cases h : vs i with
      | none => rw [h] at h1; cases h1
      | some v => exact ⟨v, rfl⟩
    refine hend vs lo hi' w' hbl (fun i hi => ?_) (fun i hi => ?_) (fun i j hi hj hij => ?_)
    · obtain ⟨v, h⟩ := hsome i hi
      exact ⟨v, h, (hfs i v h).1⟩
    · obtain ⟨v, h⟩ := hsome i hi
      exact (hfs i v h).2
    · obtain ⟨v, h⟩ := hsome i hi
      obtain ⟨v', h'⟩ := hsome j hj
      exact hsp i j v v' hij h h'
  · unfold leftOf
    rw [List.filter_eq_self.2, List.length_range]
    intro i hi
    have hi := List.mem_range.1 hi
    simp [Array.getD, hi]
  · refine ⟨by simp, ?_, fun _ => none, fun _ => 0, fun _ => 0, hT0.symm, ?_, hbelow _ (Below.refl _ _), fun j v h => by (cases h), fun _ _ _ _ _ _ h => by (cases h), fun _ _ => rfl⟩
    · intro i o ho hl
      have hi := (Array.getElem?_eq_some_iff.1 ho).1
      simp [Array.getD, hi] at hl
    · intro i hi
      simp [Array.getD, hi]
/-- One operation alone comes up. -/
theorem wpAny_only {f i : Nat} {o : Oper} {listed : Array Bool} {a : Act} {w : World} (hr : Region.ready md ops listed = [i]) (ho : ops[i]? = some o)
    (h : ∀ K : Act → World → Prop, Shut (∀ a w, wpAny P md ops Q f (listed.setIfInBounds i true) a w → K a w) → if Region.wanted o (yielded ops a.tmps) = true then Oper.wp P o a w K Q else K (a.put o.dst undef) w) : wpAny P md ops Q (f + 1) listed a w := by
  refine ⟨fun e => (by rw [hr] at e; cases e), fun j hj => ?_⟩
  rw [hr] at hj
  obtain rfl : j = i := by simpa using hj
  exact wpOp_step ho h
theorem wpAny_end {f : Nat} {listed : Array Bool} {a : Act} {w : World} (hr : Region.ready md ops listed = []) (h : Q .normal a w) : wpAny P md ops Q f listed a w := by
  cases f with
  | zero => exact ⟨hr, h⟩
  | succ f => exact ⟨fun _ => h, fun i hi => by rw [hr] at hi; cases hi⟩
end
end Go.Proofs.Ytpcgedngikpnoaa
