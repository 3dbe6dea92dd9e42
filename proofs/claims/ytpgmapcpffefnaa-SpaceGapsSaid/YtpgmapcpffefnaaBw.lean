/-
  Two spaces beside each other; what is refused, and where a gap is: plain facts.
-/
import Derived.Test.YtpgmapcpffefnaaBc
namespace Go.Proofs.Ytpgmapcpffefnaa
open Go.RowKit

/-- Two spaces, made since w0, that share nothing. -/
def W2 (w0 w : World) (g : Nat) (ss : List Seg) (g' : Nat) (ss' : List Seg) : Prop := Below w0.heap.size w0 w ∧ ∃ F F', Lies w w0.heap.size g F ss ∧ Lies w w0.heap.size g' F' ss' ∧ ∀ k, F k → ¬ F' k
theorem W2.swap {w0 w : World} {g g' : Nat} {ss ss' : List Seg} (h : W2 w0 w g ss g' ss') : W2 w0 w g' ss' g ss := by
  obtain ⟨hb, F, F', h1, h2, h3⟩ := h
  exact ⟨hb, F', F, h2, h1, fun k h h' => h3 k h' h⟩
theorem W2.went {w0 w w' : World} {g g' : Nat} {ss ss' s2 : List Seg} {F F' : Nat → Prop} (hb : Below w0.heap.size w0 w) (h1 : Lies w w0.heap.size g F ss) (h2 : Lies w w0.heap.size g' F' ss') (h3 : ∀ k, F k → ¬ F' k) (h : Went w w' w0.heap.size g F s2) : W2 w0 w' g s2 g' ss' := by
  obtain ⟨F2, p1, p2, p3⟩ := h
  refine ⟨hb.trans (p2.below (fun k hk => (h1.lt hk).1) hb.size), F2, F', p1, h2.beside p2 fun k hk hf => h3 k hf hk, fun k hk hk' => ?_⟩
  rcases p3 k hk with h | h
  · exact h3 k h hk'
  · have := (h2.lt hk').2
    omega
theorem W2.act {w0 w : World} {g g' : Nat} {ss ss' s2 : List Seg} (h : W2 w0 w g ss g' ss') {f : Nat} {args : Array Value} {v : Value} (hc : ∀ F, Lies w w0.heap.size g F ss → Calls Try.prog f args w fun e w' => e = .returned v ∧ Went w w' w0.heap.size g F s2) :
    Calls Try.prog f args w fun e w' => e = .returned v ∧ W2 w0 w' g s2 g' ss' := by
  obtain ⟨hb, F, F', h1, h2, h3⟩ := h
  exact (hc F h1).mono fun e w' hw => ⟨hw.1, W2.went hb h1 h2 h3 hw.2⟩
theorem W2.quiet {w0 w w' : World} {g g' : Nat} {ss ss' : List Seg} (h : W2 w0 w g ss g' ss') (hb' : Below w.heap.size w w') : W2 w0 w' g ss g' ss' := by
  obtain ⟨hb, F, F', h1, h2, h3⟩ := h
  exact ⟨hb.trans (hb'.mono hb.size), F, F', h1.below hb', h2.below hb', h3⟩
theorem W2.q {w0 w : World} {g g' : Nat} {ss ss' : List Seg} (h : W2 w0 w g ss g' ss') : Wq w0 w g ss (fun _ => False) := by
  obtain ⟨hb, F, F', h1, h2, h3⟩ := h
  exact ⟨hb, F, h1, fun _ h => h.elim⟩
theorem W2.of_copy {w0 w w' : World} {g : Nat} {ss : List Seg} {e : Ending} (h : Ws w0 w g ss) (hc : CopyS w ss e w') : ∃ gc, e = .returned (.pointer (some ⟨gc, 0, none⟩)) ∧ W2 w0 w' g ss gc ss := by
  obtain ⟨hb, F, hl⟩ := h
  obtain ⟨gc, F', he, h1, h2⟩ := hc
  refine ⟨gc, he, hb.trans (h2.mono hb.size), F, F', hl.below h2, ?_, fun k hk hk' => ?_⟩
  · obtain ⟨A, c, rs, p1, p2, p3, p4⟩ := h1
    exact ⟨A, c, rs, ⟨Nat.le_trans hb.size p1.hg, p1.box, own_more p1.own hb.size, fun r hr => own_more (p1.bytes r hr) hb.size, p1.short, p1.ne, p1.apart, p1.pair, p1.ord⟩, p2, p3, p4⟩
  · have := (hl.lt hk).2
    have := (h1.lt hk').1
    omega
theorem Ws.copy {w0 w : World} {g : Nat} {ss : List Seg} (h : Ws w0 w g ss) : Calls Try.prog 12 #[.pointer (some ⟨g, 0, none⟩)] w fun e w' => ∃ gc, e = .returned (.pointer (some ⟨gc, 0, none⟩)) ∧ W2 w0 w' g ss gc ss := by
  obtain ⟨F, hl⟩ := h.2
  exact (Copy_s hl).mono fun e w' hc => W2.of_copy h hc

theorem W2.took {w0 w : World} {g g' : Nat} {ss ss' : List Seg} (h : W2 w0 w g ss g' ss') {f : Nat} {args : Array Value} {a n need : Int} (hc : ∀ F, Lies w w0.heap.size g F ss → Calls Try.prog f args w (TookS w ss a n need)) :
    Calls Try.prog f args w fun e w' => ∃ A c, e = .returned (.tuple #[.slice A (readS ss a n need).length c, .int .i64 (goesS ss a n need)]) ∧ Src w' (fun k => k < w'.heap.size) A (readS ss a n need).length c (cells (readS ss a n need)) ∧ W2 w0 w' g ss g' ss' ∧ Below w.heap.size w w' :=
  (h.q.took hc).mono fun _ _ ⟨A, c, h1, h2, _, h4⟩ => ⟨A, c, h1, h2.lt, h.quiet h4, h4⟩
theorem W2.regions {w0 w : World} {g g' : Nat} {ss ss' : List Seg} (h : W2 w0 w g ss g' ss') : Calls Try.prog 22 #[.pointer (some ⟨g, 0, none⟩)] w fun e w' => ∃ A c, e = .returned (.slice A ss.length c) ∧ Gls w' A ss.length c (ss.map rgS) ∧ W2 w0 w' g ss g' ss' ∧ Below w.heap.size w w' :=
  h.q.regions.mono fun _ _ ⟨A, c, h1, h2, _, h4⟩ => ⟨A, c, h1, h2, h.quiet h4, h4⟩
theorem W2.few {w0 w : World} {g g' : Nat} {ss ss' : List Seg} (h : W2 w0 w g ss g' ss') : ss.length ≤ 67108864 := Good.few h.q

theorem store_refused {ss : List Seg} {a need : Int} {ms : Str} (h : (storeS ss a ms need).1 ≠ 0) : (storeS ss a ms need).2 = ss := by
  unfold storeS at h ⊢
  split
  · rename_i h0
    rw [if_pos h0] at h
    exact absurd rfl h
  · rfl
theorem act_refused {ss : List Seg} (hg : Good ss) {x : Ac} (h : (actS ss x).2.1 ≠ 0) : (actS ss x).2.2 = ss := by
  unfold actS at h ⊢
  split
  · rename_i h1
    rw [if_pos h1] at h
    rcases map_cases hg x.n x.perm with hc | hc | ⟨a, hc, _⟩
    · rw [hc]
    · rw [hc]
    · rw [hc] at h
      exact absurd rfl h
  rename_i h1
  rw [if_neg h1] at h
  split
  · rename_i h2
    rw [if_pos h2] at h
    simp only at h ⊢
    unfold mapAtS at h ⊢
    split
    · rename_i h3
      rw [if_pos h3] at h
      split
      · rename_i h4
        rw [if_pos h4] at h
        exact absurd rfl h
      · rfl
    · rfl
  rename_i h2
  rw [if_neg h2] at h
  split
  · rename_i h3
    rw [if_pos h3] at h
    simp only at h ⊢
    unfold unmapS at h ⊢
    split
    · rename_i h4
      rw [if_pos h4] at h
      exact absurd rfl h
    · rfl
  rename_i h3
  rw [if_neg h3] at h
  split
  · rename_i h4
    rw [if_pos h4] at h
    simp only at h ⊢
    unfold protS at h ⊢
    split
    · rename_i h5
      rw [if_pos h5] at h
      split
      · rename_i h6
        rw [if_pos h6] at h
        exact absurd rfl h
      · rfl
    · rfl
  rename_i h4
  rw [if_neg h4] at h
  split
  · rename_i h5
    rw [if_pos h5] at h
    exact store_refused h
  rename_i h5
  rw [if_neg h5] at h
  split
  · rename_i h6
    rw [if_pos h6] at h
    exact store_refused h
  rename_i h6
  rw [if_neg h6] at h
  split
  · rename_i h7
    rw [if_pos h7] at h
    exact store_refused h
  rename_i h7
  rw [if_neg h7] at h
  split
  · rename_i h8
    rw [if_pos h8] at h
    exact store_refused h
  · rfl
theorem gap_least {n : Int} : ∀ {ss : List Seg} {a r : Int}, gapS n a ss = some r → ∀ a', a ≤ a' → a' < r → ¬ freeS ss a' n
  | [], a, r, h, a', h1, h2 => by
    unfold gapS at h
    split at h
    · cases h; omega
    · cases h
  | s :: ss, a, r, h, a', h1, h2 => by
    intro hf
    unfold gapS at h
    split at h
    · cases h; omega
    · by_cases h3 : a' < s.at_ + s.size
      · rcases hf s (List.mem_cons_self ..) with h4 | h4 <;> omega
      · exact gap_least h a' (by omega) h2 fun x hx => hf x (List.mem_cons_of_mem _ hx)
theorem gap_map {ss : List Seg} (hg : Good ss) (n : Int) : (∃ e, (e = 1 ∨ e = 3) ∧ gapA ss n = (0, e) ∧ mapS ss n 3 = (0, e, ss)) ∨ ∃ a, gapA ss n = (a, 0) ∧ mapS ss n 3 = (a, 0, insS (newS a (up n) 3) ss) ∧ mapAtS ss a n 3 = (0, insS (newS a (up n) 3) ss) ∧ (4096 ≤ a ∧ a ≤ 4294967296) ∧ ∀ k : Nat, (mapAtS ss (a - 64 * (1 + (k : Int))) n 3).1 ≠ 0 ∧ (mapAtS ss (a - 64 * (1 + (k : Int))) n 3).2 = ss := by
  unfold gapA mapS
  cases hs : sizeB n with
  | false => exact .inl ⟨1, .inl rfl, rfl, rfl⟩
  | true =>
    have hs2 := size_of hs
    cases hgp : gapS n 4096 ss with
    | none => exact .inl ⟨3, .inr rfl, rfl, rfl⟩
    | some a =>
      obtain ⟨g1, g2, g3, g4⟩ := gapS_free hg (fun x hx => (hg.fit x hx).1) hgp
      have g5 := g4 (by omega)
      have hst : startB a n = true := by unfold startB; simp; omega
      refine .inr ⟨a, rfl, rfl, ?_, ⟨g1, by omega⟩, fun k => ?_⟩
      · unfold mapAtS
        rw [hs, hst, show permB 3 = true from rfl, if_pos (show (true && (true && true)) = true from rfl), if_pos g3]
      · unfold mapAtS
        split
        · rename_i hb
          obtain ⟨_, hb⟩ := (Bool.and_eq_true _ _).mp hb
          obtain ⟨_, hb⟩ := (Bool.and_eq_true _ _).mp hb
          have hb2 := start_of hb
          rw [if_neg (gap_least hgp _ hb2.2.1 (by omega))]
          exact ⟨by omega, rfl⟩
        · exact ⟨by omega, rfl⟩
end Go.Proofs.Ytpgmapcpffefnaa
