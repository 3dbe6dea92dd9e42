/-
  A list of filters of the call's own.
-/
import Derived.Test.YtmpciigebjiehaaMHolds
namespace Go.Proofs.Ytmpciigebjiehaa
open Go.RowKit

structure Ri where
  A : Option Addr
  c : Nat
  f : Fi
def lay (rs : List Ri) : List Value := rs.flatMap fun r => [.slice r.A r.f.ws.length r.c, .int .i64 r.f.s]
theorem lay_len (rs : List Ri) : (lay rs).length = rs.length * 2 := by
  induction rs with
  | nil => rfl
  | cons r rs ih =>
    have : lay (r :: rs) = [.slice r.A r.f.ws.length r.c, .int .i64 r.f.s] ++ lay rs := rfl
    rw [this, List.length_append, ih, List.length_cons]
    simp
    omega
theorem lay_snoc (rs : List Ri) (r : Ri) : lay (rs ++ [r]) = lay rs ++ [.slice r.A r.f.ws.length r.c, .int .i64 r.f.s] := by simp [lay]
theorem lay_get (rs : List Ri) : ∀ i (hi : i < rs.length), (lay rs)[i * 2]? = some (.slice rs[i].A rs[i].f.ws.length rs[i].c) ∧ (lay rs)[i * 2 + 1]? = some (.int .i64 rs[i].f.s) := by
  induction rs with
  | nil => intro i hi; cases hi
  | cons r rs ih =>
    intro i hi
    have e : lay (r :: rs) = .slice r.A r.f.ws.length r.c :: .int .i64 r.f.s :: lay rs := rfl
    rw [e]
    cases i with
    | zero => exact ⟨rfl, rfl⟩
    | succ i =>
      have h := ih i (by simpa using hi)
      rw [show (i + 1) * 2 = i * 2 + 1 + 1 by omega]
      simpa using h
/-- The list lies in a row of the call's own, each filter's words in another one. -/
structure OwnL (w : World) (B : Nat) (A : Option Addr) (n c : Nat) (rs : List Ri) : Prop where
  len : rs.length = n
  row : w.ownsRow B 30 2 (.slice A n c) n (lay rs)
  each : ∀ r ∈ rs, w.ownsRow B 53 1 (.slice r.A r.f.ws.length r.c) r.f.ws.length (wds r.f.ws)
theorem own2_keep {w w' : World} {B : Nat} {e : TypeId} {sz : Nat} {v : Value} {n : Nat} {xs : List Value} (h : w.ownsRow B e sz v n xs) (hk : ∀ k, B ≤ k → k < w.heap.size → w'.heap[k]? = w.heap[k]?) : w'.ownsRow B e sz v n xs := by
  refine ⟨h.1, ?_⟩
  rcases h.2 with h1 | ⟨g, cap, cur, hv, hb, hh, hx⟩
  · exact .inl h1
  · exact .inr ⟨g, cap, cur, hv, hb, (hk g hb (Array.getElem?_eq_some_iff.1 hh).1).trans hh, hx⟩
theorem OwnL.keep {w w' : World} {B : Nat} {A : Option Addr} {n c : Nat} {rs : List Ri} (h : OwnL w B A n c rs) (hk : ∀ k, B ≤ k → k < w.heap.size → w'.heap[k]? = w.heap[k]?) : OwnL w' B A n c rs :=
  ⟨h.len, own2_keep h.row hk, fun r hr => own2_keep (h.each r hr) hk⟩
theorem OwnL.below {w w' : World} {B : Nat} {A : Option Addr} {n c : Nat} {rs : List Ri} (h : OwnL w B A n c rs) (hb : Below w.heap.size w w') : OwnL w' B A n c rs :=
  h.keep fun k _ hk => hb.block k hk
theorem OwnL.fls {w : World} {B : Nat} {A : Option Addr} {n c : Nat} {rs : List Ri} (h : OwnL w B A n c rs) : Fls w (fun k => B ≤ k ∧ k < w.heap.size) A n c (rs.map (·.f)) := by
  have hl := h.len
  refine ⟨by simpa using h.len, fun hA => ?_, ?_, ?_, ?_⟩
  · rcases h.row.2 with ⟨hv, h0⟩ | ⟨g, cap, cur, hv, _⟩
    · injection hv with _ _ hc
      exact ⟨h0, hc⟩
    · subst hA; injection hv with h1; cases h1
  · rcases h.row.2 with ⟨hv, h0⟩ | ⟨g, cap, cur, hv, _, _, hle, _⟩
    · omega
    · injection hv with _ _ hc; subst hc; exact hle
  · intro ad hA _
    subst hA
    exact h.row.lt ad.block rfl
  · intro ad hA i hi
    subst hA
    have hi' : i < rs.length := by simpa using hi
    rcases h.row.2 with ⟨hv, h0⟩ | ⟨g, cap, cur, hv, _⟩
    · cases hv
    · have hc := h.row.cells (g := ad.block) rfl
      injection hv with h1
      injection h1 with h1
      subst h1
      obtain ⟨g0, g1⟩ := lay_get rs i hi'
      have hsrc := (Src.of_own (h.each rs[i] (List.getElem_mem hi'))).weak (Q := fun k => B ≤ k ∧ k < w.heap.size) (fun k hk => hk.2)
      simp only [List.getElem_map]
      exact ⟨rs[i].A, rs[i].c, hsrc, hc _ _ g0, hc _ _ g1⟩
/-- One more. -/
theorem OwnL.snoc {w w' : World} {B : Nat} {A : Option Addr} {n c : Nat} {rs : List Ri} (h : OwnL w B A n c rs) (r : Ri) (hr : w.ownsRow B 53 1 (.slice r.A r.f.ws.length r.c) r.f.ws.length (wds r.f.ws)) {A' : Option Addr} {c' : Nat}
    (hown : w'.ownsRow B 30 2 (.slice A' (n + 1) c') (n + 1) (lay rs ++ [.slice r.A r.f.ws.length r.c, .int .i64 r.f.s])) (hg : w.grownBy w' (Go.Proofs.Ytmpciigebjiehaa.row A)) : OwnL w' B A' (n + 1) c' (rs ++ [r]) := by
  have hne : ∀ v m (xs : List Value), w.ownsRow B 53 1 v m xs → w'.ownsRow B 53 1 v m xs := by
    intro v m xs hv
    refine hv.kept hg ?_
    rcases Option.eq_none_or_eq_some v.ownBlock with h0 | ⟨k, h0⟩
    · exact .inl h0
    · right
      intro e
      have hA : (Value.slice A n c).ownBlock = some k := by rw [row_own, ← e]; exact h0
      rcases hv.2 with ⟨rfl, _⟩ | ⟨g', cap, cur, rfl, _, hh, _⟩
      · cases h0
      · rcases h.row.2 with ⟨h1, _⟩ | ⟨g2, cap2, cur2, h1, _, hh2, _⟩
        · injection h1 with h1; subst h1; cases hA
        · injection h1 with h1
          subst h1
          injection h0 with h0
          injection hA with hA
          have e1 : g' = k := h0
          have e2 : g2 = k := hA
          subst e1
          subst e2
          rw [hh] at hh2
          injection hh2 with h3
          injection h3 with _ h4
          cases h4
  refine ⟨by simp [h.len], by rw [lay_snoc]; exact hown, fun x hx => ?_⟩
  rcases List.mem_append.1 hx with hx | hx
  · exact hne _ _ _ (h.each x hx)
  · obtain rfl : x = r := by simpa using hx
    exact hne _ _ _ hr
end Go.Proofs.Ytmpciigebjiehaa
