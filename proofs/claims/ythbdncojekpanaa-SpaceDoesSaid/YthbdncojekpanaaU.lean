/-
  One block put into a list of blocks: slices.Insert at the end.
-/
import Derived.Test.YthbdncojekpanaaT
import Derived.Lib.Overlaps
namespace Go.Proofs.Ythbdncojekpanaa
open Go.RowKit

theorem plainA {w : World} {B n c sz : Nat} {e : TypeId} {A : Option Addr} {xs : List Value} (h : w.ownsRow B e sz (.slice A n c) n xs) : A = none ∨ ∃ b, A = some ⟨b, 0, none⟩ := by
  rcases h.2 with ⟨hv, _⟩ | ⟨g, cap, cur, hv, _⟩
  · injection hv with h1
    exact .inl h1
  · injection hv with h1
    exact .inr ⟨g, h1⟩
/-- Behind an Insert of one block. -/
def Inserted (w : World) (B : Nat) (A : Option Addr) (rs : List Raw) (i : Nat) (r : Raw) (e : Ending) (w' : World) : Prop :=
  ∃ A' c', e = .returned (.slice A' (rs.length + 1) c') ∧ w'.ownsRow B 69 4 (.slice A' (rs.length + 1) c') (rs.length + 1) (rcells (rs.insertIdx i r)) ∧ Beside w w' (fun k => some k = row A) ∧ (row A' = row A ∨ ∃ q, w.heap.size ≤ q ∧ row A' = some q)
theorem insert_end (rs : List Raw) (r : Raw) : rs.insertIdx rs.length r = rs ++ [r] := by
  induction rs with
  | nil => rfl
  | cons a rs ih => rw [List.length_cons, List.insertIdx_succ_cons, ih]; rfl
theorem rawC_at {w : World} {vb : Nat} {t : TypeId} {r : Raw} (h : Bx w vb (rawC r).toArray t) : ∀ j u, (rcells [r])[j]? = some u → w.cell? ((⟨vb, 0, none⟩ : Addr).add j) = some u := by
  intro j u hu
  rw [plainAdd, Nat.zero_add, h.c j]
  simpa [rcells] using hu
theorem row_form {w : World} {B n : Nat} {v : Value} {e : TypeId} {xs : List Value} (h : w.ownsRow B e 4 v n xs) : ∃ A c, v = .slice A n c := by
  rcases h.2 with ⟨hv, h0⟩ | ⟨g, cap, cur, hv, _⟩
  · exact ⟨_, _, by rw [hv, h0]⟩
  · exact ⟨_, _, hv⟩
/-- One block behind the others. -/
theorem wpList_app1 {w : World} {ops : Array Oper} {rest : List Oper} {o : Oper} {a : Act} {Q : Exit → Act → World → Prop} (hgd : o.guard = none) (s x : Operand)
    (ho : o.op = .call { callee := .builtin .append, args := #[s, x], argTypes := #[62, 62] })
    (B : Nat) (A : Option Addr) (n c vb : Nat) (rs : List Raw) (r : Raw) (hs : a.eval s = .slice A n c) (hx : a.eval x = .slice (some ⟨vb, 0, none⟩) 1 1) (hown : w.ownsRow B 69 4 (.slice A n c) n (rcells rs)) (hB : B ≤ w.heap.size) (hfew : n ≤ 67108864)
    (hv : ∀ j u, (rcells [r])[j]? = some u → w.cell? ((⟨vb, 0, none⟩ : Addr).add j) = some u)
    (h : ∀ A' c' w', w'.ownsRow B 69 4 (.slice A' (n + 1) c') (n + 1) (rcells (rs ++ [r])) → Beside w w' (fun k => some k = row A) → (row A' = row A ∨ ∃ q, w.heap.size ≤ q ∧ row A' = some q) → wpList Try.prog ops Q rest (a.put o.dst (.slice A' (n + 1) c')) w') : wpList Try.prog ops Q (o :: rest) a w := by
  obtain ⟨i0, z, hi0, hz0, hzc, hz1, hz2⟩ := block_parts
  have hzs : z.cells.size = 4 := by
    have : z.cells.toList.length = 4 := by rw [hzc]; rfl
    simpa using this
  refine wpList_append_own_at w hgd s x 62 ho B 69 i0 z 4 48 Try.underlying62 hi0 hz0 hz1 hz2 hzs (by omega) (.slice A n c) n (rcells rs) hs hown ⟨vb, 0, none⟩ 1 1 (rcells [r]) hx (by rw [rcells_len]; rfl) hv (rcells_one _) (by simp only [maxLen]; omega) (by omega) hB fun v' w' h1 h2 _ h4 => ?_
  obtain ⟨A', c', rfl⟩ := row_form h1
  rw [row_own] at h2
  rw [row_own, row_own] at h4
  rw [← rcells_app] at h1
  exact h A' c' w' h1 (Beside.grown h2 fun k hk => hk.symm) (h4.imp id fun h => ⟨_, Nat.le_refl _, h⟩)
set_option maxRecDepth 100000 in
set_option maxHeartbeats 2000000 in
theorem Insert_end (B n : Nat) (A : Option Addr) (c vb : Nat) (vt : TypeId) (rs : List Raw) (r : Raw) (w : World) (hl : rs.length = n) (hown : w.ownsRow B 69 4 (.slice A n c) n (rcells rs)) (hB : B ≤ w.heap.size) (hfew : n ≤ 67108864) (hv : Bx w vb (rawC r).toArray vt) :
    Calls Try.prog 62 #[.slice A n c, .int .i64 n, .slice (some ⟨vb, 0, none⟩) 1 1] w (Inserted w B A rs n r) := by
  have HO := Lib.hid hown
  have HS := Lib.hid (rawC_at hv)
  have hcap : n ≤ c ∧ (A = none → c = 0 ∧ n = 0) := by
    rcases hown.2 with ⟨hv, h0⟩ | ⟨g, cap, cur, hv, _, _, hle, _⟩
    · injection hv with h1 _ h3
      exact ⟨by omega, fun _ => ⟨h3, h0⟩⟩
    · injection hv with h1 _ h3
      subst h1 h3
      exact ⟨hle, fun h => by cases h⟩
  obtain ⟨hnc, hnil⟩ := hcap
  have HNIL := Lib.hid hnil
  have HE := Lib.hid (show ∀ A' c' w', w'.ownsRow B 69 4 (.slice A' (n + 1) c') (n + 1) (rcells (rs ++ [r])) → Beside w w' (fun k => some k = row A) → (row A' = row A ∨ ∃ q, w.heap.size ≤ q ∧ row A' = some q) → Inserted w B A rs n r (.returned (.slice A' (n + 1) c')) w' from fun A' c' w' h1 h2 h3 => by
    subst hl
    exact ⟨A', c', rfl, by rw [insert_end]; exact h1, h2, h3⟩)
  have HP := plainA hown
  generalize hX : Inserted w B A rs n r = L at *
  clear hX hown hv hl hnil
  rcases HP with rfl | ⟨b, rfl⟩
  · obtain ⟨rfl, rfl⟩ := HNIL.out rfl
    go_enter Try.func62, Try.ntmps62
    go_wp2_with (refine wpList_app1 rfl (.tmp 23) (.tmp 24) rfl B none 0 0 vb rs r rfl rfl HO.out hB hfew HS.out ?_; intro A' c' w' h1 h2 h3; have E := Lib.hid (HE.out A' c' w' h1 h2 h3); clear h1 h2 h3)
    first | go_ret | skip
    exact E.out
  · go_enter Try.func62, Try.ntmps62
    go_wp2_with (refine wpList_app1 rfl (.tmp 23) (.tmp 24) rfl B (some ⟨b, 0, none⟩) n c vb rs r rfl rfl HO.out hB hfew HS.out ?_; intro A' c' w' h1 h2 h3; have E := Lib.hid (HE.out A' c' w' h1 h2 h3); clear h1 h2 h3)
    all_goals
      first | go_ret | skip
      exact E.out
end Go.Proofs.Ythbdncojekpanaa
