/-
  Copies: of bytes, of a list of blocks.
-/
import Derived.Test.YthbdncojekpanaaAa
namespace Go.Proofs.Ythbdncojekpanaa
open Go.RowKit

/-- A new row with these bytes; all else is as it was. -/
def ClonedB (w : World) (bs : Str) (e : Ending) (w' : World) : Prop :=
  ∃ A' c', e = .returned (.slice A' bs.length c') ∧ w'.ownsRow w.heap.size 5 1 (.slice A' bs.length c') bs.length (cells bs) ∧ Below w.heap.size w w'
set_option maxHeartbeats 400000 in
theorem CloneB_any (P : Nat → Prop) (A : Option Addr) (c : Nat) (bs : Str) (w : World) (h : Src w P A bs.length c (cells bs)) (hn : bs.length ≤ 140737488355328) :
    Calls Try.prog 32 #[.slice A bs.length c] w (ClonedB w bs) := by
  obtain ⟨i0, hi, hz0, hz1, hz2⟩ := info_parts Try.info_u8
  have hq := @Lib.run_eql_slice_nil Try.prog
  cases A with
  | none =>
    obtain ⟨h0, rfl⟩ := h.nil rfl
    have h1 : bs = [] := List.eq_nil_of_length_eq_zero h0
    subst h1
    clear h h0
    go_enter Try.func32, Try.ntmps32
    go_wp2_with fail
    first | go_ret | skip
    exact ⟨none, 0, rfl, ⟨rfl, .inl ⟨rfl, rfl⟩⟩, Below.refl _ _⟩
  | some ad =>
    have HS := Lib.hid (h.lt.below ((Below.refl w.heap.size w).alloc (Nat.le_refl _) (.cells #[] 5)) (fun _ h => h))
    have ho : (w.alloc (.cells #[] 5)).ownsRow w.heap.size 5 1 (.slice (some ⟨w.heap.size, 0, none⟩) 0 0) 0 [] :=
      ⟨rfl, .inr ⟨w.heap.size, 0, #[], rfl, Nat.le_refl _, heap_alloc_new _ _, Nat.le_refl _, Nat.zero_le _, rfl, rfl⟩⟩
    have HO := Lib.hid ho
    have h1 := cells_one bs
    have m1 : 0 + bs.length ≤ maxLen := by simp only [maxLen]; omega
    have m2 : (0 + bs.length) * 1 ≤ 140737488355328 := by omega
    have HE := Lib.hid (show ∀ e w', ClonedB w bs e w' → ClonedB w bs e w' from fun _ _ h => h)
    generalize hL : ClonedB w bs = L at *
    have HL := Lib.hid hL
    clear h hL ho HE
    go_enter Try.func32, Try.ntmps32
    go_wp2_with (at_builtin; refine wpList_append_src rfl (.tmp 5) (.tmp 6) _ rfl w.heap.size 5 i0 _ 1 Try.underlying31 hi hz0 hz1 hz2 rfl (.slice (some ⟨w.heap.size, 0, none⟩) 0 0) 0 [] rfl HO.out _ _ bs.length c (cells bs) rfl HS.out h1 m1 m2 (by simp) ?_; intro v' w1 hown hg hat; obtain ⟨A', c', rfl⟩ := own_slice hown; have HO2 := Lib.hid hown; have HB := Lib.hid (((Below.refl _ _).alloc (Nat.le_refl _) _).grown hg (by simp) (fun k hk => by cases hk; exact Nat.le_refl _) : Below w.heap.size w w1); clear hown hg hat)
    rw [← HL.out]
    have hown := HO2.out
    try simp only [Nat.zero_add, List.nil_append] at hown
    first
      | (go_ret; (try simp only [Nat.zero_add]); exact ⟨A', c', rfl, hown, HB.out⟩)
      | ((try simp only [Nat.zero_add]); exact ⟨A', c', rfl, hown, HB.out⟩)
/-- A new row with these blocks; all else is as it was. -/
def ClonedR (w : World) (rs : List Raw) (e : Ending) (w' : World) : Prop :=
  ∃ A' c', e = .returned (.slice A' rs.length c') ∧ w'.ownsRow w.heap.size 69 4 (.slice A' rs.length c') rs.length (rcells rs) ∧ Below w.heap.size w w'
set_option maxRecDepth 100000 in
set_option maxHeartbeats 1000000 in
theorem CloneR_any (B : Nat) (A : Option Addr) (c : Nat) (rs : List Raw) (w : World) (h : w.ownsRow B 69 4 (.slice A rs.length c) rs.length (rcells rs)) (hn : rs.length ≤ 67108864) :
    Calls Try.prog 31 #[.slice A rs.length c] w (ClonedR w rs) := by
  obtain ⟨i0, z, hi0, hz0, hzc, hz1, hz2⟩ := block_parts
  have hzs : z.cells.size = 4 := by
    have : z.cells.toList.length = 4 := by rw [hzc]; rfl
    simpa using this
  have hq := @Lib.run_eql_slice_nil Try.prog
  rcases plainA h with rfl | ⟨b, rfl⟩
  · have h0 : rs.length = 0 ∧ c = 0 := by
      rcases h.2 with ⟨hv, h0⟩ | ⟨g, cap, cur, hv, _⟩
      · injection hv with _ _ h3
        exact ⟨h0, h3⟩
      · injection hv with h1; cases h1
    obtain ⟨h0, rfl⟩ := h0
    have h1 : rs = [] := List.eq_nil_of_length_eq_zero h0
    subst h1
    clear h h0
    go_enter Try.func31, Try.ntmps31
    go_wp2_with fail
    first | go_ret | skip
    exact ⟨none, 0, rfl, ⟨rfl, .inl ⟨rfl, rfl⟩⟩, Below.refl _ _⟩
  · have HS := Lib.hid (show ∀ j u, (rcells rs)[j]? = some u → (w.alloc (.cells #[] 69)).cell? ((⟨b, 0, none⟩ : Addr).add j) = some u from fun j u hu => cell_below ((Below.refl w.heap.size w).alloc (Nat.le_refl _) _) (h.cells (g := b) rfl j u hu))
    have HO := Lib.hid (show (w.alloc (.cells #[] 69)).ownsRow w.heap.size 69 4 (.slice (some ⟨w.heap.size, 0, none⟩) 0 0) 0 [] from
      ⟨rfl, .inr ⟨w.heap.size, 0, #[], rfl, Nat.le_refl _, heap_alloc_new _ _, Nat.le_refl _, Nat.zero_le _, rfl, rfl⟩⟩)
    have HRL := Lib.hid (rcells_len rs)
    generalize hL : ClonedR w rs = L at *
    have HL := Lib.hid hL
    clear h hL hzc
    go_enter Try.func31, Try.ntmps31
    go_wp2_with (at_builtin; refine wpList_append_own_at _ rfl (.tmp 5) (.tmp 6) 62 rfl w.heap.size 69 i0 z 4 48 Try.underlying62 hi0 hz0 hz1 hz2 hzs (by omega) (.slice (some ⟨w.heap.size, 0, none⟩) 0 0) 0 [] rfl HO.out ⟨b, 0, none⟩ rs.length c (rcells rs) rfl HRL.out HS.out (rcells_one _) (by simp only [maxLen]; omega) (by omega) (by simp) ?_; intro v' w1 hown hg _ hat; obtain ⟨A', c', rfl⟩ := row_form hown; have HO2 := Lib.hid hown; have HB := Lib.hid (((Below.refl _ _).alloc (Nat.le_refl _) _).grown hg (by simp) (fun k hk => by cases hk; exact Nat.le_refl _) : Below w.heap.size w w1); clear hown hg hat)
    rw [← HL.out]
    have hown := HO2.out
    try simp only [Nat.zero_add, List.nil_append] at hown
    first
      | (go_ret; (try simp only [Nat.zero_add]); exact ⟨A', c', rfl, hown, HB.out⟩)
      | ((try simp only [Nat.zero_add]); exact ⟨A', c', rfl, hown, HB.out⟩)
end Go.Proofs.Ythbdncojekpanaa
