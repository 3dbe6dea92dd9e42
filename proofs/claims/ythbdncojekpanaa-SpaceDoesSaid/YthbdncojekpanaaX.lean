/-
  A new region among the others: insert.
-/
import Derived.Test.YthbdncojekpanaaW
namespace Go.Proofs.Ythbdncojekpanaa
open Go.RowKit

theorem Beside.alloc (w : World) (o : Obj) (p : Nat → Prop) : Beside w (w.alloc o) p := ⟨rfl, rfl, rfl, by simp, fun _ hk _ => heap_alloc_old w o hk⟩
/-- The call of Insert that insert makes, at whatever world has the new block besides. -/
theorem insert_call {W W' : World} {B g i : Nat} {A : Option Addr} {c : Nat} {rs : List Raw} {a s p : Int} {t : TypeId} (h : Sp W B g A c rs) (hi : i ≤ rs.length) (b00 : Beside W W' (fun _ => False)) (hx : Bx W' W.heap.size #[.int .i64 a, .int .i64 s, .int .i64 p, .slice none 0 0] t) :
    Calls Try.prog 62 #[.slice A rs.length c, .int .i64 (i : Nat), .slice (some ⟨W.heap.size, 0, none⟩) 1 1] W' fun e w' => ∃ A' c', e = .returned (.slice A' (rs.length + 1) c') ∧
      w'.ownsRow B 69 4 (.slice A' (rs.length + 1) c') (rs.length + 1) (rcells (rs.insertIdx i ⟨⟨a, s, p, []⟩, none, 0⟩)) ∧ Beside W w' (fun k => some k = row A) ∧ (row A' = row A ∨ ∃ q, W.heap.size ≤ q ∧ row A' = some q) ∧ w'.cell? ⟨g, 0, none⟩ = some (.slice A rs.length c) ∧ w'.frozen? ⟨g, 0, none⟩ = false := by
  have b0 : Beside W W' (fun k => some k = row A) := b00.weak fun _ _ e => e.elim
  have h1 := h.beside b00 fun _ _ e => e
  have hlt := h.box.lt
  refine (Insert_any B c W.heap.size i A t rs ⟨⟨a, s, p, []⟩, none, 0⟩ _ h1.own (by have := h.hg; have := b0.size; omega) (ord_few h.ord) hx (fun e => by have := (h.lt (k := W.heap.size) (.inr (.inl e.symm))).2; omega) hi).mono ?_
  rintro e w' ⟨A', c', rfl, h2, h3, h4⟩
  have hbox := h1.box.beside h3 (fun e => h.ne e.symm)
  refine ⟨A', c', rfl, h2, b0.trans ⟨h3.os, h3.tape, h3.output, h3.size, h3.block⟩, h4.imp id fun ⟨q, hq, e⟩ => ⟨q, Nat.le_trans b0.size hq, e⟩, hbox.c 0, hbox.f 0⟩
end Go.Proofs.Ythbdncojekpanaa
