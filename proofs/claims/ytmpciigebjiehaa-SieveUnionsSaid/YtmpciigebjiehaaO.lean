/-
  Unions of two filters; a list of two filters in a new block.
-/
import Derived.Test.YtmpciigebjiehaaN
namespace Go.Proofs.Ytmpciigebjiehaa
open Go.RowKit

theorem union_two (P : Nat → Prop) (A : Option Addr) (c : Nat) (f g : Fi) (w : World) (h : Fls w P A 2 c [f, g]) (ha : alikeB [f, g] = true) :
    Calls Try.prog 27 #[.slice A 2 c] w (Made w (uniAll f.ws [g]) f.s) := by
  have h' : Fls w P A ([g].length + 1) c (f :: [g]) := h
  have := union_ok P A c f [g] w h' (by simp) ha
  exact this

theorem fls_two (w : World) (P Q : Nat → Prop) (f g : Fi) (A1 A2 : Option Addr) (c1 c2 : Nat) (h1 : Src w P A1 f.ws.length c1 (wds f.ws)) (h2 : Src w Q A2 g.ws.length c2 (wds g.ws)) :
    Fls (w.alloc (.cells #[.slice A1 f.ws.length c1, .int .i64 f.s, .slice A2 g.ws.length c2, .int .i64 g.s] 30)) (fun k => k < w.heap.size + 1) (some ⟨w.heap.size, 0, none⟩) 2 2 [f, g] := by
  have hb := (Below.refl w.heap.size w).alloc (Nat.le_refl _) (.cells #[.slice A1 f.ws.length c1, .int .i64 f.s, .slice A2 g.ws.length c2, .int .i64 g.s] 30)
  have hh : (w.alloc (.cells #[.slice A1 f.ws.length c1, .int .i64 f.s, .slice A2 g.ws.length c2, .int .i64 g.s] 30)).heap[w.heap.size]? = some (.cells #[.slice A1 f.ws.length c1, .int .i64 f.s, .slice A2 g.ws.length c2, .int .i64 g.s] 30 (0, 0)) := heap_alloc_new _ _
  refine ⟨rfl, (by intro h; cases h), Nat.le_refl _, (by intro ad h _; cases h; show w.heap.size < w.heap.size + 1; omega), ?_⟩
  intro ad h i hi
  cases h
  match i, hi with
  | 0, _ => exact ⟨A1, c1, (h1.lt.below hb (fun _ h => h)).weak (fun k hk => Nat.lt_succ_of_lt hk), cell_of_row _ _ 0 _ _ _ hh, cell_of_row _ _ 1 _ _ _ hh⟩
  | 1, _ => exact ⟨A2, c2, (h2.lt.below hb (fun _ h => h)).weak (fun k hk => Nat.lt_succ_of_lt hk), cell_of_row _ _ 2 _ _ _ hh, cell_of_row _ _ 3 _ _ _ hh⟩
end Go.Proofs.Ytmpciigebjiehaa
