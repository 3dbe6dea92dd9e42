/-
  New, Gap, Protect.
-/
import Derived.Test.YthbdncojekpanaaP
namespace Go.Proofs.Ythbdncojekpanaa
open Go.RowKit

theorem new_any (w : World) : Calls Try.prog 11 #[] w fun e w' => e = .returned (.pointer (some ⟨w.heap.size, 0, none⟩)) ∧ w' = w.alloc (.cells #[.slice none 0 0] 66) := by
  go_enter Try.func11, Try.ntmps11
  go_wp2_with fail
  first | go_ret | skip
  exact ⟨rfl, rfl⟩
theorem sp_new (w : World) (B : Nat) (hB : B ≤ w.heap.size) : Sp (w.alloc (.cells #[.slice none 0 0] 66)) B w.heap.size none 0 [] := by
  refine ⟨hB, Bx.new w _ _, World.ownsRow_nil _ _ _ _, ?_, ?_, (by intro h; cases h), ?_, List.Pairwise.nil, ⟨?_, ?_⟩⟩
  · intro r hr; cases hr
  · intro r hr; cases hr
  · intro r hr; cases hr
  · intro r hr; cases hr
  · intro j k hj; simp at hj
/-- What Gap answers. -/
def gapB (rs : List Raw) (s : Int) : Option Int := gapFrom s 4096 rs
def Gaps (w : World) (rs : List Raw) (s : Int) (e : Ending) (w' : World) : Prop := Below w.heap.size w w' ∧ e = .returned (if sizeB s = true then (match gapB rs s with
    | some a => .tuple #[.int .i64 a, .int .i64 0]
    | none => .tuple #[.int .i64 0, .int .i64 3]) else .tuple #[.int .i64 0, .int .i64 1])
set_option maxRecDepth 100000 in
theorem Gap_any (B g : Nat) (A : Option Addr) (c : Nat) (rs : List Raw) (s : Int) (w : World) (h : Sp w B g A c rs) :
    Calls Try.prog 23 #[.pointer (some ⟨g, 0, none⟩), .int .i64 s] w (Gaps w rs s) := by
  have HS := Lib.hid h
  have hc : w.cell? ⟨g, 0, none⟩ = some (.slice A rs.length c) := h.box.c 0
  have HZ := Lib.hid (isSize_any s w)
  have HGA := Lib.hid (fun h2 => gap_any A rs.length c g rs s h2 w hc HS.out.bls HS.out.ord.inn (by have := ord_few HS.out.ord; omega))
  clear h
  cases hsb : sizeB s with
  | false =>
    have HW := Lib.hid (show ∀ w', Below w.heap.size w w' → Gaps w rs s (.returned (.tuple #[.int .i64 0, .int .i64 1])) w' from fun w' hb => ⟨hb, by rw [hsb]; rfl⟩)
    rw [hsb] at HZ
    generalize Gaps w rs s = L at *
    go_enter Try.func23, Try.ntmps23
    go_wp2_with fail
    refine HZ.out.mono ?_
    rintro e w1 ⟨rfl, rfl⟩
    clear HZ
    go_wp2_with fail
    exact HW.out _ (Below.refl _ _)
  | true =>
    have h2 : 1 ≤ s ∧ s ≤ 1048576 := by unfold sizeB at hsb; simp at hsb; exact hsb
    have HG := Lib.hid (HGA.out h2)
    rw [hsb] at HZ
    cases hgp : gapB rs s with
    | none =>
      have HW := Lib.hid (show ∀ w', Below w.heap.size w w' → Gaps w rs s (.returned (.tuple #[.int .i64 0, .int .i64 3])) w' from fun w' hb => ⟨hb, by rw [hsb, hgp]; rfl⟩)
      have hg2 : gapFrom s 4096 rs = none := hgp
      rw [hg2] at HG
      generalize Gaps w rs s = L at *
      clear HGA hgp hg2
      go_enter Try.func23, Try.ntmps23
      go_wp2_with fail
      refine HZ.out.mono ?_
      rintro e w1 ⟨rfl, rfl⟩
      clear HZ
      go_wp2_with fail
      refine HG.out.mono ?_
      rintro e w1 ⟨hb, rfl⟩
      have HB := Lib.hid hb
      clear HG hb
      go_wp2_with fail
      first | go_ret2 | skip
      exact HW.out _ HB.out
    | some a =>
      have HW := Lib.hid (show ∀ w', Below w.heap.size w w' → Gaps w rs s (.returned (.tuple #[.int .i64 a, .int .i64 0])) w' from fun w' hb => ⟨hb, by rw [hsb, hgp]; rfl⟩)
      have hg2 : gapFrom s 4096 rs = some a := hgp
      rw [hg2] at HG
      generalize Gaps w rs s = L at *
      clear HGA hgp hg2
      go_enter Try.func23, Try.ntmps23
      go_wp2_with fail
      refine HZ.out.mono ?_
      rintro e w1 ⟨rfl, rfl⟩
      clear HZ
      go_wp2_with fail
      refine HG.out.mono ?_
      rintro e w1 ⟨hb, rfl⟩
      have HB := Lib.hid hb
      clear HG hb
      go_wp2_with fail
      first | go_ret2 | skip
      exact HW.out _ HB.out
end Go.Proofs.Ythbdncojekpanaa
