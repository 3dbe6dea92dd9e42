/-
  Proved: the law SymverPrints returns true, and its input reads as it did: any symbol's text, and whether it is right, and seen, are what the document says. Conditions: none besides the row's own.
-/
import Derived.Test.YtfafgdbknhlbkaaTp
import Derived.Test.YtfafgdbknhlbkaaOs
namespace Go.Proofs.Ytfafgdbknhlbkaa.symverPrints
open Go.ChangeShapes Go.WideShapes Go.ChangeAt Go.RowKit

set_option maxRecDepth 100000 in
theorem lifted (os : Os) (started : os.Started) (H : Type) (enc : TypeId × Value → H) :
    ReturnsInHanded {} Try.checked os 4 .any (Rows.symverPrintsSpec.pre6 enc Try.prog Try.f4 Rows.symverPrintsRow.domain false) (Rows.symverPrintsSpec.post enc Try.prog Try.f4 false true false false) := by
  refine returnsInHanded_of_change_sized (C := Try.checked) Try.own started (by kernel_rfl) Try.func4
    (ChangeSpec.witness6 (enc := enc) (C := Try.checked) false ⟨#[], #[.agg #[.string ⟨#[]⟩, .string ⟨#[]⟩, .bool false, .int .i64 0, .bool false, .int .i64 0, .bool false, .int .i64 0, .int .i64 0]], []⟩ 8 (by kernel_rfl) (by kernel_rfl) (by kernel_rfl) (by kernel_rfl)) ?_
  intro W base args ds gs before hval0 hW hcnd hsz0 _
  have hsz : (DataW.weightsEach Try.prog (Try.f4.params.toList ++ Rows.symverPrintsSpec.plain.varTypes Try.prog) (ds ++ gs)).all (· ≤ reachBytes) = true := hsz0
  have hval : ∀ (j : Nat) t v, Try.f4.params[j]? = some t → args[j]? = some v → Value.okWide Try.prog W .any base t v := hval0
  have hW' := hW
  obtain ⟨p, q, hA0, hV, rfl, hfz, hnd⟩ := hW
  have hA : DataW.TrodAll enc Try.prog W 0 (fun _ => true) true Try.f4.params.toList args.toList ds p := hA0
  rw [Try.params4] at hA hval hsz
  obtain ⟨v0, d0, rfl, rfl, h0⟩ := trodAll_one hA
  obtain ⟨rfl, rfl⟩ := trodVars_none hV
  obtain ⟨s0, rfl, m0⟩ := open_sym (hval 0 26 v0 rfl rfl) h0 (sized_arg hsz (j := 0) rfl rfl)
  clear hA0 hval0
  have hlt : ∀ x : MemPlace, x ∈ (p : List MemPlace) → x.block < W.heap.size := fun x hx => by simpa using hW'.lt x (by simpa using hx)
  have hc : Calls Try.prog 4 #[symV s0] W fun e w' => e = .returned (.bool true) ∧ Below W.heap.size W w' := by
    exact prints_any s0 W (by have := m0.1; have := m0.2; omega)
  refine hc.mono fun e W' ⟨he, hg⟩ => ?_
  subst he
  exact ⟨_, rfl, ⟨_, _, _, [], _, [], hW', trodAll_mk1 (shut_bool Try.underlying4 _),
    trodAll_mk1 (Below.trod Try.laidOut (by kernel_rfl) (of_decide_eq_true (by kernel_rfl)) h0 hg fun x hx => hlt x (by simp [hx])),
    rfl, hg.frame _, fun h => by cases h⟩⟩

theorem over : Rows.symverPrintsRow.holds Try.pinned (OpenSpec.ofChange Rows.symverPrintsSpec) :=
  OpenClaim.holds_of_wide 4 Try.f4 rfl rfl rfl rfl rfl rfl rfl ⟨rfl, rfl, rfl, rfl, rfl⟩ rfl rfl rfl rfl rfl (by kernel_rfl) Try.func4 (by kernel_rfl)
    (of_decide_eq_true (by kernel_rfl)) (by unfold Func.isWrapper; first | (rw [if_pos (by decide +kernel)]; kernel_rfl) | (rw [if_neg (by decide +kernel)]; exact ⟨rfl, rfl⟩))
    (fun os started H enc _ => lifted os started H enc)

/-- The statement. -/
theorem proved : Rows.SymverPrintsSaid :=
  over
end Go.Proofs.Ytfafgdbknhlbkaa.symverPrints
