/-
  Proved: the law CursorNumbers returns true for every number and every size, and its input reads as it did. Conditions: none besides the row's own.
-/
import Derived.Test.YtkgkgagnpmhoiaaE
import Derived.ProofKit
import Derived.OpenShut
namespace Go.Proofs.Ytkgkgagnpmhoiaa.cursorNumbers
open Go.ChangeShapes Go.WideShapes Go.ChangeAt Go.RowKit

theorem own : ownKnob Try.prog.godebug = none := by kernel_rfl

theorem i64_of_wf {n : Int} (h : (Lit.int .i64 n).wf = true) : I64 n := by
  unfold I64
  simp [Lit.wf, IntKind.min, IntKind.max, IntKind.signed, IntKind.bits] at h
  omega

theorem walk (n size : Int) (hn : I64 n) (w : World) :
    Calls Try.prog 7 #[.int .i64 n, .int .i64 size] w fun e w' => e = .returned (.bool true) ∧ Below w.heap.size w w' := by
  by_cases h1 : size = 1
  · subst h1
    by_cases hf : 0 ≤ n ∧ n < 256
    · exact numbers_fit1 n w hn hf.1 hf.2
    · exact numbers_nofit1 n w hn (by omega)
  by_cases h2 : size = 2
  · subst h2
    by_cases hf : 0 ≤ n ∧ n < 65536
    · exact numbers_fit2 n w hn hf.1 hf.2
    · exact numbers_nofit2 n w hn (by omega)
  by_cases h4 : size = 4
  · subst h4
    by_cases hf : 0 ≤ n ∧ n < 4294967296
    · exact numbers_fit4 n w hn hf.1 hf.2
    · exact numbers_nofit4 n w hn (by omega)
  by_cases h8 : size = 8
  · subst h8
    exact numbers_fit8 n w hn
  exact numbers_bad n size w hn (by simp [sized, h1, h2, h4, h8])

set_option maxRecDepth 100000 in
theorem lifted (os : Os) (started : os.Started) (H : Type) (enc : TypeId × Value → H) :
    ReturnsInHanded {} Try.checked os 7 .any (Rows.cursorNumbersSpec.pre6 enc Try.prog Try.f7 Rows.cursorNumbersRow.domain false) (Rows.cursorNumbersSpec.post enc Try.prog Try.f7 false true false false) := by
  refine returnsInHanded_of_change (C := Try.checked) own started (by kernel_rfl) Try.func7
    (ChangeSpec.witness6 (enc := enc) (C := Try.checked) false ⟨#[], #[.int .i64 0, .int .i64 0], []⟩ 8 (by kernel_rfl) (by kernel_rfl) (by kernel_rfl) (by kernel_rfl)) ?_
  intro W base args ds gs before hval0 hW hcnd _
  have hval : ∀ (j : Nat) t v, Try.f7.params[j]? = some t → args[j]? = some v → Value.okWide Try.prog W .any base t v := hval0
  have hW' := hW
  obtain ⟨p, q, hA0, hV, rfl, hfz, hnd⟩ := hW
  have hA : DataW.TrodAll enc Try.prog W 0 (fun _ => true) true Try.f7.params.toList args.toList ds p := hA0
  rw [Try.params7] at hA hval
  obtain ⟨v0, v1, d0, d1, p0, p1, rfl, rfl, rfl, h0, h1⟩ := trodAll_two hA
  obtain ⟨rfl, rfl⟩ := trodVars_none hV
  obtain ⟨a0, rfl, rfl, rfl, w0⟩ := open_int Try.underlying3 (hval 0 3 v0 rfl rfl) h0
  obtain ⟨a1, rfl, rfl, rfl, w1⟩ := open_int Try.underlying3 (hval 1 3 v1 rfl rfl) h1
  clear hA0 hval0
  simp only [List.append_nil] at hW'
  refine (walk a0 a1 (i64_of_wf w0) W).mono fun e W' ⟨he, hg⟩ => ?_
  subst he
  exact ⟨_, rfl, ⟨_, _, _, [], _, [], hW', trodAll_mk1 (shut_bool Try.underlying4 _), trodAll_mk2 (shut_int Try.underlying3 w0) (shut_int Try.underlying3 w1), rfl, hg.frame _, fun h => by cases h⟩⟩

theorem over : Rows.cursorNumbersRow.holds Try.pinned (OpenSpec.ofChange Rows.cursorNumbersSpec) :=
  OpenClaim.holds_of_wide 7 Try.f7 rfl rfl rfl rfl rfl rfl rfl ⟨rfl, rfl, rfl, rfl, rfl⟩ rfl rfl rfl rfl rfl (by kernel_rfl) Try.func7 (by kernel_rfl)
    (of_decide_eq_true (by kernel_rfl)) (by unfold Func.isWrapper; first | (rw [if_pos (by decide +kernel)]; kernel_rfl) | (rw [if_neg (by decide +kernel)]; exact ⟨rfl, rfl⟩))
    (fun os started H enc _ => lifted os started H enc)

/-- The statement. -/
theorem proved : Rows.CursorNumbersSaid :=
  over
end Go.Proofs.Ytkgkgagnpmhoiaa.cursorNumbers
