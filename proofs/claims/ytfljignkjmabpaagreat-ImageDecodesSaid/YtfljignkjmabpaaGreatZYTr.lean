/- A part of the proof. -/
import Derived.Test.YtfljignkjmabpaaGreatZYF
set_option linter.unusedSimpArgs false
set_option linter.unusedVariables false
namespace Go.Proofs.YtfljignkjmabpaaGreat
set_option maxRecDepth 100000
open Go.RowKit
set_option maxHeartbeats 16000000 in
theorem rright_any (s : Sym) (w : World) (hn : s.name.length ≤ 9223372036854775807) (hv : s.ver.length ≤ 9223372036854775807) : Calls Tryz.prog 144 #[symV s] w fun e w' => e = .returned (.bool (rightB s)) ∧ Below w.heap.size w w' := by
 have HB := hD (box_below w s)
 have HX := hD (Sx.new w s)
 obtain ⟨c0, c1, c2, c3, c4, c5, c6, c7, c8⟩ := (Sx.new w s).cells
 generalize hw1 : w.alloc (.cells (symA s) 105) = w1 at *
 have HN := hD (rname_any s.name w1 hn)
 have HV := hD (rname_any s.ver w1 hv)
 go_enter Tryz.func144, Tryz.ntmps144
 go_wp2_with fail
 refine HN.out.mono ?_
 rintro e w2 ⟨rfl, h⟩
 rw [← h]
 clear h HN w2
 cases hnb : nameB s.name
 ·
  go_wp2_with fail
  go_ret
  refine ⟨ret_bool ?_, HB.out⟩
  cases hve : s.ver.isEmpty <;> simp [rightB, textB, hnb, hve]
 cases hve : s.ver.isEmpty
 ·
  go_wp2_with fail
  refine HV.out.mono ?_
  rintro e w2 ⟨rfl, h⟩
  rw [← h]
  clear h HV w2
  cases hvb : nameB s.ver
  ·
   go_wp2_with fail
   go_ret
   refine ⟨ret_bool ?_, HB.out⟩
   simp [rightB, textB, hnb, hve, hvb]
  have HR := hD (show rightB s = (fieldsB s && (s.dfd || !defB s)) by simp [rightB, textB, hnb, hve, hvb])
  clear hvb hnb
  go_wp2_with fail
  all_goals
   go_ret
   refine ⟨ret_bool ?_, HB.out⟩
   rw [HR.out]
   clear HR HB HX c0 c1 c2 c3 c4 c5 c6 c7 c8
   simp only [fieldsB, defB]
   cases ho : s.old <;> cases hd : s.dfd <;> simp_all <;> omega
 ·
  have HR := hD (show rightB s = (!s.old && fieldsB s && (s.dfd || !defB s)) by simp [rightB, textB, hnb, hve])
  clear hnb
  go_wp2_with fail
  all_goals
   go_ret
   refine ⟨ret_bool ?_, HB.out⟩
   rw [HR.out]
   clear HR HB HX c0 c1 c2 c3 c4 c5 c6 c7 c8
   simp only [fieldsB, defB]
   cases ho : s.old <;> cases hd : s.dfd <;> simp_all <;> omega
end Go.Proofs.YtfljignkjmabpaaGreat
