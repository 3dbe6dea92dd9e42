/-
  NARROWER THAN 'FOR EVERY INPUT', by the rows' own cells (each row's printed sentence says how): CpuSteps: laid · CpuRuns: laid · CpuParts: laid · CpuTraps: laid · CpuStays: laid · CpuEnds: laid · CpuReckons: laid.
  DERIVED. THE GIVEN ROWS OF THIS SEAT. 7 by the template 'for every input the law returns true; each argument reads behind the call as it read before'; 0 by the template 'total and deterministic' (their statements: YtfkhfjefddgkoaaDoorTotals.lean).
  GIVEN WITH THE SEED: the statements are not yours to turn. If you find one false, say at which input.
  Laid BY PROGRAM, IN A SANDBOX (cutbox-rows.mjs): the forced cells as the released guide's own fill.sh prints them over the translation c566fac1a7e4715a… (all of the seat's roots in one cut). By AI agents, Wed Nov 11 2026. No macro, syntax, notation, axiom, sorry.
-/
import Derived.Test.YtfkhfjefddgkoaaDoorChecked
import GoSem.Claim
import GoSem.ClaimJoined
import GoSem.ClaimMapViews
import Derived.JoinedTies
import Derived.KernelRfl
namespace Go.Proofs.YtfkhfjefddgkoaaDoor
/- THE CELL 'sum', in the pinned program and in every row, IS THE sha256 OF THE DUMP (.gsa) THAT YtfkhfjefddgkoaaDoorProg.lean LOADS. Nothing in Lean hashes anything: it is a label: what it is worth is what the hold of that sum in a sandbox is worth. -/
noncomputable def Tryd.pinned : Pinned := { name := "ytfkhfjefddgkoaadoor", sum := "c566fac1a7e4715ae32c22e9e8831a865fb9c52d90c552390a4cf6a18ea239d9", checked := Tryd.checked }
namespace Rows
def none {H : Type} : Left H := { results := [], args := [] }

/- WHAT THE LISTED PACKAGE-LEVEL VARIABLES READ AS WHEN THE CALL BEGINS. Each datum BY PROGRAM (the guide's laid-datum.mjs) off the statement by which the dump's own 'gosem.cut.vars' lays the variable. In a bare row this is a premise. The card (YtfkhfjefddgkoaaDoorCards.lean) ties it to the program's text. -/
def laid_clevis_code_shapes {H : Type} : DataW H := .agg [.agg [.lit (.string [104, 97, 108, 116]), .lit (.int .i64 0), .lit (.bool false)], .agg [.lit (.string [109, 111, 118, 105]), .lit (.int .i64 1), .lit (.bool true)], .agg [.lit (.string [109, 111, 118]), .lit (.int .i64 2), .lit (.bool false)], .agg [.lit (.string [97, 100, 100]), .lit (.int .i64 3), .lit (.bool false)], .agg [.lit (.string [115, 117, 98]), .lit (.int .i64 3), .lit (.bool false)], .agg [.lit (.string [109, 117, 108]), .lit (.int .i64 3), .lit (.bool false)], .agg [.lit (.string [100, 105, 118]), .lit (.int .i64 3), .lit (.bool false)], .agg [.lit (.string [108, 101, 115, 115]), .lit (.int .i64 3), .lit (.bool false)], .agg [.lit (.string [115, 97, 109, 101]), .lit (.int .i64 3), .lit (.bool false)], .agg [.lit (.string [108, 100]), .lit (.int .i64 2), .lit (.bool true)], .agg [.lit (.string [115, 116]), .lit (.int .i64 2), .lit (.bool true)], .agg [.lit (.string [108, 100, 112]), .lit (.int .i64 1), .lit (.bool true)], .agg [.lit (.string [108, 101, 97]), .lit (.int .i64 1), .lit (.bool true)], .agg [.lit (.string [106, 109, 112]), .lit (.int .i64 0), .lit (.bool true)], .agg [.lit (.string [106, 122]), .lit (.int .i64 1), .lit (.bool true)], .agg [.lit (.string [99, 97, 108, 108]), .lit (.int .i64 0), .lit (.bool true)], .agg [.lit (.string [99, 97, 108, 108, 114]), .lit (.int .i64 1), .lit (.bool false)], .agg [.lit (.string [106, 109, 112, 114]), .lit (.int .i64 1), .lit (.bool false)], .agg [.lit (.string [114, 101, 116]), .lit (.int .i64 0), .lit (.bool false)], .agg [.lit (.string [111, 117, 116]), .lit (.int .i64 1), .lit (.bool false)], .agg [.lit (.string [116, 112]), .lit (.int .i64 1), .lit (.bool false)], .agg [.lit (.string [116, 108, 115]), .lit (.int .i64 2), .lit (.bool false)], .agg [.lit (.string [98, 105, 110, 100]), .lit (.int .i64 0), .lit (.bool true)]]

/-- 'clevislaw06.CpuSteps': WHATEVER THE INPUT: true; the input reads as it did. -/
def cpuStepsSpec : ChangeSpec := { name := "cpuSteps", fn := fun _ => fun
  | [d1, d2] => { results := [.lit (.bool true)], args := [d1, d2] }
  | _ => none }
def cpuStepsRow : OpenClaim := { program := "ytfkhfjefddgkoaadoor", sum := "c566fac1a7e4715ae32c22e9e8831a865fb9c52d90c552390a4cf6a18ea239d9", func := "clevis/clevislaw06.CpuSteps", spec := "cpuSteps", inPlace := ["slices.overlaps[clevis/space.block]"], unfollowed := true, recurses := true, named := ["clevis/code.shapes"], apart := false, laid := [("clevis/code.shapes", laid_clevis_code_shapes)] }
def CpuStepsSaid : Prop := cpuStepsRow.holds Tryd.pinned (OpenSpec.ofChange cpuStepsSpec)

/-- ITS FALSE NEIGHBOUR: 'it returns false'. Refute it at one input. -/
def cpuStepsWrong : ChangeSpec := { name := "cpuSteps", fn := fun _ => fun
  | [d1, d2] => { results := [.lit (.bool false)], args := [d1, d2] }
  | _ => none }
def CpuStepsWrongFalsely : Prop := cpuStepsRow.holds Tryd.pinned (OpenSpec.ofChange cpuStepsWrong)

/-- 'clevislaw06.CpuRuns': WHATEVER THE INPUT: true; the input reads as it did. -/
def cpuRunsSpec : ChangeSpec := { name := "cpuRuns", fn := fun _ => fun
  | [d1, d2] => { results := [.lit (.bool true)], args := [d1, d2] }
  | _ => none }
def cpuRunsRow : OpenClaim := { program := "ytfkhfjefddgkoaadoor", sum := "c566fac1a7e4715ae32c22e9e8831a865fb9c52d90c552390a4cf6a18ea239d9", func := "clevis/clevislaw06.CpuRuns", spec := "cpuRuns", inPlace := ["slices.overlaps[clevis/space.block]"], unfollowed := true, recurses := true, named := ["clevis/code.shapes"], apart := false, laid := [("clevis/code.shapes", laid_clevis_code_shapes)] }
def CpuRunsSaid : Prop := cpuRunsRow.holds Tryd.pinned (OpenSpec.ofChange cpuRunsSpec)

/-- ITS FALSE NEIGHBOUR: 'it returns false'. Refute it at one input. -/
def cpuRunsWrong : ChangeSpec := { name := "cpuRuns", fn := fun _ => fun
  | [d1, d2] => { results := [.lit (.bool false)], args := [d1, d2] }
  | _ => none }
def CpuRunsWrongFalsely : Prop := cpuRunsRow.holds Tryd.pinned (OpenSpec.ofChange cpuRunsWrong)

/-- 'clevislaw06.CpuParts': WHATEVER THE INPUT: true; the input reads as it did. -/
def cpuPartsSpec : ChangeSpec := { name := "cpuParts", fn := fun _ => fun
  | [d1, d2, d3] => { results := [.lit (.bool true)], args := [d1, d2, d3] }
  | _ => none }
def cpuPartsRow : OpenClaim := { program := "ytfkhfjefddgkoaadoor", sum := "c566fac1a7e4715ae32c22e9e8831a865fb9c52d90c552390a4cf6a18ea239d9", func := "clevis/clevislaw06.CpuParts", spec := "cpuParts", inPlace := ["slices.overlaps[clevis/space.block]"], unfollowed := true, recurses := true, named := ["clevis/code.shapes"], apart := false, laid := [("clevis/code.shapes", laid_clevis_code_shapes)] }
def CpuPartsSaid : Prop := cpuPartsRow.holds Tryd.pinned (OpenSpec.ofChange cpuPartsSpec)

/-- ITS FALSE NEIGHBOUR: 'it returns false'. Refute it at one input. -/
def cpuPartsWrong : ChangeSpec := { name := "cpuParts", fn := fun _ => fun
  | [d1, d2, d3] => { results := [.lit (.bool false)], args := [d1, d2, d3] }
  | _ => none }
def CpuPartsWrongFalsely : Prop := cpuPartsRow.holds Tryd.pinned (OpenSpec.ofChange cpuPartsWrong)

/-- 'clevislaw06.CpuTraps': WHATEVER THE INPUT: true; the input reads as it did. -/
def cpuTrapsSpec : ChangeSpec := { name := "cpuTraps", fn := fun _ => fun
  | [d] => { results := [.lit (.bool true)], args := [d] }
  | _ => none }
def cpuTrapsRow : OpenClaim := { program := "ytfkhfjefddgkoaadoor", sum := "c566fac1a7e4715ae32c22e9e8831a865fb9c52d90c552390a4cf6a18ea239d9", func := "clevis/clevislaw06.CpuTraps", spec := "cpuTraps", inPlace := ["slices.overlaps[clevis/space.block]"], unfollowed := true, recurses := true, named := ["clevis/code.shapes"], apart := false, laid := [("clevis/code.shapes", laid_clevis_code_shapes)] }
def CpuTrapsSaid : Prop := cpuTrapsRow.holds Tryd.pinned (OpenSpec.ofChange cpuTrapsSpec)

/-- ITS FALSE NEIGHBOUR: 'it returns false'. Refute it at one input. -/
def cpuTrapsWrong : ChangeSpec := { name := "cpuTraps", fn := fun _ => fun
  | [d] => { results := [.lit (.bool false)], args := [d] }
  | _ => none }
def CpuTrapsWrongFalsely : Prop := cpuTrapsRow.holds Tryd.pinned (OpenSpec.ofChange cpuTrapsWrong)

/-- 'clevislaw06.CpuStays': WHATEVER THE INPUT: true; the input reads as it did. -/
def cpuStaysSpec : ChangeSpec := { name := "cpuStays", fn := fun _ => fun
  | [d1, d2] => { results := [.lit (.bool true)], args := [d1, d2] }
  | _ => none }
def cpuStaysRow : OpenClaim := { program := "ytfkhfjefddgkoaadoor", sum := "c566fac1a7e4715ae32c22e9e8831a865fb9c52d90c552390a4cf6a18ea239d9", func := "clevis/clevislaw06.CpuStays", spec := "cpuStays", inPlace := ["slices.overlaps[clevis/space.block]"], unfollowed := true, recurses := true, named := ["clevis/code.shapes"], apart := false, laid := [("clevis/code.shapes", laid_clevis_code_shapes)] }
def CpuStaysSaid : Prop := cpuStaysRow.holds Tryd.pinned (OpenSpec.ofChange cpuStaysSpec)

/-- ITS FALSE NEIGHBOUR: 'it returns false'. Refute it at one input. -/
def cpuStaysWrong : ChangeSpec := { name := "cpuStays", fn := fun _ => fun
  | [d1, d2] => { results := [.lit (.bool false)], args := [d1, d2] }
  | _ => none }
def CpuStaysWrongFalsely : Prop := cpuStaysRow.holds Tryd.pinned (OpenSpec.ofChange cpuStaysWrong)

/-- 'clevislaw06.CpuEnds': WHATEVER THE INPUT: true; the input reads as it did. -/
def cpuEndsSpec : ChangeSpec := { name := "cpuEnds", fn := fun _ => fun
  | [d1, d2] => { results := [.lit (.bool true)], args := [d1, d2] }
  | _ => none }
def cpuEndsRow : OpenClaim := { program := "ytfkhfjefddgkoaadoor", sum := "c566fac1a7e4715ae32c22e9e8831a865fb9c52d90c552390a4cf6a18ea239d9", func := "clevis/clevislaw06.CpuEnds", spec := "cpuEnds", inPlace := ["slices.overlaps[clevis/space.block]"], unfollowed := true, recurses := true, named := ["clevis/code.shapes"], apart := false, laid := [("clevis/code.shapes", laid_clevis_code_shapes)] }
def CpuEndsSaid : Prop := cpuEndsRow.holds Tryd.pinned (OpenSpec.ofChange cpuEndsSpec)

/-- ITS FALSE NEIGHBOUR: 'it returns false'. Refute it at one input. -/
def cpuEndsWrong : ChangeSpec := { name := "cpuEnds", fn := fun _ => fun
  | [d1, d2] => { results := [.lit (.bool false)], args := [d1, d2] }
  | _ => none }
def CpuEndsWrongFalsely : Prop := cpuEndsRow.holds Tryd.pinned (OpenSpec.ofChange cpuEndsWrong)

/-- 'clevislaw06.CpuReckons': WHATEVER THE INPUT: true; the input reads as it did. -/
def cpuReckonsSpec : ChangeSpec := { name := "cpuReckons", fn := fun _ => fun
  | [d1, d2] => { results := [.lit (.bool true)], args := [d1, d2] }
  | _ => none }
def cpuReckonsRow : OpenClaim := { program := "ytfkhfjefddgkoaadoor", sum := "c566fac1a7e4715ae32c22e9e8831a865fb9c52d90c552390a4cf6a18ea239d9", func := "clevis/clevislaw06.CpuReckons", spec := "cpuReckons", inPlace := ["slices.overlaps[clevis/space.block]"], unfollowed := true, recurses := true, named := ["clevis/code.shapes"], apart := false, laid := [("clevis/code.shapes", laid_clevis_code_shapes)] }
def CpuReckonsSaid : Prop := cpuReckonsRow.holds Tryd.pinned (OpenSpec.ofChange cpuReckonsSpec)

/-- ITS FALSE NEIGHBOUR: 'it returns false'. Refute it at one input. -/
def cpuReckonsWrong : ChangeSpec := { name := "cpuReckons", fn := fun _ => fun
  | [d1, d2] => { results := [.lit (.bool false)], args := [d1, d2] }
  | _ => none }
def CpuReckonsWrongFalsely : Prop := cpuReckonsRow.holds Tryd.pinned (OpenSpec.ofChange cpuReckonsWrong)

/- THE SECOND FORM. 'bulk': how many values and letters a reading holds, each counted each time it is reached (what is shared counts as often as it is met; a slice's spare places count too). A statement '..UptoSaid' is the law's where the arguments, and the package variables that the reading takes, are together of bulk at most 1048576: NARROWER than '..Said'. Prove '..Said' where nothing that the law and all that it calls make is longer than what came in: it says more and counts as full. Else prove '..UptoSaid'. A law counts once. -/
mutual
def uptoBulk {H : Type} : DataW H → Nat
  | .lit (.string bytes) => bytes.length + 1
  | .lit _ => 1
  | .nil => 1
  | .ptr d => uptoBulk d + 1
  | .slice elems spare => uptoBulkAll elems + uptoBulkAll spare + 1
  | .agg parts => uptoBulkAll parts + 1
  | .iface _ d => uptoBulk d + 1
  | .map entries => uptoBulkEntries entries + 1
  | .held _ => 1
def uptoBulkAll {H : Type} : List (DataW H) → Nat
  | [] => 0
  | d :: r => uptoBulk d + uptoBulkAll r
def uptoBulkEntries {H : Type} : List (Lit × DataW H) → Nat
  | [] => 0
  | x :: r => uptoBulkEntry x + uptoBulkEntries r
def uptoBulkEntry {H : Type} : Lit × DataW H → Nat
  | (.string bytes, d) => bytes.length + uptoBulk d + 1
  | (_, d) => uptoBulk d + 1
 end
def uptoSmall : (H : Type) → List (DataW H) → Bool := fun _ ds => decide (uptoBulkAll ds ≤ 1048576)
def OpenSpec.upto (s : _root_.Go.ChangeSpec) : _root_.Go.OpenSpec := { _root_.Go.OpenSpec.ofChange s with cond := some uptoSmall }

/-- 'clevislaw06.CpuSteps', WHERE WHAT IT READS IS OF BULK AT MOST 1048576: true; the input reads as it did. -/
def cpuStepsUptoRow : OpenClaim := { program := "ytfkhfjefddgkoaadoor", sum := "c566fac1a7e4715ae32c22e9e8831a865fb9c52d90c552390a4cf6a18ea239d9", func := "clevis/clevislaw06.CpuSteps", spec := "cpuSteps", inPlace := ["slices.overlaps[clevis/space.block]"], unfollowed := true, recurses := true, named := ["clevis/code.shapes"], apart := false, laid := [("clevis/code.shapes", laid_clevis_code_shapes)], narrowed := true }
def CpuStepsUptoSaid : Prop := cpuStepsUptoRow.holds Tryd.pinned (OpenSpec.upto cpuStepsSpec)

/-- 'clevislaw06.CpuRuns', WHERE WHAT IT READS IS OF BULK AT MOST 1048576: true; the input reads as it did. -/
def cpuRunsUptoRow : OpenClaim := { program := "ytfkhfjefddgkoaadoor", sum := "c566fac1a7e4715ae32c22e9e8831a865fb9c52d90c552390a4cf6a18ea239d9", func := "clevis/clevislaw06.CpuRuns", spec := "cpuRuns", inPlace := ["slices.overlaps[clevis/space.block]"], unfollowed := true, recurses := true, named := ["clevis/code.shapes"], apart := false, laid := [("clevis/code.shapes", laid_clevis_code_shapes)], narrowed := true }
def CpuRunsUptoSaid : Prop := cpuRunsUptoRow.holds Tryd.pinned (OpenSpec.upto cpuRunsSpec)

/-- 'clevislaw06.CpuParts', WHERE WHAT IT READS IS OF BULK AT MOST 1048576: true; the input reads as it did. -/
def cpuPartsUptoRow : OpenClaim := { program := "ytfkhfjefddgkoaadoor", sum := "c566fac1a7e4715ae32c22e9e8831a865fb9c52d90c552390a4cf6a18ea239d9", func := "clevis/clevislaw06.CpuParts", spec := "cpuParts", inPlace := ["slices.overlaps[clevis/space.block]"], unfollowed := true, recurses := true, named := ["clevis/code.shapes"], apart := false, laid := [("clevis/code.shapes", laid_clevis_code_shapes)], narrowed := true }
def CpuPartsUptoSaid : Prop := cpuPartsUptoRow.holds Tryd.pinned (OpenSpec.upto cpuPartsSpec)

/-- 'clevislaw06.CpuTraps', WHERE WHAT IT READS IS OF BULK AT MOST 1048576: true; the input reads as it did. -/
def cpuTrapsUptoRow : OpenClaim := { program := "ytfkhfjefddgkoaadoor", sum := "c566fac1a7e4715ae32c22e9e8831a865fb9c52d90c552390a4cf6a18ea239d9", func := "clevis/clevislaw06.CpuTraps", spec := "cpuTraps", inPlace := ["slices.overlaps[clevis/space.block]"], unfollowed := true, recurses := true, named := ["clevis/code.shapes"], apart := false, laid := [("clevis/code.shapes", laid_clevis_code_shapes)], narrowed := true }
def CpuTrapsUptoSaid : Prop := cpuTrapsUptoRow.holds Tryd.pinned (OpenSpec.upto cpuTrapsSpec)

/-- 'clevislaw06.CpuStays', WHERE WHAT IT READS IS OF BULK AT MOST 1048576: true; the input reads as it did. -/
def cpuStaysUptoRow : OpenClaim := { program := "ytfkhfjefddgkoaadoor", sum := "c566fac1a7e4715ae32c22e9e8831a865fb9c52d90c552390a4cf6a18ea239d9", func := "clevis/clevislaw06.CpuStays", spec := "cpuStays", inPlace := ["slices.overlaps[clevis/space.block]"], unfollowed := true, recurses := true, named := ["clevis/code.shapes"], apart := false, laid := [("clevis/code.shapes", laid_clevis_code_shapes)], narrowed := true }
def CpuStaysUptoSaid : Prop := cpuStaysUptoRow.holds Tryd.pinned (OpenSpec.upto cpuStaysSpec)

/-- 'clevislaw06.CpuEnds', WHERE WHAT IT READS IS OF BULK AT MOST 1048576: true; the input reads as it did. -/
def cpuEndsUptoRow : OpenClaim := { program := "ytfkhfjefddgkoaadoor", sum := "c566fac1a7e4715ae32c22e9e8831a865fb9c52d90c552390a4cf6a18ea239d9", func := "clevis/clevislaw06.CpuEnds", spec := "cpuEnds", inPlace := ["slices.overlaps[clevis/space.block]"], unfollowed := true, recurses := true, named := ["clevis/code.shapes"], apart := false, laid := [("clevis/code.shapes", laid_clevis_code_shapes)], narrowed := true }
def CpuEndsUptoSaid : Prop := cpuEndsUptoRow.holds Tryd.pinned (OpenSpec.upto cpuEndsSpec)

/-- 'clevislaw06.CpuReckons', WHERE WHAT IT READS IS OF BULK AT MOST 1048576: true; the input reads as it did. -/
def cpuReckonsUptoRow : OpenClaim := { program := "ytfkhfjefddgkoaadoor", sum := "c566fac1a7e4715ae32c22e9e8831a865fb9c52d90c552390a4cf6a18ea239d9", func := "clevis/clevislaw06.CpuReckons", spec := "cpuReckons", inPlace := ["slices.overlaps[clevis/space.block]"], unfollowed := true, recurses := true, named := ["clevis/code.shapes"], apart := false, laid := [("clevis/code.shapes", laid_clevis_code_shapes)], narrowed := true }
def CpuReckonsUptoSaid : Prop := cpuReckonsUptoRow.holds Tryd.pinned (OpenSpec.upto cpuReckonsSpec)

end Rows
end Go.Proofs.YtfkhfjefddgkoaaDoor
