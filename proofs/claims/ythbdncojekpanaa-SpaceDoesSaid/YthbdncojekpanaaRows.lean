/-
  No cell of these rows narrows 'for every input' (looked for: loops, veiled, ifaces, maps, wideKeys, modest, calm, conditions, laid).
  DERIVED. THE GIVEN ROWS OF THIS SEAT. 7 by the template 'for every input the law returns true; each argument reads behind the call as it read before'; 0 by the template 'total and deterministic' (their statements: YthbdncojekpanaaTotals.lean).
  GIVEN WITH THE SEED: the statements are not yours to turn. If you find one false, say at which input.
  Laid BY PROGRAM, IN A SANDBOX (cutbox-rows.mjs): the forced cells as the released guide's own fill.sh prints them over the translation 1f4888597974cbd1… (all of the seat's roots in one cut). By AI agents, Wed Nov 11 2026. No macro, syntax, notation, axiom, sorry.
-/
import Derived.Test.YthbdncojekpanaaChecked
import GoSem.Claim
import GoSem.ClaimJoined
import GoSem.ClaimMapViews
import Derived.JoinedTies
import Derived.KernelRfl
namespace Go.Proofs.Ythbdncojekpanaa
/- THE CELL 'sum', in the pinned program and in every row, IS THE sha256 OF THE DUMP (.gsa) THAT YthbdncojekpanaaProg.lean LOADS. Nothing in Lean hashes anything: it is a label: what it is worth is what the hold of that sum in a sandbox is worth. -/
noncomputable def Try.pinned : Pinned := { name := "ythbdncojekpanaa", sum := "1f4888597974cbd16d746b28d92e8c24abd779f92b299498c18532a8c89091eb", checked := Try.checked }
namespace Rows
def none {H : Type} : Left H := { results := [], args := [] }

/-- 'clevislaw05.SpaceDoes': WHATEVER THE INPUT: true; the input reads as it did. -/
def spaceDoesSpec : ChangeSpec := { name := "spaceDoes", fn := fun _ => fun
  | [d] => { results := [.lit (.bool true)], args := [d] }
  | _ => none }
def spaceDoesRow : OpenClaim := { program := "ythbdncojekpanaa", sum := "1f4888597974cbd16d746b28d92e8c24abd779f92b299498c18532a8c89091eb", func := "clevis/clevislaw05.SpaceDoes", spec := "spaceDoes", inPlace := ["slices.overlaps[clevis/space.block]"], unfollowed := true, recurses := true, apart := false }
def SpaceDoesSaid : Prop := spaceDoesRow.holds Try.pinned (OpenSpec.ofChange spaceDoesSpec)

/-- ITS FALSE NEIGHBOUR: 'it returns false'. Refute it at one input. -/
def spaceDoesWrong : ChangeSpec := { name := "spaceDoes", fn := fun _ => fun
  | [d] => { results := [.lit (.bool false)], args := [d] }
  | _ => none }
def SpaceDoesWrongFalsely : Prop := spaceDoesRow.holds Try.pinned (OpenSpec.ofChange spaceDoesWrong)

/-- 'clevislaw05.SpaceApart': WHATEVER THE INPUT: true; the input reads as it did. -/
def spaceApartSpec : ChangeSpec := { name := "spaceApart", fn := fun _ => fun
  | [d] => { results := [.lit (.bool true)], args := [d] }
  | _ => none }
def spaceApartRow : OpenClaim := { program := "ythbdncojekpanaa", sum := "1f4888597974cbd16d746b28d92e8c24abd779f92b299498c18532a8c89091eb", func := "clevis/clevislaw05.SpaceApart", spec := "spaceApart", inPlace := ["slices.overlaps[clevis/space.block]"], unfollowed := true, recurses := true, apart := false }
def SpaceApartSaid : Prop := spaceApartRow.holds Try.pinned (OpenSpec.ofChange spaceApartSpec)

/-- ITS FALSE NEIGHBOUR: 'it returns false'. Refute it at one input. -/
def spaceApartWrong : ChangeSpec := { name := "spaceApart", fn := fun _ => fun
  | [d] => { results := [.lit (.bool false)], args := [d] }
  | _ => none }
def SpaceApartWrongFalsely : Prop := spaceApartRow.holds Try.pinned (OpenSpec.ofChange spaceApartWrong)

/-- 'clevislaw05.SpaceGaps': WHATEVER THE INPUT: true; the input reads as it did. -/
def spaceGapsSpec : ChangeSpec := { name := "spaceGaps", fn := fun _ => fun
  | [d1, d2, d3] => { results := [.lit (.bool true)], args := [d1, d2, d3] }
  | _ => none }
def spaceGapsRow : OpenClaim := { program := "ythbdncojekpanaa", sum := "1f4888597974cbd16d746b28d92e8c24abd779f92b299498c18532a8c89091eb", func := "clevis/clevislaw05.SpaceGaps", spec := "spaceGaps", inPlace := ["slices.overlaps[clevis/space.block]"], unfollowed := true, recurses := true, apart := false }
def SpaceGapsSaid : Prop := spaceGapsRow.holds Try.pinned (OpenSpec.ofChange spaceGapsSpec)

/-- ITS FALSE NEIGHBOUR: 'it returns false'. Refute it at one input. -/
def spaceGapsWrong : ChangeSpec := { name := "spaceGaps", fn := fun _ => fun
  | [d1, d2, d3] => { results := [.lit (.bool false)], args := [d1, d2, d3] }
  | _ => none }
def SpaceGapsWrongFalsely : Prop := spaceGapsRow.holds Try.pinned (OpenSpec.ofChange spaceGapsWrong)

/-- 'clevislaw05.SpaceKeeps': WHATEVER THE INPUT: true; the input reads as it did. -/
def spaceKeepsSpec : ChangeSpec := { name := "spaceKeeps", fn := fun _ => fun
  | [d1, d2, d3, d4] => { results := [.lit (.bool true)], args := [d1, d2, d3, d4] }
  | _ => none }
def spaceKeepsRow : OpenClaim := { program := "ythbdncojekpanaa", sum := "1f4888597974cbd16d746b28d92e8c24abd779f92b299498c18532a8c89091eb", func := "clevis/clevislaw05.SpaceKeeps", spec := "spaceKeeps", inPlace := ["slices.overlaps[clevis/space.block]"], unfollowed := true, recurses := true, apart := false }
def SpaceKeepsSaid : Prop := spaceKeepsRow.holds Try.pinned (OpenSpec.ofChange spaceKeepsSpec)

/-- ITS FALSE NEIGHBOUR: 'it returns false'. Refute it at one input. -/
def spaceKeepsWrong : ChangeSpec := { name := "spaceKeeps", fn := fun _ => fun
  | [d1, d2, d3, d4] => { results := [.lit (.bool false)], args := [d1, d2, d3, d4] }
  | _ => none }
def SpaceKeepsWrongFalsely : Prop := spaceKeepsRow.holds Try.pinned (OpenSpec.ofChange spaceKeepsWrong)

/-- 'clevislaw05.SpaceRefused': WHATEVER THE INPUT: true; the input reads as it did. -/
def spaceRefusedSpec : ChangeSpec := { name := "spaceRefused", fn := fun _ => fun
  | [d1, d2, d3] => { results := [.lit (.bool true)], args := [d1, d2, d3] }
  | _ => none }
def spaceRefusedRow : OpenClaim := { program := "ythbdncojekpanaa", sum := "1f4888597974cbd16d746b28d92e8c24abd779f92b299498c18532a8c89091eb", func := "clevis/clevislaw05.SpaceRefused", spec := "spaceRefused", inPlace := ["slices.overlaps[clevis/space.block]"], unfollowed := true, recurses := true, apart := false }
def SpaceRefusedSaid : Prop := spaceRefusedRow.holds Try.pinned (OpenSpec.ofChange spaceRefusedSpec)

/-- ITS FALSE NEIGHBOUR: 'it returns false'. Refute it at one input. -/
def spaceRefusedWrong : ChangeSpec := { name := "spaceRefused", fn := fun _ => fun
  | [d1, d2, d3] => { results := [.lit (.bool false)], args := [d1, d2, d3] }
  | _ => none }
def SpaceRefusedWrongFalsely : Prop := spaceRefusedRow.holds Try.pinned (OpenSpec.ofChange spaceRefusedWrong)

/-- 'clevislaw05.SpaceWords': WHATEVER THE INPUT: true; the input reads as it did. -/
def spaceWordsSpec : ChangeSpec := { name := "spaceWords", fn := fun _ => fun
  | [d1, d2] => { results := [.lit (.bool true)], args := [d1, d2] }
  | _ => none }
def spaceWordsRow : OpenClaim := { program := "ythbdncojekpanaa", sum := "1f4888597974cbd16d746b28d92e8c24abd779f92b299498c18532a8c89091eb", func := "clevis/clevislaw05.SpaceWords", spec := "spaceWords", inPlace := ["slices.overlaps[clevis/space.block]"], unfollowed := true, recurses := true, apart := false }
def SpaceWordsSaid : Prop := spaceWordsRow.holds Try.pinned (OpenSpec.ofChange spaceWordsSpec)

/-- ITS FALSE NEIGHBOUR: 'it returns false'. Refute it at one input. -/
def spaceWordsWrong : ChangeSpec := { name := "spaceWords", fn := fun _ => fun
  | [d1, d2] => { results := [.lit (.bool false)], args := [d1, d2] }
  | _ => none }
def SpaceWordsWrongFalsely : Prop := spaceWordsRow.holds Try.pinned (OpenSpec.ofChange spaceWordsWrong)

/-- 'clevislaw05.SpaceMaps': WHATEVER THE INPUT: true; the input reads as it did. -/
def spaceMapsSpec : ChangeSpec := { name := "spaceMaps", fn := fun _ => fun
  | [d1, d2, d3] => { results := [.lit (.bool true)], args := [d1, d2, d3] }
  | _ => none }
def spaceMapsRow : OpenClaim := { program := "ythbdncojekpanaa", sum := "1f4888597974cbd16d746b28d92e8c24abd779f92b299498c18532a8c89091eb", func := "clevis/clevislaw05.SpaceMaps", spec := "spaceMaps", inPlace := ["slices.overlaps[clevis/space.block]"], unfollowed := true, recurses := true, apart := false }
def SpaceMapsSaid : Prop := spaceMapsRow.holds Try.pinned (OpenSpec.ofChange spaceMapsSpec)

/-- ITS FALSE NEIGHBOUR: 'it returns false'. Refute it at one input. -/
def spaceMapsWrong : ChangeSpec := { name := "spaceMaps", fn := fun _ => fun
  | [d1, d2, d3] => { results := [.lit (.bool false)], args := [d1, d2, d3] }
  | _ => none }
def SpaceMapsWrongFalsely : Prop := spaceMapsRow.holds Try.pinned (OpenSpec.ofChange spaceMapsWrong)

/- THE SECOND FORM. 'bulk': how many values and letters a reading holds, each counted each time it is reached (what is shared counts as often as it is met; a slice's spare places count too). A statement '..UptoSaid' is the law's where the arguments, and the package variables that the reading takes, are together of bulk at most 1048576: NARROWER than '..Said'. Prove '..Said' where nothing that the law and all that it calls make is longer than what came in: it says more and counts as full. Else prove '..UptoSaid'. A law counts once. -/
mutual
def uptoBulk {H : Type} : DataW H → Nat
  | .lit (.string bytes) => bytes.length + 1
  | .lit _ => 1
  | .nil => 1
  | .ptr d => uptoBulk d + 1
  | .slice elems spare => uptoBulkAll elems + uptoBulkAll spare + 1
  | .agg parts => uptoBulkAll parts + 1
  | .iface _ d => uptoBulk d + 1
  | .map entries => uptoBulkEntries entries + 1
  | .held _ => 1
def uptoBulkAll {H : Type} : List (DataW H) → Nat
  | [] => 0
  | d :: r => uptoBulk d + uptoBulkAll r
def uptoBulkEntries {H : Type} : List (Lit × DataW H) → Nat
  | [] => 0
  | x :: r => uptoBulkEntry x + uptoBulkEntries r
def uptoBulkEntry {H : Type} : Lit × DataW H → Nat
  | (.string bytes, d) => bytes.length + uptoBulk d + 1
  | (_, d) => uptoBulk d + 1
 end
def uptoSmall : (H : Type) → List (DataW H) → Bool := fun _ ds => decide (uptoBulkAll ds ≤ 1048576)
def OpenSpec.upto (s : _root_.Go.ChangeSpec) : _root_.Go.OpenSpec := { _root_.Go.OpenSpec.ofChange s with cond := some uptoSmall }

/-- 'clevislaw05.SpaceDoes', WHERE WHAT IT READS IS OF BULK AT MOST 1048576: true; the input reads as it did. -/
def spaceDoesUptoRow : OpenClaim := { program := "ythbdncojekpanaa", sum := "1f4888597974cbd16d746b28d92e8c24abd779f92b299498c18532a8c89091eb", func := "clevis/clevislaw05.SpaceDoes", spec := "spaceDoes", inPlace := ["slices.overlaps[clevis/space.block]"], unfollowed := true, recurses := true, apart := false, narrowed := true }
def SpaceDoesUptoSaid : Prop := spaceDoesUptoRow.holds Try.pinned (OpenSpec.upto spaceDoesSpec)

/-- 'clevislaw05.SpaceApart', WHERE WHAT IT READS IS OF BULK AT MOST 1048576: true; the input reads as it did. -/
def spaceApartUptoRow : OpenClaim := { program := "ythbdncojekpanaa", sum := "1f4888597974cbd16d746b28d92e8c24abd779f92b299498c18532a8c89091eb", func := "clevis/clevislaw05.SpaceApart", spec := "spaceApart", inPlace := ["slices.overlaps[clevis/space.block]"], unfollowed := true, recurses := true, apart := false, narrowed := true }
def SpaceApartUptoSaid : Prop := spaceApartUptoRow.holds Try.pinned (OpenSpec.upto spaceApartSpec)

/-- 'clevislaw05.SpaceGaps', WHERE WHAT IT READS IS OF BULK AT MOST 1048576: true; the input reads as it did. -/
def spaceGapsUptoRow : OpenClaim := { program := "ythbdncojekpanaa", sum := "1f4888597974cbd16d746b28d92e8c24abd779f92b299498c18532a8c89091eb", func := "clevis/clevislaw05.SpaceGaps", spec := "spaceGaps", inPlace := ["slices.overlaps[clevis/space.block]"], unfollowed := true, recurses := true, apart := false, narrowed := true }
def SpaceGapsUptoSaid : Prop := spaceGapsUptoRow.holds Try.pinned (OpenSpec.upto spaceGapsSpec)

/-- 'clevislaw05.SpaceKeeps', WHERE WHAT IT READS IS OF BULK AT MOST 1048576: true; the input reads as it did. -/
def spaceKeepsUptoRow : OpenClaim := { program := "ythbdncojekpanaa", sum := "1f4888597974cbd16d746b28d92e8c24abd779f92b299498c18532a8c89091eb", func := "clevis/clevislaw05.SpaceKeeps", spec := "spaceKeeps", inPlace := ["slices.overlaps[clevis/space.block]"], unfollowed := true, recurses := true, apart := false, narrowed := true }
def SpaceKeepsUptoSaid : Prop := spaceKeepsUptoRow.holds Try.pinned (OpenSpec.upto spaceKeepsSpec)

/-- 'clevislaw05.SpaceRefused', WHERE WHAT IT READS IS OF BULK AT MOST 1048576: true; the input reads as it did. -/
def spaceRefusedUptoRow : OpenClaim := { program := "ythbdncojekpanaa", sum := "1f4888597974cbd16d746b28d92e8c24abd779f92b299498c18532a8c89091eb", func := "clevis/clevislaw05.SpaceRefused", spec := "spaceRefused", inPlace := ["slices.overlaps[clevis/space.block]"], unfollowed := true, recurses := true, apart := false, narrowed := true }
def SpaceRefusedUptoSaid : Prop := spaceRefusedUptoRow.holds Try.pinned (OpenSpec.upto spaceRefusedSpec)

/-- 'clevislaw05.SpaceWords', WHERE WHAT IT READS IS OF BULK AT MOST 1048576: true; the input reads as it did. -/
def spaceWordsUptoRow : OpenClaim := { program := "ythbdncojekpanaa", sum := "1f4888597974cbd16d746b28d92e8c24abd779f92b299498c18532a8c89091eb", func := "clevis/clevislaw05.SpaceWords", spec := "spaceWords", inPlace := ["slices.overlaps[clevis/space.block]"], unfollowed := true, recurses := true, apart := false, narrowed := true }
def SpaceWordsUptoSaid : Prop := spaceWordsUptoRow.holds Try.pinned (OpenSpec.upto spaceWordsSpec)

/-- 'clevislaw05.SpaceMaps', WHERE WHAT IT READS IS OF BULK AT MOST 1048576: true; the input reads as it did. -/
def spaceMapsUptoRow : OpenClaim := { program := "ythbdncojekpanaa", sum := "1f4888597974cbd16d746b28d92e8c24abd779f92b299498c18532a8c89091eb", func := "clevis/clevislaw05.SpaceMaps", spec := "spaceMaps", inPlace := ["slices.overlaps[clevis/space.block]"], unfollowed := true, recurses := true, apart := false, narrowed := true }
def SpaceMapsUptoSaid : Prop := spaceMapsUptoRow.holds Try.pinned (OpenSpec.upto spaceMapsSpec)

end Rows
end Go.Proofs.Ythbdncojekpanaa
