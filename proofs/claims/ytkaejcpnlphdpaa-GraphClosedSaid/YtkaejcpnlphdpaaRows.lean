/-
  No cell of these rows narrows 'for every input' (looked for: loops, veiled, ifaces, maps, wideKeys, modest, calm, conditions, laid).
  DERIVED. THE GIVEN ROWS OF THIS SEAT. 6 by the template 'for every input the law returns true; each argument reads behind the call as it read before'; 0 by the template 'total and deterministic' (their statements: YtkaejcpnlphdpaaTotals.lean).
  GIVEN WITH THE SEED: the statements are not yours to turn. If you find one false, say at which input.
  Laid BY PROGRAM, IN A SANDBOX (cutbox-rows.mjs): the forced cells as the released guide's own fill.sh prints them over the translation 3fd79b7f35a42b10… (all of the seat's roots in one cut). By AI agents, Wed Nov 11 2026. No macro, syntax, notation, axiom, sorry.
-/
import Derived.Test.YtkaejcpnlphdpaaChecked
import GoSem.Claim
import GoSem.ClaimJoined
import GoSem.ClaimMapViews
import Derived.JoinedTies
import Derived.KernelRfl
namespace Go.Proofs.Ytkaejcpnlphdpaa
/- THE CELL 'sum', in the pinned program and in every row, IS THE sha256 OF THE DUMP (.gsa) THAT YtkaejcpnlphdpaaProg.lean LOADS. Nothing in Lean hashes anything: it is a label: what it is worth is what the hold of that sum in a sandbox is worth. -/
noncomputable def Try.pinned : Pinned := { name := "ytkaejcpnlphdpaa", sum := "3fd79b7f35a42b10ee803a6924fa8a0a99b96bc1cc9e79583b5243fe023bbccd", checked := Try.checked }
namespace Rows
def none {H : Type} : Left H := { results := [], args := [] }

/-- 'clevislaw13.GraphGoes': WHATEVER THE INPUT: true; the input reads as it did. -/
def graphGoesSpec : ChangeSpec := { name := "graphGoes", fn := fun _ => fun
  | [d1, d2] => { results := [.lit (.bool true)], args := [d1, d2] }
  | _ => none }
def graphGoesRow : OpenClaim := { program := "ytkaejcpnlphdpaa", sum := "3fd79b7f35a42b10ee803a6924fa8a0a99b96bc1cc9e79583b5243fe023bbccd", func := "clevis/clevislaw13.GraphGoes", spec := "graphGoes", recurses := true, apart := false }
def GraphGoesSaid : Prop := graphGoesRow.holds Try.pinned (OpenSpec.ofChange graphGoesSpec)

/-- ITS FALSE NEIGHBOUR: 'it returns false'. Refute it at one input. -/
def graphGoesWrong : ChangeSpec := { name := "graphGoes", fn := fun _ => fun
  | [d1, d2] => { results := [.lit (.bool false)], args := [d1, d2] }
  | _ => none }
def GraphGoesWrongFalsely : Prop := graphGoesRow.holds Try.pinned (OpenSpec.ofChange graphGoesWrong)

/-- 'clevislaw13.GraphLeaves': WHATEVER THE INPUT: true; the input reads as it did. -/
def graphLeavesSpec : ChangeSpec := { name := "graphLeaves", fn := fun _ => fun
  | [d1, d2, d3] => { results := [.lit (.bool true)], args := [d1, d2, d3] }
  | _ => none }
def graphLeavesRow : OpenClaim := { program := "ytkaejcpnlphdpaa", sum := "3fd79b7f35a42b10ee803a6924fa8a0a99b96bc1cc9e79583b5243fe023bbccd", func := "clevis/clevislaw13.GraphLeaves", spec := "graphLeaves", recurses := true, apart := false }
def GraphLeavesSaid : Prop := graphLeavesRow.holds Try.pinned (OpenSpec.ofChange graphLeavesSpec)

/-- ITS FALSE NEIGHBOUR: 'it returns false'. Refute it at one input. -/
def graphLeavesWrong : ChangeSpec := { name := "graphLeaves", fn := fun _ => fun
  | [d1, d2, d3] => { results := [.lit (.bool false)], args := [d1, d2, d3] }
  | _ => none }
def GraphLeavesWrongFalsely : Prop := graphLeavesRow.holds Try.pinned (OpenSpec.ofChange graphLeavesWrong)

/-- 'clevislaw13.GraphOnce': WHATEVER THE INPUT: true; the input reads as it did. -/
def graphOnceSpec : ChangeSpec := { name := "graphOnce", fn := fun _ => fun
  | [d1, d2] => { results := [.lit (.bool true)], args := [d1, d2] }
  | _ => none }
def graphOnceRow : OpenClaim := { program := "ytkaejcpnlphdpaa", sum := "3fd79b7f35a42b10ee803a6924fa8a0a99b96bc1cc9e79583b5243fe023bbccd", func := "clevis/clevislaw13.GraphOnce", spec := "graphOnce", recurses := true, apart := false }
def GraphOnceSaid : Prop := graphOnceRow.holds Try.pinned (OpenSpec.ofChange graphOnceSpec)

/-- ITS FALSE NEIGHBOUR: 'it returns false'. Refute it at one input. -/
def graphOnceWrong : ChangeSpec := { name := "graphOnce", fn := fun _ => fun
  | [d1, d2] => { results := [.lit (.bool false)], args := [d1, d2] }
  | _ => none }
def GraphOnceWrongFalsely : Prop := graphOnceRow.holds Try.pinned (OpenSpec.ofChange graphOnceWrong)

/-- 'clevislaw13.GraphClosed': WHATEVER THE INPUT: true; the input reads as it did. -/
def graphClosedSpec : ChangeSpec := { name := "graphClosed", fn := fun _ => fun
  | [d1, d2, d3] => { results := [.lit (.bool true)], args := [d1, d2, d3] }
  | _ => none }
def graphClosedRow : OpenClaim := { program := "ytkaejcpnlphdpaa", sum := "3fd79b7f35a42b10ee803a6924fa8a0a99b96bc1cc9e79583b5243fe023bbccd", func := "clevis/clevislaw13.GraphClosed", spec := "graphClosed", recurses := true, apart := false }
def GraphClosedSaid : Prop := graphClosedRow.holds Try.pinned (OpenSpec.ofChange graphClosedSpec)

/-- ITS FALSE NEIGHBOUR: 'it returns false'. Refute it at one input. -/
def graphClosedWrong : ChangeSpec := { name := "graphClosed", fn := fun _ => fun
  | [d1, d2, d3] => { results := [.lit (.bool false)], args := [d1, d2, d3] }
  | _ => none }
def GraphClosedWrongFalsely : Prop := graphClosedRow.holds Try.pinned (OpenSpec.ofChange graphClosedWrong)

/-- 'clevislaw13.GraphBehind': WHATEVER THE INPUT: true; the input reads as it did. -/
def graphBehindSpec : ChangeSpec := { name := "graphBehind", fn := fun _ => fun
  | [d1, d2, d3] => { results := [.lit (.bool true)], args := [d1, d2, d3] }
  | _ => none }
def graphBehindRow : OpenClaim := { program := "ytkaejcpnlphdpaa", sum := "3fd79b7f35a42b10ee803a6924fa8a0a99b96bc1cc9e79583b5243fe023bbccd", func := "clevis/clevislaw13.GraphBehind", spec := "graphBehind", recurses := true, apart := false }
def GraphBehindSaid : Prop := graphBehindRow.holds Try.pinned (OpenSpec.ofChange graphBehindSpec)

/-- ITS FALSE NEIGHBOUR: 'it returns false'. Refute it at one input. -/
def graphBehindWrong : ChangeSpec := { name := "graphBehind", fn := fun _ => fun
  | [d1, d2, d3] => { results := [.lit (.bool false)], args := [d1, d2, d3] }
  | _ => none }
def GraphBehindWrongFalsely : Prop := graphBehindRow.holds Try.pinned (OpenSpec.ofChange graphBehindWrong)

/-- 'clevislaw13.GraphTwice': WHATEVER THE INPUT: true; the input reads as it did. -/
def graphTwiceSpec : ChangeSpec := { name := "graphTwice", fn := fun _ => fun
  | [d1, d2, d3] => { results := [.lit (.bool true)], args := [d1, d2, d3] }
  | _ => none }
def graphTwiceRow : OpenClaim := { program := "ytkaejcpnlphdpaa", sum := "3fd79b7f35a42b10ee803a6924fa8a0a99b96bc1cc9e79583b5243fe023bbccd", func := "clevis/clevislaw13.GraphTwice", spec := "graphTwice", recurses := true, apart := false }
def GraphTwiceSaid : Prop := graphTwiceRow.holds Try.pinned (OpenSpec.ofChange graphTwiceSpec)

/-- ITS FALSE NEIGHBOUR: 'it returns false'. Refute it at one input. -/
def graphTwiceWrong : ChangeSpec := { name := "graphTwice", fn := fun _ => fun
  | [d1, d2, d3] => { results := [.lit (.bool false)], args := [d1, d2, d3] }
  | _ => none }
def GraphTwiceWrongFalsely : Prop := graphTwiceRow.holds Try.pinned (OpenSpec.ofChange graphTwiceWrong)

/- THE SECOND FORM. 'bulk': how many values and letters a reading holds, each counted each time it is reached (what is shared counts as often as it is met; a slice's spare places count too). A statement '..UptoSaid' is the law's where the arguments, and the package variables that the reading takes, are together of bulk at most 1048576: NARROWER than '..Said'. Prove '..Said' where nothing that the law and all that it calls make is longer than what came in: it says more and counts as full. Else prove '..UptoSaid'. A law counts once. -/
mutual
def uptoBulk {H : Type} : DataW H → Nat
  | .lit (.string bytes) => bytes.length + 1
  | .lit _ => 1
  | .nil => 1
  | .ptr d => uptoBulk d + 1
  | .slice elems spare => uptoBulkAll elems + uptoBulkAll spare + 1
  | .agg parts => uptoBulkAll parts + 1
  | .iface _ d => uptoBulk d + 1
  | .map entries => uptoBulkEntries entries + 1
  | .held _ => 1
def uptoBulkAll {H : Type} : List (DataW H) → Nat
  | [] => 0
  | d :: r => uptoBulk d + uptoBulkAll r
def uptoBulkEntries {H : Type} : List (Lit × DataW H) → Nat
  | [] => 0
  | x :: r => uptoBulkEntry x + uptoBulkEntries r
def uptoBulkEntry {H : Type} : Lit × DataW H → Nat
  | (.string bytes, d) => bytes.length + uptoBulk d + 1
  | (_, d) => uptoBulk d + 1
 end
def uptoSmall : (H : Type) → List (DataW H) → Bool := fun _ ds => decide (uptoBulkAll ds ≤ 1048576)
def OpenSpec.upto (s : _root_.Go.ChangeSpec) : _root_.Go.OpenSpec := { _root_.Go.OpenSpec.ofChange s with cond := some uptoSmall }

/-- 'clevislaw13.GraphGoes', WHERE WHAT IT READS IS OF BULK AT MOST 1048576: true; the input reads as it did. -/
def graphGoesUptoRow : OpenClaim := { program := "ytkaejcpnlphdpaa", sum := "3fd79b7f35a42b10ee803a6924fa8a0a99b96bc1cc9e79583b5243fe023bbccd", func := "clevis/clevislaw13.GraphGoes", spec := "graphGoes", recurses := true, apart := false, narrowed := true }
def GraphGoesUptoSaid : Prop := graphGoesUptoRow.holds Try.pinned (OpenSpec.upto graphGoesSpec)

/-- 'clevislaw13.GraphLeaves', WHERE WHAT IT READS IS OF BULK AT MOST 1048576: true; the input reads as it did. -/
def graphLeavesUptoRow : OpenClaim := { program := "ytkaejcpnlphdpaa", sum := "3fd79b7f35a42b10ee803a6924fa8a0a99b96bc1cc9e79583b5243fe023bbccd", func := "clevis/clevislaw13.GraphLeaves", spec := "graphLeaves", recurses := true, apart := false, narrowed := true }
def GraphLeavesUptoSaid : Prop := graphLeavesUptoRow.holds Try.pinned (OpenSpec.upto graphLeavesSpec)

/-- 'clevislaw13.GraphOnce', WHERE WHAT IT READS IS OF BULK AT MOST 1048576: true; the input reads as it did. -/
def graphOnceUptoRow : OpenClaim := { program := "ytkaejcpnlphdpaa", sum := "3fd79b7f35a42b10ee803a6924fa8a0a99b96bc1cc9e79583b5243fe023bbccd", func := "clevis/clevislaw13.GraphOnce", spec := "graphOnce", recurses := true, apart := false, narrowed := true }
def GraphOnceUptoSaid : Prop := graphOnceUptoRow.holds Try.pinned (OpenSpec.upto graphOnceSpec)

/-- 'clevislaw13.GraphClosed', WHERE WHAT IT READS IS OF BULK AT MOST 1048576: true; the input reads as it did. -/
def graphClosedUptoRow : OpenClaim := { program := "ytkaejcpnlphdpaa", sum := "3fd79b7f35a42b10ee803a6924fa8a0a99b96bc1cc9e79583b5243fe023bbccd", func := "clevis/clevislaw13.GraphClosed", spec := "graphClosed", recurses := true, apart := false, narrowed := true }
def GraphClosedUptoSaid : Prop := graphClosedUptoRow.holds Try.pinned (OpenSpec.upto graphClosedSpec)

/-- 'clevislaw13.GraphBehind', WHERE WHAT IT READS IS OF BULK AT MOST 1048576: true; the input reads as it did. -/
def graphBehindUptoRow : OpenClaim := { program := "ytkaejcpnlphdpaa", sum := "3fd79b7f35a42b10ee803a6924fa8a0a99b96bc1cc9e79583b5243fe023bbccd", func := "clevis/clevislaw13.GraphBehind", spec := "graphBehind", recurses := true, apart := false, narrowed := true }
def GraphBehindUptoSaid : Prop := graphBehindUptoRow.holds Try.pinned (OpenSpec.upto graphBehindSpec)

/-- 'clevislaw13.GraphTwice', WHERE WHAT IT READS IS OF BULK AT MOST 1048576: true; the input reads as it did. -/
def graphTwiceUptoRow : OpenClaim := { program := "ytkaejcpnlphdpaa", sum := "3fd79b7f35a42b10ee803a6924fa8a0a99b96bc1cc9e79583b5243fe023bbccd", func := "clevis/clevislaw13.GraphTwice", spec := "graphTwice", recurses := true, apart := false, narrowed := true }
def GraphTwiceUptoSaid : Prop := graphTwiceUptoRow.holds Try.pinned (OpenSpec.upto graphTwiceSpec)

end Rows
end Go.Proofs.Ytkaejcpnlphdpaa
