/-
  No cell of these rows narrows 'for every input' (looked for: loops, veiled, ifaces, maps, wideKeys, modest, calm, conditions, laid).
  DERIVED. THE GIVEN ROWS OF THIS SEAT. 7 by the template 'for every input the law returns true; each argument reads behind the call as it read before'; 0 by the template 'total and deterministic' (their statements: YtfafgdbknhlbkaaTotals.lean).
  GIVEN WITH THE SEED: the statements are not yours to turn. If you find one false, say at which input.
  Laid BY PROGRAM, IN A SANDBOX (cutbox-rows.mjs): the forced cells as the released guide's own fill.sh prints them over the translation 650e2939125970b6… (all of the seat's roots in one cut). By AI agents, Wed Nov 11 2026. No macro, syntax, notation, axiom, sorry.
-/
import Derived.Test.YtfafgdbknhlbkaaChecked
import GoSem.Claim
import GoSem.ClaimJoined
import GoSem.ClaimMapViews
import Derived.JoinedTies
import Derived.KernelRfl
namespace Go.Proofs.Ytfafgdbknhlbkaa
/- THE CELL 'sum', in the pinned program and in every row, IS THE sha256 OF THE DUMP (.gsa) THAT YtfafgdbknhlbkaaProg.lean LOADS. Nothing in Lean hashes anything: it is a label: what it is worth is what the hold of that sum in a sandbox is worth. -/
noncomputable def Try.pinned : Pinned := { name := "ytfafgdbknhlbkaa", sum := "650e2939125970b6dc8de0c44e01773f58d9bebd5002edb8c6efe10c6c83592c", checked := Try.checked }
namespace Rows
def none {H : Type} : Left H := { results := [], args := [] }

/-- 'clevislaw07.SymverReads': WHATEVER THE INPUT: true; the input reads as it did. -/
def symverReadsSpec : ChangeSpec := { name := "symverReads", fn := fun _ => fun
  | [d1, d2] => { results := [.lit (.bool true)], args := [d1, d2] }
  | _ => none }
def symverReadsRow : OpenClaim := { program := "ytfafgdbknhlbkaa", sum := "650e2939125970b6dc8de0c44e01773f58d9bebd5002edb8c6efe10c6c83592c", func := "clevis/clevislaw07.SymverReads", spec := "symverReads", inPlace := ["internal/bytealg.IndexByteString", "internal/bytealg.IndexString"], named := ["internal/bytealg.MaxLen"], apart := false }
def SymverReadsSaid : Prop := symverReadsRow.holds Try.pinned (OpenSpec.ofChange symverReadsSpec)

/-- ITS FALSE NEIGHBOUR: 'it returns false'. Refute it at one input. -/
def symverReadsWrong : ChangeSpec := { name := "symverReads", fn := fun _ => fun
  | [d1, d2] => { results := [.lit (.bool false)], args := [d1, d2] }
  | _ => none }
def SymverReadsWrongFalsely : Prop := symverReadsRow.holds Try.pinned (OpenSpec.ofChange symverReadsWrong)

/-- 'clevislaw07.SymverPrints': WHATEVER THE INPUT: true; the input reads as it did. -/
def symverPrintsSpec : ChangeSpec := { name := "symverPrints", fn := fun _ => fun
  | [d] => { results := [.lit (.bool true)], args := [d] }
  | _ => none }
def symverPrintsRow : OpenClaim := { program := "ytfafgdbknhlbkaa", sum := "650e2939125970b6dc8de0c44e01773f58d9bebd5002edb8c6efe10c6c83592c", func := "clevis/clevislaw07.SymverPrints", spec := "symverPrints", inPlace := ["internal/bytealg.IndexByteString", "internal/bytealg.IndexString"], named := ["internal/bytealg.MaxLen"], apart := false }
def SymverPrintsSaid : Prop := symverPrintsRow.holds Try.pinned (OpenSpec.ofChange symverPrintsSpec)

/-- ITS FALSE NEIGHBOUR: 'it returns false'. Refute it at one input. -/
def symverPrintsWrong : ChangeSpec := { name := "symverPrints", fn := fun _ => fun
  | [d] => { results := [.lit (.bool false)], args := [d] }
  | _ => none }
def SymverPrintsWrongFalsely : Prop := symverPrintsRow.holds Try.pinned (OpenSpec.ofChange symverPrintsWrong)

/-- 'clevislaw07.SymverMatches': WHATEVER THE INPUT: true; the input reads as it did. -/
def symverMatchesSpec : ChangeSpec := { name := "symverMatches", fn := fun _ => fun
  | [d1, d2, d3, d4] => { results := [.lit (.bool true)], args := [d1, d2, d3, d4] }
  | _ => none }
def symverMatchesRow : OpenClaim := { program := "ytfafgdbknhlbkaa", sum := "650e2939125970b6dc8de0c44e01773f58d9bebd5002edb8c6efe10c6c83592c", func := "clevis/clevislaw07.SymverMatches", spec := "symverMatches", inPlace := ["internal/bytealg.IndexByteString", "internal/bytealg.IndexString"], named := ["internal/bytealg.MaxLen"], apart := false }
def SymverMatchesSaid : Prop := symverMatchesRow.holds Try.pinned (OpenSpec.ofChange symverMatchesSpec)

/-- ITS FALSE NEIGHBOUR: 'it returns false'. Refute it at one input. -/
def symverMatchesWrong : ChangeSpec := { name := "symverMatches", fn := fun _ => fun
  | [d1, d2, d3, d4] => { results := [.lit (.bool false)], args := [d1, d2, d3, d4] }
  | _ => none }
def SymverMatchesWrongFalsely : Prop := symverMatchesRow.holds Try.pinned (OpenSpec.ofChange symverMatchesWrong)

/-- 'clevislaw07.SymverBack': WHATEVER THE INPUT: true; the input reads as it did. -/
def symverBackSpec : ChangeSpec := { name := "symverBack", fn := fun _ => fun
  | [d1, d2, d3] => { results := [.lit (.bool true)], args := [d1, d2, d3] }
  | _ => none }
def symverBackRow : OpenClaim := { program := "ytfafgdbknhlbkaa", sum := "650e2939125970b6dc8de0c44e01773f58d9bebd5002edb8c6efe10c6c83592c", func := "clevis/clevislaw07.SymverBack", spec := "symverBack", inPlace := ["internal/bytealg.IndexByteString", "internal/bytealg.IndexString"], named := ["internal/bytealg.MaxLen"], apart := false }
def SymverBackSaid : Prop := symverBackRow.holds Try.pinned (OpenSpec.ofChange symverBackSpec)

/-- ITS FALSE NEIGHBOUR: 'it returns false'. Refute it at one input. -/
def symverBackWrong : ChangeSpec := { name := "symverBack", fn := fun _ => fun
  | [d1, d2, d3] => { results := [.lit (.bool false)], args := [d1, d2, d3] }
  | _ => none }
def SymverBackWrongFalsely : Prop := symverBackRow.holds Try.pinned (OpenSpec.ofChange symverBackWrong)

/-- 'clevislaw07.SymverOne': WHATEVER THE INPUT: true; the input reads as it did. -/
def symverOneSpec : ChangeSpec := { name := "symverOne", fn := fun _ => fun
  | [d1, d2] => { results := [.lit (.bool true)], args := [d1, d2] }
  | _ => none }
def symverOneRow : OpenClaim := { program := "ytfafgdbknhlbkaa", sum := "650e2939125970b6dc8de0c44e01773f58d9bebd5002edb8c6efe10c6c83592c", func := "clevis/clevislaw07.SymverOne", spec := "symverOne", inPlace := ["internal/bytealg.IndexByteString", "internal/bytealg.IndexString"], named := ["internal/bytealg.MaxLen"], apart := false }
def SymverOneSaid : Prop := symverOneRow.holds Try.pinned (OpenSpec.ofChange symverOneSpec)

/-- ITS FALSE NEIGHBOUR: 'it returns false'. Refute it at one input. -/
def symverOneWrong : ChangeSpec := { name := "symverOne", fn := fun _ => fun
  | [d1, d2] => { results := [.lit (.bool false)], args := [d1, d2] }
  | _ => none }
def SymverOneWrongFalsely : Prop := symverOneRow.holds Try.pinned (OpenSpec.ofChange symverOneWrong)

/-- 'clevislaw07.SymverHidden': WHATEVER THE INPUT: true; the input reads as it did. -/
def symverHiddenSpec : ChangeSpec := { name := "symverHidden", fn := fun _ => fun
  | [d1, d2, d3] => { results := [.lit (.bool true)], args := [d1, d2, d3] }
  | _ => none }
def symverHiddenRow : OpenClaim := { program := "ytfafgdbknhlbkaa", sum := "650e2939125970b6dc8de0c44e01773f58d9bebd5002edb8c6efe10c6c83592c", func := "clevis/clevislaw07.SymverHidden", spec := "symverHidden", inPlace := ["internal/bytealg.IndexByteString", "internal/bytealg.IndexString"], named := ["internal/bytealg.MaxLen"], apart := false }
def SymverHiddenSaid : Prop := symverHiddenRow.holds Try.pinned (OpenSpec.ofChange symverHiddenSpec)

/-- ITS FALSE NEIGHBOUR: 'it returns false'. Refute it at one input. -/
def symverHiddenWrong : ChangeSpec := { name := "symverHidden", fn := fun _ => fun
  | [d1, d2, d3] => { results := [.lit (.bool false)], args := [d1, d2, d3] }
  | _ => none }
def SymverHiddenWrongFalsely : Prop := symverHiddenRow.holds Try.pinned (OpenSpec.ofChange symverHiddenWrong)

/-- 'clevislaw07.SymverPlain': WHATEVER THE INPUT: true; the input reads as it did. -/
def symverPlainSpec : ChangeSpec := { name := "symverPlain", fn := fun _ => fun
  | [d1, d2] => { results := [.lit (.bool true)], args := [d1, d2] }
  | _ => none }
def symverPlainRow : OpenClaim := { program := "ytfafgdbknhlbkaa", sum := "650e2939125970b6dc8de0c44e01773f58d9bebd5002edb8c6efe10c6c83592c", func := "clevis/clevislaw07.SymverPlain", spec := "symverPlain", inPlace := ["internal/bytealg.IndexByteString", "internal/bytealg.IndexString"], named := ["internal/bytealg.MaxLen"], apart := false }
def SymverPlainSaid : Prop := symverPlainRow.holds Try.pinned (OpenSpec.ofChange symverPlainSpec)

/-- ITS FALSE NEIGHBOUR: 'it returns false'. Refute it at one input. -/
def symverPlainWrong : ChangeSpec := { name := "symverPlain", fn := fun _ => fun
  | [d1, d2] => { results := [.lit (.bool false)], args := [d1, d2] }
  | _ => none }
def SymverPlainWrongFalsely : Prop := symverPlainRow.holds Try.pinned (OpenSpec.ofChange symverPlainWrong)

/- THE SECOND FORM. 'bulk': how many values and letters a reading holds, each counted each time it is reached (what is shared counts as often as it is met; a slice's spare places count too). A statement '..UptoSaid' is the law's where the arguments, and the package variables that the reading takes, are together of bulk at most 1048576: NARROWER than '..Said'. Prove '..Said' where nothing that the law and all that it calls make is longer than what came in: it says more and counts as full. Else prove '..UptoSaid'. A law counts once. -/
mutual
def uptoBulk {H : Type} : DataW H → Nat
  | .lit (.string bytes) => bytes.length + 1
  | .lit _ => 1
  | .nil => 1
  | .ptr d => uptoBulk d + 1
  | .slice elems spare => uptoBulkAll elems + uptoBulkAll spare + 1
  | .agg parts => uptoBulkAll parts + 1
  | .iface _ d => uptoBulk d + 1
  | .map entries => uptoBulkEntries entries + 1
  | .held _ => 1
def uptoBulkAll {H : Type} : List (DataW H) → Nat
  | [] => 0
  | d :: r => uptoBulk d + uptoBulkAll r
def uptoBulkEntries {H : Type} : List (Lit × DataW H) → Nat
  | [] => 0
  | x :: r => uptoBulkEntry x + uptoBulkEntries r
def uptoBulkEntry {H : Type} : Lit × DataW H → Nat
  | (.string bytes, d) => bytes.length + uptoBulk d + 1
  | (_, d) => uptoBulk d + 1
 end
def uptoSmall : (H : Type) → List (DataW H) → Bool := fun _ ds => decide (uptoBulkAll ds ≤ 1048576)
def OpenSpec.upto (s : _root_.Go.ChangeSpec) : _root_.Go.OpenSpec := { _root_.Go.OpenSpec.ofChange s with cond := some uptoSmall }

/-- 'clevislaw07.SymverReads', WHERE WHAT IT READS IS OF BULK AT MOST 1048576: true; the input reads as it did. -/
def symverReadsUptoRow : OpenClaim := { program := "ytfafgdbknhlbkaa", sum := "650e2939125970b6dc8de0c44e01773f58d9bebd5002edb8c6efe10c6c83592c", func := "clevis/clevislaw07.SymverReads", spec := "symverReads", inPlace := ["internal/bytealg.IndexByteString", "internal/bytealg.IndexString"], named := ["internal/bytealg.MaxLen"], apart := false, narrowed := true }
def SymverReadsUptoSaid : Prop := symverReadsUptoRow.holds Try.pinned (OpenSpec.upto symverReadsSpec)

/-- 'clevislaw07.SymverPrints', WHERE WHAT IT READS IS OF BULK AT MOST 1048576: true; the input reads as it did. -/
def symverPrintsUptoRow : OpenClaim := { program := "ytfafgdbknhlbkaa", sum := "650e2939125970b6dc8de0c44e01773f58d9bebd5002edb8c6efe10c6c83592c", func := "clevis/clevislaw07.SymverPrints", spec := "symverPrints", inPlace := ["internal/bytealg.IndexByteString", "internal/bytealg.IndexString"], named := ["internal/bytealg.MaxLen"], apart := false, narrowed := true }
def SymverPrintsUptoSaid : Prop := symverPrintsUptoRow.holds Try.pinned (OpenSpec.upto symverPrintsSpec)

/-- 'clevislaw07.SymverMatches', WHERE WHAT IT READS IS OF BULK AT MOST 1048576: true; the input reads as it did. -/
def symverMatchesUptoRow : OpenClaim := { program := "ytfafgdbknhlbkaa", sum := "650e2939125970b6dc8de0c44e01773f58d9bebd5002edb8c6efe10c6c83592c", func := "clevis/clevislaw07.SymverMatches", spec := "symverMatches", inPlace := ["internal/bytealg.IndexByteString", "internal/bytealg.IndexString"], named := ["internal/bytealg.MaxLen"], apart := false, narrowed := true }
def SymverMatchesUptoSaid : Prop := symverMatchesUptoRow.holds Try.pinned (OpenSpec.upto symverMatchesSpec)

/-- 'clevislaw07.SymverBack', WHERE WHAT IT READS IS OF BULK AT MOST 1048576: true; the input reads as it did. -/
def symverBackUptoRow : OpenClaim := { program := "ytfafgdbknhlbkaa", sum := "650e2939125970b6dc8de0c44e01773f58d9bebd5002edb8c6efe10c6c83592c", func := "clevis/clevislaw07.SymverBack", spec := "symverBack", inPlace := ["internal/bytealg.IndexByteString", "internal/bytealg.IndexString"], named := ["internal/bytealg.MaxLen"], apart := false, narrowed := true }
def SymverBackUptoSaid : Prop := symverBackUptoRow.holds Try.pinned (OpenSpec.upto symverBackSpec)

/-- 'clevislaw07.SymverOne', WHERE WHAT IT READS IS OF BULK AT MOST 1048576: true; the input reads as it did. -/
def symverOneUptoRow : OpenClaim := { program := "ytfafgdbknhlbkaa", sum := "650e2939125970b6dc8de0c44e01773f58d9bebd5002edb8c6efe10c6c83592c", func := "clevis/clevislaw07.SymverOne", spec := "symverOne", inPlace := ["internal/bytealg.IndexByteString", "internal/bytealg.IndexString"], named := ["internal/bytealg.MaxLen"], apart := false, narrowed := true }
def SymverOneUptoSaid : Prop := symverOneUptoRow.holds Try.pinned (OpenSpec.upto symverOneSpec)

/-- 'clevislaw07.SymverHidden', WHERE WHAT IT READS IS OF BULK AT MOST 1048576: true; the input reads as it did. -/
def symverHiddenUptoRow : OpenClaim := { program := "ytfafgdbknhlbkaa", sum := "650e2939125970b6dc8de0c44e01773f58d9bebd5002edb8c6efe10c6c83592c", func := "clevis/clevislaw07.SymverHidden", spec := "symverHidden", inPlace := ["internal/bytealg.IndexByteString", "internal/bytealg.IndexString"], named := ["internal/bytealg.MaxLen"], apart := false, narrowed := true }
def SymverHiddenUptoSaid : Prop := symverHiddenUptoRow.holds Try.pinned (OpenSpec.upto symverHiddenSpec)

/-- 'clevislaw07.SymverPlain', WHERE WHAT IT READS IS OF BULK AT MOST 1048576: true; the input reads as it did. -/
def symverPlainUptoRow : OpenClaim := { program := "ytfafgdbknhlbkaa", sum := "650e2939125970b6dc8de0c44e01773f58d9bebd5002edb8c6efe10c6c83592c", func := "clevis/clevislaw07.SymverPlain", spec := "symverPlain", inPlace := ["internal/bytealg.IndexByteString", "internal/bytealg.IndexString"], named := ["internal/bytealg.MaxLen"], apart := false, narrowed := true }
def SymverPlainUptoSaid : Prop := symverPlainUptoRow.holds Try.pinned (OpenSpec.upto symverPlainSpec)

end Rows
end Go.Proofs.Ytfafgdbknhlbkaa
