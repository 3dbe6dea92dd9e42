/-
  No cell of these rows narrows 'for every input' (looked for: loops, veiled, ifaces, maps, wideKeys, modest, calm, conditions, laid).
  DERIVED. THE GIVEN ROWS OF THIS SEAT. 8 by the template 'for every input the law returns true; each argument reads behind the call as it read before'; 0 by the template 'total and deterministic' (their statements: YtlkhmpnahbbpeaaTotals.lean).
  GIVEN WITH THE SEED: the statements are not yours to turn. If you find one false, say at which input.
  Laid BY PROGRAM, IN A SANDBOX (cutbox-rows.mjs): the forced cells as the released guide's own fill.sh prints them over the translation 1f09dd010ad3abc7… (all of the seat's roots in one cut). By AI agents, Wed Nov 11 2026. No macro, syntax, notation, axiom, sorry.
-/
import Derived.Test.YtlkhmpnahbbpeaaChecked
import GoSem.Claim
import GoSem.ClaimJoined
import GoSem.ClaimMapViews
import Derived.JoinedTies
import Derived.KernelRfl
namespace Go.Proofs.Ytlkhmpnahbbpeaa
/- THE CELL 'sum', in the pinned program and in every row, IS THE sha256 OF THE DUMP (.gsa) THAT YtlkhmpnahbbpeaaProg.lean LOADS. Nothing in Lean hashes anything: it is a label: what it is worth is what the hold of that sum in a sandbox is worth. -/
noncomputable def Try.pinned : Pinned := { name := "ytlkhmpnahbbpeaa", sum := "1f09dd010ad3abc71f3ecf8ca403361583ab75f882395349eb7f20793c007eb8", checked := Try.checked }
namespace Rows
def none {H : Type} : Left H := { results := [], args := [] }

/-- 'clevislaw08.TableMakes': WHATEVER THE INPUT: true; the input reads as it did. -/
def tableMakesSpec : ChangeSpec := { name := "tableMakes", fn := fun _ => fun
  | [d] => { results := [.lit (.bool true)], args := [d] }
  | _ => none }
def tableMakesRow : OpenClaim := { program := "ytlkhmpnahbbpeaa", sum := "1f09dd010ad3abc71f3ecf8ca403361583ab75f882395349eb7f20793c007eb8", func := "clevis/clevislaw08.TableMakes", spec := "tableMakes", unfollowed := true, recurses := true, apart := false }
def TableMakesSaid : Prop := tableMakesRow.holds Try.pinned (OpenSpec.ofChange tableMakesSpec)

/-- ITS FALSE NEIGHBOUR: 'it returns false'. Refute it at one input. -/
def tableMakesWrong : ChangeSpec := { name := "tableMakes", fn := fun _ => fun
  | [d] => { results := [.lit (.bool false)], args := [d] }
  | _ => none }
def TableMakesWrongFalsely : Prop := tableMakesRow.holds Try.pinned (OpenSpec.ofChange tableMakesWrong)

/-- 'clevislaw08.TableRights': WHATEVER THE INPUT: true; the input reads as it did. -/
def tableRightsSpec : ChangeSpec := { name := "tableRights", fn := fun _ => fun
  | [d1, d2] => { results := [.lit (.bool true)], args := [d1, d2] }
  | _ => none }
def tableRightsRow : OpenClaim := { program := "ytlkhmpnahbbpeaa", sum := "1f09dd010ad3abc71f3ecf8ca403361583ab75f882395349eb7f20793c007eb8", func := "clevis/clevislaw08.TableRights", spec := "tableRights", unfollowed := true, recurses := true, apart := false }
def TableRightsSaid : Prop := tableRightsRow.holds Try.pinned (OpenSpec.ofChange tableRightsSpec)

/-- ITS FALSE NEIGHBOUR: 'it returns false'. Refute it at one input. -/
def tableRightsWrong : ChangeSpec := { name := "tableRights", fn := fun _ => fun
  | [d1, d2] => { results := [.lit (.bool false)], args := [d1, d2] }
  | _ => none }
def TableRightsWrongFalsely : Prop := tableRightsRow.holds Try.pinned (OpenSpec.ofChange tableRightsWrong)

/-- 'clevislaw08.TableFinds': WHATEVER THE INPUT: true; the input reads as it did. -/
def tableFindsSpec : ChangeSpec := { name := "tableFinds", fn := fun _ => fun
  | [d1, d2, d3] => { results := [.lit (.bool true)], args := [d1, d2, d3] }
  | _ => none }
def tableFindsRow : OpenClaim := { program := "ytlkhmpnahbbpeaa", sum := "1f09dd010ad3abc71f3ecf8ca403361583ab75f882395349eb7f20793c007eb8", func := "clevis/clevislaw08.TableFinds", spec := "tableFinds", unfollowed := true, recurses := true, apart := false }
def TableFindsSaid : Prop := tableFindsRow.holds Try.pinned (OpenSpec.ofChange tableFindsSpec)

/-- ITS FALSE NEIGHBOUR: 'it returns false'. Refute it at one input. -/
def tableFindsWrong : ChangeSpec := { name := "tableFinds", fn := fun _ => fun
  | [d1, d2, d3] => { results := [.lit (.bool false)], args := [d1, d2, d3] }
  | _ => none }
def TableFindsWrongFalsely : Prop := tableFindsRow.holds Try.pinned (OpenSpec.ofChange tableFindsWrong)

/-- 'clevislaw08.TableCounts': WHATEVER THE INPUT: true; the input reads as it did. -/
def tableCountsSpec : ChangeSpec := { name := "tableCounts", fn := fun _ => fun
  | [d] => { results := [.lit (.bool true)], args := [d] }
  | _ => none }
def tableCountsRow : OpenClaim := { program := "ytlkhmpnahbbpeaa", sum := "1f09dd010ad3abc71f3ecf8ca403361583ab75f882395349eb7f20793c007eb8", func := "clevis/clevislaw08.TableCounts", spec := "tableCounts", unfollowed := true, recurses := true, apart := false }
def TableCountsSaid : Prop := tableCountsRow.holds Try.pinned (OpenSpec.ofChange tableCountsSpec)

/-- ITS FALSE NEIGHBOUR: 'it returns false'. Refute it at one input. -/
def tableCountsWrong : ChangeSpec := { name := "tableCounts", fn := fun _ => fun
  | [d] => { results := [.lit (.bool false)], args := [d] }
  | _ => none }
def TableCountsWrongFalsely : Prop := tableCountsRow.holds Try.pinned (OpenSpec.ofChange tableCountsWrong)

/-- 'clevislaw08.TableFirst': WHATEVER THE INPUT: true; the input reads as it did. -/
def tableFirstSpec : ChangeSpec := { name := "tableFirst", fn := fun _ => fun
  | [d1, d2, d3] => { results := [.lit (.bool true)], args := [d1, d2, d3] }
  | _ => none }
def tableFirstRow : OpenClaim := { program := "ytlkhmpnahbbpeaa", sum := "1f09dd010ad3abc71f3ecf8ca403361583ab75f882395349eb7f20793c007eb8", func := "clevis/clevislaw08.TableFirst", spec := "tableFirst", unfollowed := true, recurses := true, apart := false }
def TableFirstSaid : Prop := tableFirstRow.holds Try.pinned (OpenSpec.ofChange tableFirstSpec)

/-- ITS FALSE NEIGHBOUR: 'it returns false'. Refute it at one input. -/
def tableFirstWrong : ChangeSpec := { name := "tableFirst", fn := fun _ => fun
  | [d1, d2, d3] => { results := [.lit (.bool false)], args := [d1, d2, d3] }
  | _ => none }
def TableFirstWrongFalsely : Prop := tableFirstRow.holds Try.pinned (OpenSpec.ofChange tableFirstWrong)

/-- 'clevislaw08.TableMade': WHATEVER THE INPUT: true; the input reads as it did. -/
def tableMadeSpec : ChangeSpec := { name := "tableMade", fn := fun _ => fun
  | [d1, d2] => { results := [.lit (.bool true)], args := [d1, d2] }
  | _ => none }
def tableMadeRow : OpenClaim := { program := "ytlkhmpnahbbpeaa", sum := "1f09dd010ad3abc71f3ecf8ca403361583ab75f882395349eb7f20793c007eb8", func := "clevis/clevislaw08.TableMade", spec := "tableMade", unfollowed := true, recurses := true, apart := false }
def TableMadeSaid : Prop := tableMadeRow.holds Try.pinned (OpenSpec.ofChange tableMadeSpec)

/-- ITS FALSE NEIGHBOUR: 'it returns false'. Refute it at one input. -/
def tableMadeWrong : ChangeSpec := { name := "tableMade", fn := fun _ => fun
  | [d1, d2] => { results := [.lit (.bool false)], args := [d1, d2] }
  | _ => none }
def TableMadeWrongFalsely : Prop := tableMadeRow.holds Try.pinned (OpenSpec.ofChange tableMadeWrong)

/-- 'clevislaw08.TableLooks': WHATEVER THE INPUT: true; the input reads as it did. -/
def tableLooksSpec : ChangeSpec := { name := "tableLooks", fn := fun _ => fun
  | [d1, d2] => { results := [.lit (.bool true)], args := [d1, d2] }
  | _ => none }
def tableLooksRow : OpenClaim := { program := "ytlkhmpnahbbpeaa", sum := "1f09dd010ad3abc71f3ecf8ca403361583ab75f882395349eb7f20793c007eb8", func := "clevis/clevislaw08.TableLooks", spec := "tableLooks", unfollowed := true, recurses := true, apart := false }
def TableLooksSaid : Prop := tableLooksRow.holds Try.pinned (OpenSpec.ofChange tableLooksSpec)

/-- ITS FALSE NEIGHBOUR: 'it returns false'. Refute it at one input. -/
def tableLooksWrong : ChangeSpec := { name := "tableLooks", fn := fun _ => fun
  | [d1, d2] => { results := [.lit (.bool false)], args := [d1, d2] }
  | _ => none }
def TableLooksWrongFalsely : Prop := tableLooksRow.holds Try.pinned (OpenSpec.ofChange tableLooksWrong)

/-- 'clevislaw08.TableLoad': WHATEVER THE INPUT: true; the input reads as it did. -/
def tableLoadSpec : ChangeSpec := { name := "tableLoad", fn := fun _ => fun
  | [d] => { results := [.lit (.bool true)], args := [d] }
  | _ => none }
def tableLoadRow : OpenClaim := { program := "ytlkhmpnahbbpeaa", sum := "1f09dd010ad3abc71f3ecf8ca403361583ab75f882395349eb7f20793c007eb8", func := "clevis/clevislaw08.TableLoad", spec := "tableLoad", unfollowed := true, recurses := true, apart := false }
def TableLoadSaid : Prop := tableLoadRow.holds Try.pinned (OpenSpec.ofChange tableLoadSpec)

/-- ITS FALSE NEIGHBOUR: 'it returns false'. Refute it at one input. -/
def tableLoadWrong : ChangeSpec := { name := "tableLoad", fn := fun _ => fun
  | [d] => { results := [.lit (.bool false)], args := [d] }
  | _ => none }
def TableLoadWrongFalsely : Prop := tableLoadRow.holds Try.pinned (OpenSpec.ofChange tableLoadWrong)

/- THE SECOND FORM. 'bulk': how many values and letters a reading holds, each counted each time it is reached (what is shared counts as often as it is met; a slice's spare places count too). A statement '..UptoSaid' is the law's where the arguments, and the package variables that the reading takes, are together of bulk at most 1048576: NARROWER than '..Said'. Prove '..Said' where nothing that the law and all that it calls make is longer than what came in: it says more and counts as full. Else prove '..UptoSaid'. A law counts once. -/
mutual
def uptoBulk {H : Type} : DataW H → Nat
  | .lit (.string bytes) => bytes.length + 1
  | .lit _ => 1
  | .nil => 1
  | .ptr d => uptoBulk d + 1
  | .slice elems spare => uptoBulkAll elems + uptoBulkAll spare + 1
  | .agg parts => uptoBulkAll parts + 1
  | .iface _ d => uptoBulk d + 1
  | .map entries => uptoBulkEntries entries + 1
  | .held _ => 1
def uptoBulkAll {H : Type} : List (DataW H) → Nat
  | [] => 0
  | d :: r => uptoBulk d + uptoBulkAll r
def uptoBulkEntries {H : Type} : List (Lit × DataW H) → Nat
  | [] => 0
  | x :: r => uptoBulkEntry x + uptoBulkEntries r
def uptoBulkEntry {H : Type} : Lit × DataW H → Nat
  | (.string bytes, d) => bytes.length + uptoBulk d + 1
  | (_, d) => uptoBulk d + 1
 end
def uptoSmall : (H : Type) → List (DataW H) → Bool := fun _ ds => decide (uptoBulkAll ds ≤ 1048576)
def OpenSpec.upto (s : _root_.Go.ChangeSpec) : _root_.Go.OpenSpec := { _root_.Go.OpenSpec.ofChange s with cond := some uptoSmall }

/-- 'clevislaw08.TableMakes', WHERE WHAT IT READS IS OF BULK AT MOST 1048576: true; the input reads as it did. -/
def tableMakesUptoRow : OpenClaim := { program := "ytlkhmpnahbbpeaa", sum := "1f09dd010ad3abc71f3ecf8ca403361583ab75f882395349eb7f20793c007eb8", func := "clevis/clevislaw08.TableMakes", spec := "tableMakes", unfollowed := true, recurses := true, apart := false, narrowed := true }
def TableMakesUptoSaid : Prop := tableMakesUptoRow.holds Try.pinned (OpenSpec.upto tableMakesSpec)

/-- 'clevislaw08.TableRights', WHERE WHAT IT READS IS OF BULK AT MOST 1048576: true; the input reads as it did. -/
def tableRightsUptoRow : OpenClaim := { program := "ytlkhmpnahbbpeaa", sum := "1f09dd010ad3abc71f3ecf8ca403361583ab75f882395349eb7f20793c007eb8", func := "clevis/clevislaw08.TableRights", spec := "tableRights", unfollowed := true, recurses := true, apart := false, narrowed := true }
def TableRightsUptoSaid : Prop := tableRightsUptoRow.holds Try.pinned (OpenSpec.upto tableRightsSpec)

/-- 'clevislaw08.TableFinds', WHERE WHAT IT READS IS OF BULK AT MOST 1048576: true; the input reads as it did. -/
def tableFindsUptoRow : OpenClaim := { program := "ytlkhmpnahbbpeaa", sum := "1f09dd010ad3abc71f3ecf8ca403361583ab75f882395349eb7f20793c007eb8", func := "clevis/clevislaw08.TableFinds", spec := "tableFinds", unfollowed := true, recurses := true, apart := false, narrowed := true }
def TableFindsUptoSaid : Prop := tableFindsUptoRow.holds Try.pinned (OpenSpec.upto tableFindsSpec)

/-- 'clevislaw08.TableCounts', WHERE WHAT IT READS IS OF BULK AT MOST 1048576: true; the input reads as it did. -/
def tableCountsUptoRow : OpenClaim := { program := "ytlkhmpnahbbpeaa", sum := "1f09dd010ad3abc71f3ecf8ca403361583ab75f882395349eb7f20793c007eb8", func := "clevis/clevislaw08.TableCounts", spec := "tableCounts", unfollowed := true, recurses := true, apart := false, narrowed := true }
def TableCountsUptoSaid : Prop := tableCountsUptoRow.holds Try.pinned (OpenSpec.upto tableCountsSpec)

/-- 'clevislaw08.TableFirst', WHERE WHAT IT READS IS OF BULK AT MOST 1048576: true; the input reads as it did. -/
def tableFirstUptoRow : OpenClaim := { program := "ytlkhmpnahbbpeaa", sum := "1f09dd010ad3abc71f3ecf8ca403361583ab75f882395349eb7f20793c007eb8", func := "clevis/clevislaw08.TableFirst", spec := "tableFirst", unfollowed := true, recurses := true, apart := false, narrowed := true }
def TableFirstUptoSaid : Prop := tableFirstUptoRow.holds Try.pinned (OpenSpec.upto tableFirstSpec)

/-- 'clevislaw08.TableMade', WHERE WHAT IT READS IS OF BULK AT MOST 1048576: true; the input reads as it did. -/
def tableMadeUptoRow : OpenClaim := { program := "ytlkhmpnahbbpeaa", sum := "1f09dd010ad3abc71f3ecf8ca403361583ab75f882395349eb7f20793c007eb8", func := "clevis/clevislaw08.TableMade", spec := "tableMade", unfollowed := true, recurses := true, apart := false, narrowed := true }
def TableMadeUptoSaid : Prop := tableMadeUptoRow.holds Try.pinned (OpenSpec.upto tableMadeSpec)

/-- 'clevislaw08.TableLooks', WHERE WHAT IT READS IS OF BULK AT MOST 1048576: true; the input reads as it did. -/
def tableLooksUptoRow : OpenClaim := { program := "ytlkhmpnahbbpeaa", sum := "1f09dd010ad3abc71f3ecf8ca403361583ab75f882395349eb7f20793c007eb8", func := "clevis/clevislaw08.TableLooks", spec := "tableLooks", unfollowed := true, recurses := true, apart := false, narrowed := true }
def TableLooksUptoSaid : Prop := tableLooksUptoRow.holds Try.pinned (OpenSpec.upto tableLooksSpec)

/-- 'clevislaw08.TableLoad', WHERE WHAT IT READS IS OF BULK AT MOST 1048576: true; the input reads as it did. -/
def tableLoadUptoRow : OpenClaim := { program := "ytlkhmpnahbbpeaa", sum := "1f09dd010ad3abc71f3ecf8ca403361583ab75f882395349eb7f20793c007eb8", func := "clevis/clevislaw08.TableLoad", spec := "tableLoad", unfollowed := true, recurses := true, apart := false, narrowed := true }
def TableLoadUptoSaid : Prop := tableLoadUptoRow.holds Try.pinned (OpenSpec.upto tableLoadSpec)

end Rows
end Go.Proofs.Ytlkhmpnahbbpeaa
