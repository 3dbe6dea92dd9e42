/-
  No cell of these rows narrows 'for every input' (looked for: loops, veiled, ifaces, maps, wideKeys, modest, calm, conditions, laid).
  DERIVED. THE GIVEN ROWS OF THIS SEAT. 9 by the template 'for every input the law returns true; each argument reads behind the call as it read before'; 0 by the template 'total and deterministic' (their statements: YtmpciigebjiehaaTotals.lean).
  GIVEN WITH THE SEED: the statements are not yours to turn. If you find one false, say at which input.
  Laid BY PROGRAM, IN A SANDBOX (cutbox-rows.mjs): the forced cells as the released guide's own fill.sh prints them over the translation 11cd5cb6856b095d… (all of the seat's roots in one cut). By AI agents, Wed Nov 11 2026. No macro, syntax, notation, axiom, sorry.
-/
import Derived.Test.YtmpciigebjiehaaChecked
import GoSem.Claim
import GoSem.ClaimJoined
import GoSem.ClaimMapViews
import Derived.JoinedTies
import Derived.KernelRfl
namespace Go.Proofs.Ytmpciigebjiehaa
/- THE CELL 'sum', in the pinned program and in every row, IS THE sha256 OF THE DUMP (.gsa) THAT YtmpciigebjiehaaProg.lean LOADS. Nothing in Lean hashes anything: it is a label: what it is worth is what the hold of that sum in a sandbox is worth. -/
noncomputable def Try.pinned : Pinned := { name := "ytmpciigebjiehaa", sum := "11cd5cb6856b095dcf532a49bbe4908d5c8e4986db25891628949b3430aae970", checked := Try.checked }
namespace Rows
def none {H : Type} : Left H := { results := [], args := [] }

/-- 'clevislaw02.SieveHashes': WHATEVER THE INPUT: true; the input reads as it did. -/
def sieveHashesSpec : ChangeSpec := { name := "sieveHashes", fn := fun _ => fun
  | [d1, d2] => { results := [.lit (.bool true)], args := [d1, d2] }
  | _ => none }
def sieveHashesRow : OpenClaim := { program := "ytmpciigebjiehaa", sum := "11cd5cb6856b095dcf532a49bbe4908d5c8e4986db25891628949b3430aae970", func := "clevis/clevislaw02.SieveHashes", spec := "sieveHashes", apart := false }
def SieveHashesSaid : Prop := sieveHashesRow.holds Try.pinned (OpenSpec.ofChange sieveHashesSpec)

/-- ITS FALSE NEIGHBOUR: 'it returns false'. Refute it at one input. -/
def sieveHashesWrong : ChangeSpec := { name := "sieveHashes", fn := fun _ => fun
  | [d1, d2] => { results := [.lit (.bool false)], args := [d1, d2] }
  | _ => none }
def SieveHashesWrongFalsely : Prop := sieveHashesRow.holds Try.pinned (OpenSpec.ofChange sieveHashesWrong)

/-- 'clevislaw02.SieveMakes': WHATEVER THE INPUT: true; the input reads as it did. -/
def sieveMakesSpec : ChangeSpec := { name := "sieveMakes", fn := fun _ => fun
  | [d1, d2, d3] => { results := [.lit (.bool true)], args := [d1, d2, d3] }
  | _ => none }
def sieveMakesRow : OpenClaim := { program := "ytmpciigebjiehaa", sum := "11cd5cb6856b095dcf532a49bbe4908d5c8e4986db25891628949b3430aae970", func := "clevis/clevislaw02.SieveMakes", spec := "sieveMakes", apart := false }
def SieveMakesSaid : Prop := sieveMakesRow.holds Try.pinned (OpenSpec.ofChange sieveMakesSpec)

/-- ITS FALSE NEIGHBOUR: 'it returns false'. Refute it at one input. -/
def sieveMakesWrong : ChangeSpec := { name := "sieveMakes", fn := fun _ => fun
  | [d1, d2, d3] => { results := [.lit (.bool false)], args := [d1, d2, d3] }
  | _ => none }
def SieveMakesWrongFalsely : Prop := sieveMakesRow.holds Try.pinned (OpenSpec.ofChange sieveMakesWrong)

/-- 'clevislaw02.SieveAdds': WHATEVER THE INPUT: true; the input reads as it did. -/
def sieveAddsSpec : ChangeSpec := { name := "sieveAdds", fn := fun _ => fun
  | [d1, d2] => { results := [.lit (.bool true)], args := [d1, d2] }
  | _ => none }
def sieveAddsRow : OpenClaim := { program := "ytmpciigebjiehaa", sum := "11cd5cb6856b095dcf532a49bbe4908d5c8e4986db25891628949b3430aae970", func := "clevis/clevislaw02.SieveAdds", spec := "sieveAdds", apart := false }
def SieveAddsSaid : Prop := sieveAddsRow.holds Try.pinned (OpenSpec.ofChange sieveAddsSpec)

/-- ITS FALSE NEIGHBOUR: 'it returns false'. Refute it at one input. -/
def sieveAddsWrong : ChangeSpec := { name := "sieveAdds", fn := fun _ => fun
  | [d1, d2] => { results := [.lit (.bool false)], args := [d1, d2] }
  | _ => none }
def SieveAddsWrongFalsely : Prop := sieveAddsRow.holds Try.pinned (OpenSpec.ofChange sieveAddsWrong)

/-- 'clevislaw02.SieveLacks': WHATEVER THE INPUT: true; the input reads as it did. -/
def sieveLacksSpec : ChangeSpec := { name := "sieveLacks", fn := fun _ => fun
  | [d1, d2] => { results := [.lit (.bool true)], args := [d1, d2] }
  | _ => none }
def sieveLacksRow : OpenClaim := { program := "ytmpciigebjiehaa", sum := "11cd5cb6856b095dcf532a49bbe4908d5c8e4986db25891628949b3430aae970", func := "clevis/clevislaw02.SieveLacks", spec := "sieveLacks", apart := false }
def SieveLacksSaid : Prop := sieveLacksRow.holds Try.pinned (OpenSpec.ofChange sieveLacksSpec)

/-- ITS FALSE NEIGHBOUR: 'it returns false'. Refute it at one input. -/
def sieveLacksWrong : ChangeSpec := { name := "sieveLacks", fn := fun _ => fun
  | [d1, d2] => { results := [.lit (.bool false)], args := [d1, d2] }
  | _ => none }
def SieveLacksWrongFalsely : Prop := sieveLacksRow.holds Try.pinned (OpenSpec.ofChange sieveLacksWrong)

/-- 'clevislaw02.SieveUnions': WHATEVER THE INPUT: true; the input reads as it did. -/
def sieveUnionsSpec : ChangeSpec := { name := "sieveUnions", fn := fun _ => fun
  | [d] => { results := [.lit (.bool true)], args := [d] }
  | _ => none }
def sieveUnionsRow : OpenClaim := { program := "ytmpciigebjiehaa", sum := "11cd5cb6856b095dcf532a49bbe4908d5c8e4986db25891628949b3430aae970", func := "clevis/clevislaw02.SieveUnions", spec := "sieveUnions", apart := false }
def SieveUnionsSaid : Prop := sieveUnionsRow.holds Try.pinned (OpenSpec.ofChange sieveUnionsSpec)

/-- ITS FALSE NEIGHBOUR: 'it returns false'. Refute it at one input. -/
def sieveUnionsWrong : ChangeSpec := { name := "sieveUnions", fn := fun _ => fun
  | [d] => { results := [.lit (.bool false)], args := [d] }
  | _ => none }
def SieveUnionsWrongFalsely : Prop := sieveUnionsRow.holds Try.pinned (OpenSpec.ofChange sieveUnionsWrong)

/-- 'clevislaw02.SieveParts': WHATEVER THE INPUT: true; the input reads as it did. -/
def sievePartsSpec : ChangeSpec := { name := "sieveParts", fn := fun _ => fun
  | [d1, d2] => { results := [.lit (.bool true)], args := [d1, d2] }
  | _ => none }
def sievePartsRow : OpenClaim := { program := "ytmpciigebjiehaa", sum := "11cd5cb6856b095dcf532a49bbe4908d5c8e4986db25891628949b3430aae970", func := "clevis/clevislaw02.SieveParts", spec := "sieveParts", apart := false }
def SievePartsSaid : Prop := sievePartsRow.holds Try.pinned (OpenSpec.ofChange sievePartsSpec)

/-- ITS FALSE NEIGHBOUR: 'it returns false'. Refute it at one input. -/
def sievePartsWrong : ChangeSpec := { name := "sieveParts", fn := fun _ => fun
  | [d1, d2] => { results := [.lit (.bool false)], args := [d1, d2] }
  | _ => none }
def SievePartsWrongFalsely : Prop := sievePartsRow.holds Try.pinned (OpenSpec.ofChange sievePartsWrong)

/-- 'clevislaw02.SieveHolds': WHATEVER THE INPUT: true; the input reads as it did. -/
def sieveHoldsSpec : ChangeSpec := { name := "sieveHolds", fn := fun _ => fun
  | [d1, d2, d3] => { results := [.lit (.bool true)], args := [d1, d2, d3] }
  | _ => none }
def sieveHoldsRow : OpenClaim := { program := "ytmpciigebjiehaa", sum := "11cd5cb6856b095dcf532a49bbe4908d5c8e4986db25891628949b3430aae970", func := "clevis/clevislaw02.SieveHolds", spec := "sieveHolds", apart := false }
def SieveHoldsSaid : Prop := sieveHoldsRow.holds Try.pinned (OpenSpec.ofChange sieveHoldsSpec)

/-- ITS FALSE NEIGHBOUR: 'it returns false'. Refute it at one input. -/
def sieveHoldsWrong : ChangeSpec := { name := "sieveHolds", fn := fun _ => fun
  | [d1, d2, d3] => { results := [.lit (.bool false)], args := [d1, d2, d3] }
  | _ => none }
def SieveHoldsWrongFalsely : Prop := sieveHoldsRow.holds Try.pinned (OpenSpec.ofChange sieveHoldsWrong)

/-- 'clevislaw02.SieveOrder': WHATEVER THE INPUT: true; the input reads as it did. -/
def sieveOrderSpec : ChangeSpec := { name := "sieveOrder", fn := fun _ => fun
  | [d1, d2, d3, d4] => { results := [.lit (.bool true)], args := [d1, d2, d3, d4] }
  | _ => none }
def sieveOrderRow : OpenClaim := { program := "ytmpciigebjiehaa", sum := "11cd5cb6856b095dcf532a49bbe4908d5c8e4986db25891628949b3430aae970", func := "clevis/clevislaw02.SieveOrder", spec := "sieveOrder", apart := false }
def SieveOrderSaid : Prop := sieveOrderRow.holds Try.pinned (OpenSpec.ofChange sieveOrderSpec)

/-- ITS FALSE NEIGHBOUR: 'it returns false'. Refute it at one input. -/
def sieveOrderWrong : ChangeSpec := { name := "sieveOrder", fn := fun _ => fun
  | [d1, d2, d3, d4] => { results := [.lit (.bool false)], args := [d1, d2, d3, d4] }
  | _ => none }
def SieveOrderWrongFalsely : Prop := sieveOrderRow.holds Try.pinned (OpenSpec.ofChange sieveOrderWrong)

/-- 'clevislaw02.SieveLess': WHATEVER THE INPUT: true; the input reads as it did. -/
def sieveLessSpec : ChangeSpec := { name := "sieveLess", fn := fun _ => fun
  | [d1, d2] => { results := [.lit (.bool true)], args := [d1, d2] }
  | _ => none }
def sieveLessRow : OpenClaim := { program := "ytmpciigebjiehaa", sum := "11cd5cb6856b095dcf532a49bbe4908d5c8e4986db25891628949b3430aae970", func := "clevis/clevislaw02.SieveLess", spec := "sieveLess", apart := false }
def SieveLessSaid : Prop := sieveLessRow.holds Try.pinned (OpenSpec.ofChange sieveLessSpec)

/-- ITS FALSE NEIGHBOUR: 'it returns false'. Refute it at one input. -/
def sieveLessWrong : ChangeSpec := { name := "sieveLess", fn := fun _ => fun
  | [d1, d2] => { results := [.lit (.bool false)], args := [d1, d2] }
  | _ => none }
def SieveLessWrongFalsely : Prop := sieveLessRow.holds Try.pinned (OpenSpec.ofChange sieveLessWrong)

/- THE SECOND FORM. 'bulk': how many values and letters a reading holds, each counted each time it is reached (what is shared counts as often as it is met; a slice's spare places count too). A statement '..UptoSaid' is the law's where the arguments, and the package variables that the reading takes, are together of bulk at most 1048576: NARROWER than '..Said'. Prove '..Said' where nothing that the law and all that it calls make is longer than what came in: it says more and counts as full. Else prove '..UptoSaid'. A law counts once. -/
mutual
def uptoBulk {H : Type} : DataW H → Nat
  | .lit (.string bytes) => bytes.length + 1
  | .lit _ => 1
  | .nil => 1
  | .ptr d => uptoBulk d + 1
  | .slice elems spare => uptoBulkAll elems + uptoBulkAll spare + 1
  | .agg parts => uptoBulkAll parts + 1
  | .iface _ d => uptoBulk d + 1
  | .map entries => uptoBulkEntries entries + 1
  | .held _ => 1
def uptoBulkAll {H : Type} : List (DataW H) → Nat
  | [] => 0
  | d :: r => uptoBulk d + uptoBulkAll r
def uptoBulkEntries {H : Type} : List (Lit × DataW H) → Nat
  | [] => 0
  | x :: r => uptoBulkEntry x + uptoBulkEntries r
def uptoBulkEntry {H : Type} : Lit × DataW H → Nat
  | (.string bytes, d) => bytes.length + uptoBulk d + 1
  | (_, d) => uptoBulk d + 1
 end
def uptoSmall : (H : Type) → List (DataW H) → Bool := fun _ ds => decide (uptoBulkAll ds ≤ 1048576)
def OpenSpec.upto (s : _root_.Go.ChangeSpec) : _root_.Go.OpenSpec := { _root_.Go.OpenSpec.ofChange s with cond := some uptoSmall }

/-- 'clevislaw02.SieveHashes', WHERE WHAT IT READS IS OF BULK AT MOST 1048576: true; the input reads as it did. -/
def sieveHashesUptoRow : OpenClaim := { program := "ytmpciigebjiehaa", sum := "11cd5cb6856b095dcf532a49bbe4908d5c8e4986db25891628949b3430aae970", func := "clevis/clevislaw02.SieveHashes", spec := "sieveHashes", apart := false, narrowed := true }
def SieveHashesUptoSaid : Prop := sieveHashesUptoRow.holds Try.pinned (OpenSpec.upto sieveHashesSpec)

/-- 'clevislaw02.SieveMakes', WHERE WHAT IT READS IS OF BULK AT MOST 1048576: true; the input reads as it did. -/
def sieveMakesUptoRow : OpenClaim := { program := "ytmpciigebjiehaa", sum := "11cd5cb6856b095dcf532a49bbe4908d5c8e4986db25891628949b3430aae970", func := "clevis/clevislaw02.SieveMakes", spec := "sieveMakes", apart := false, narrowed := true }
def SieveMakesUptoSaid : Prop := sieveMakesUptoRow.holds Try.pinned (OpenSpec.upto sieveMakesSpec)

/-- 'clevislaw02.SieveAdds', WHERE WHAT IT READS IS OF BULK AT MOST 1048576: true; the input reads as it did. -/
def sieveAddsUptoRow : OpenClaim := { program := "ytmpciigebjiehaa", sum := "11cd5cb6856b095dcf532a49bbe4908d5c8e4986db25891628949b3430aae970", func := "clevis/clevislaw02.SieveAdds", spec := "sieveAdds", apart := false, narrowed := true }
def SieveAddsUptoSaid : Prop := sieveAddsUptoRow.holds Try.pinned (OpenSpec.upto sieveAddsSpec)

/-- 'clevislaw02.SieveLacks', WHERE WHAT IT READS IS OF BULK AT MOST 1048576: true; the input reads as it did. -/
def sieveLacksUptoRow : OpenClaim := { program := "ytmpciigebjiehaa", sum := "11cd5cb6856b095dcf532a49bbe4908d5c8e4986db25891628949b3430aae970", func := "clevis/clevislaw02.SieveLacks", spec := "sieveLacks", apart := false, narrowed := true }
def SieveLacksUptoSaid : Prop := sieveLacksUptoRow.holds Try.pinned (OpenSpec.upto sieveLacksSpec)

/-- 'clevislaw02.SieveUnions', WHERE WHAT IT READS IS OF BULK AT MOST 1048576: true; the input reads as it did. -/
def sieveUnionsUptoRow : OpenClaim := { program := "ytmpciigebjiehaa", sum := "11cd5cb6856b095dcf532a49bbe4908d5c8e4986db25891628949b3430aae970", func := "clevis/clevislaw02.SieveUnions", spec := "sieveUnions", apart := false, narrowed := true }
def SieveUnionsUptoSaid : Prop := sieveUnionsUptoRow.holds Try.pinned (OpenSpec.upto sieveUnionsSpec)

/-- 'clevislaw02.SieveParts', WHERE WHAT IT READS IS OF BULK AT MOST 1048576: true; the input reads as it did. -/
def sievePartsUptoRow : OpenClaim := { program := "ytmpciigebjiehaa", sum := "11cd5cb6856b095dcf532a49bbe4908d5c8e4986db25891628949b3430aae970", func := "clevis/clevislaw02.SieveParts", spec := "sieveParts", apart := false, narrowed := true }
def SievePartsUptoSaid : Prop := sievePartsUptoRow.holds Try.pinned (OpenSpec.upto sievePartsSpec)

/-- 'clevislaw02.SieveHolds', WHERE WHAT IT READS IS OF BULK AT MOST 1048576: true; the input reads as it did. -/
def sieveHoldsUptoRow : OpenClaim := { program := "ytmpciigebjiehaa", sum := "11cd5cb6856b095dcf532a49bbe4908d5c8e4986db25891628949b3430aae970", func := "clevis/clevislaw02.SieveHolds", spec := "sieveHolds", apart := false, narrowed := true }
def SieveHoldsUptoSaid : Prop := sieveHoldsUptoRow.holds Try.pinned (OpenSpec.upto sieveHoldsSpec)

/-- 'clevislaw02.SieveOrder', WHERE WHAT IT READS IS OF BULK AT MOST 1048576: true; the input reads as it did. -/
def sieveOrderUptoRow : OpenClaim := { program := "ytmpciigebjiehaa", sum := "11cd5cb6856b095dcf532a49bbe4908d5c8e4986db25891628949b3430aae970", func := "clevis/clevislaw02.SieveOrder", spec := "sieveOrder", apart := false, narrowed := true }
def SieveOrderUptoSaid : Prop := sieveOrderUptoRow.holds Try.pinned (OpenSpec.upto sieveOrderSpec)

/-- 'clevislaw02.SieveLess', WHERE WHAT IT READS IS OF BULK AT MOST 1048576: true; the input reads as it did. -/
def sieveLessUptoRow : OpenClaim := { program := "ytmpciigebjiehaa", sum := "11cd5cb6856b095dcf532a49bbe4908d5c8e4986db25891628949b3430aae970", func := "clevis/clevislaw02.SieveLess", spec := "sieveLess", apart := false, narrowed := true }
def SieveLessUptoSaid : Prop := sieveLessUptoRow.holds Try.pinned (OpenSpec.upto sieveLessSpec)

end Rows
end Go.Proofs.Ytmpciigebjiehaa
