/-
  No cell of these rows narrows 'for every input' (looked for: loops, veiled, ifaces, maps, wideKeys, modest, calm, conditions, laid).
  DERIVED. THE GIVEN ROWS OF THIS SEAT. 9 by the template 'for every input the law returns true; each argument reads behind the call as it read before'; 0 by the template 'total and deterministic' (their statements: YtpcgedngikpnoaaTotals.lean).
  GIVEN WITH THE SEED: the statements are not yours to turn. If you find one false, say at which input.
  Laid BY PROGRAM, IN A SANDBOX (cutbox-rows.mjs): the forced cells as the released guide's own fill.sh prints them over the translation 7077bc0424049db7… (all of the seat's roots in one cut). By AI agents, Wed Nov 11 2026. No macro, syntax, notation, axiom, sorry.
-/
import Derived.Test.YtpcgedngikpnoaaChecked
import GoSem.Claim
import GoSem.ClaimJoined
import GoSem.ClaimMapViews
import Derived.JoinedTies
import Derived.KernelRfl
namespace Go.Proofs.Ytpcgedngikpnoaa
/- THE CELL 'sum', in the pinned program and in every row, IS THE sha256 OF THE DUMP (.gsa) THAT YtpcgedngikpnoaaProg.lean LOADS. Nothing in Lean hashes anything: it is a label: what it is worth is what the hold of that sum in a sandbox is worth. -/
noncomputable def Try.pinned : Pinned := { name := "ytpcgedngikpnoaa", sum := "7077bc0424049db7028142ffaa8ea441eb51470902675b73d2c7b821d927333f", checked := Try.checked }
namespace Rows
def none {H : Type} : Left H := { results := [], args := [] }

/-- 'clevislaw14.ScopeLooks': WHATEVER THE INPUT: true; the input reads as it did. -/
def scopeLooksSpec : ChangeSpec := { name := "scopeLooks", fn := fun _ => fun
  | [d1, d2, d3] => { results := [.lit (.bool true)], args := [d1, d2, d3] }
  | _ => none }
def scopeLooksRow : OpenClaim := { program := "ytpcgedngikpnoaa", sum := "7077bc0424049db7028142ffaa8ea441eb51470902675b73d2c7b821d927333f", func := "clevis/clevislaw14.ScopeLooks", spec := "scopeLooks", unfollowed := true, recurses := true, apart := false }
def ScopeLooksSaid : Prop := scopeLooksRow.holds Try.pinned (OpenSpec.ofChange scopeLooksSpec)

/-- ITS FALSE NEIGHBOUR: 'it returns false'. Refute it at one input. -/
def scopeLooksWrong : ChangeSpec := { name := "scopeLooks", fn := fun _ => fun
  | [d1, d2, d3] => { results := [.lit (.bool false)], args := [d1, d2, d3] }
  | _ => none }
def ScopeLooksWrongFalsely : Prop := scopeLooksRow.holds Try.pinned (OpenSpec.ofChange scopeLooksWrong)

/-- 'clevislaw14.ScopeLines': WHATEVER THE INPUT: true; the input reads as it did. -/
def scopeLinesSpec : ChangeSpec := { name := "scopeLines", fn := fun _ => fun
  | [d1, d2, d3] => { results := [.lit (.bool true)], args := [d1, d2, d3] }
  | _ => none }
def scopeLinesRow : OpenClaim := { program := "ytpcgedngikpnoaa", sum := "7077bc0424049db7028142ffaa8ea441eb51470902675b73d2c7b821d927333f", func := "clevis/clevislaw14.ScopeLines", spec := "scopeLines", unfollowed := true, recurses := true, apart := false }
def ScopeLinesSaid : Prop := scopeLinesRow.holds Try.pinned (OpenSpec.ofChange scopeLinesSpec)

/-- ITS FALSE NEIGHBOUR: 'it returns false'. Refute it at one input. -/
def scopeLinesWrong : ChangeSpec := { name := "scopeLines", fn := fun _ => fun
  | [d1, d2, d3] => { results := [.lit (.bool false)], args := [d1, d2, d3] }
  | _ => none }
def ScopeLinesWrongFalsely : Prop := scopeLinesRow.holds Try.pinned (OpenSpec.ofChange scopeLinesWrong)

/-- 'clevislaw14.ScopeBinds': WHATEVER THE INPUT: true; the input reads as it did. -/
def scopeBindsSpec : ChangeSpec := { name := "scopeBinds", fn := fun _ => fun
  | [d1, d2, d3, d4] => { results := [.lit (.bool true)], args := [d1, d2, d3, d4] }
  | _ => none }
def scopeBindsRow : OpenClaim := { program := "ytpcgedngikpnoaa", sum := "7077bc0424049db7028142ffaa8ea441eb51470902675b73d2c7b821d927333f", func := "clevis/clevislaw14.ScopeBinds", spec := "scopeBinds", unfollowed := true, recurses := true, apart := false }
def ScopeBindsSaid : Prop := scopeBindsRow.holds Try.pinned (OpenSpec.ofChange scopeBindsSpec)

/-- ITS FALSE NEIGHBOUR: 'it returns false'. Refute it at one input. -/
def scopeBindsWrong : ChangeSpec := { name := "scopeBinds", fn := fun _ => fun
  | [d1, d2, d3, d4] => { results := [.lit (.bool false)], args := [d1, d2, d3, d4] }
  | _ => none }
def ScopeBindsWrongFalsely : Prop := scopeBindsRow.holds Try.pinned (OpenSpec.ofChange scopeBindsWrong)

/-- 'clevislaw14.ScopeSame': WHATEVER THE INPUT: true; the input reads as it did. -/
def scopeSameSpec : ChangeSpec := { name := "scopeSame", fn := fun _ => fun
  | [d1, d2, d3] => { results := [.lit (.bool true)], args := [d1, d2, d3] }
  | _ => none }
def scopeSameRow : OpenClaim := { program := "ytpcgedngikpnoaa", sum := "7077bc0424049db7028142ffaa8ea441eb51470902675b73d2c7b821d927333f", func := "clevis/clevislaw14.ScopeSame", spec := "scopeSame", unfollowed := true, recurses := true, apart := false }
def ScopeSameSaid : Prop := scopeSameRow.holds Try.pinned (OpenSpec.ofChange scopeSameSpec)

/-- ITS FALSE NEIGHBOUR: 'it returns false'. Refute it at one input. -/
def scopeSameWrong : ChangeSpec := { name := "scopeSame", fn := fun _ => fun
  | [d1, d2, d3] => { results := [.lit (.bool false)], args := [d1, d2, d3] }
  | _ => none }
def ScopeSameWrongFalsely : Prop := scopeSameRow.holds Try.pinned (OpenSpec.ofChange scopeSameWrong)

/-- 'clevislaw14.ScopeMade': WHATEVER THE INPUT: true; the input reads as it did. -/
def scopeMadeSpec : ChangeSpec := { name := "scopeMade", fn := fun _ => fun
  | [d1, d2, d3] => { results := [.lit (.bool true)], args := [d1, d2, d3] }
  | _ => none }
def scopeMadeRow : OpenClaim := { program := "ytpcgedngikpnoaa", sum := "7077bc0424049db7028142ffaa8ea441eb51470902675b73d2c7b821d927333f", func := "clevis/clevislaw14.ScopeMade", spec := "scopeMade", unfollowed := true, recurses := true, apart := false }
def ScopeMadeSaid : Prop := scopeMadeRow.holds Try.pinned (OpenSpec.ofChange scopeMadeSpec)

/-- ITS FALSE NEIGHBOUR: 'it returns false'. Refute it at one input. -/
def scopeMadeWrong : ChangeSpec := { name := "scopeMade", fn := fun _ => fun
  | [d1, d2, d3] => { results := [.lit (.bool false)], args := [d1, d2, d3] }
  | _ => none }
def ScopeMadeWrongFalsely : Prop := scopeMadeRow.holds Try.pinned (OpenSpec.ofChange scopeMadeWrong)

/-- 'clevislaw14.ScopeFirst': WHATEVER THE INPUT: true; the input reads as it did. -/
def scopeFirstSpec : ChangeSpec := { name := "scopeFirst", fn := fun _ => fun
  | [d1, d2, d3] => { results := [.lit (.bool true)], args := [d1, d2, d3] }
  | _ => none }
def scopeFirstRow : OpenClaim := { program := "ytpcgedngikpnoaa", sum := "7077bc0424049db7028142ffaa8ea441eb51470902675b73d2c7b821d927333f", func := "clevis/clevislaw14.ScopeFirst", spec := "scopeFirst", unfollowed := true, recurses := true, apart := false }
def ScopeFirstSaid : Prop := scopeFirstRow.holds Try.pinned (OpenSpec.ofChange scopeFirstSpec)

/-- ITS FALSE NEIGHBOUR: 'it returns false'. Refute it at one input. -/
def scopeFirstWrong : ChangeSpec := { name := "scopeFirst", fn := fun _ => fun
  | [d1, d2, d3] => { results := [.lit (.bool false)], args := [d1, d2, d3] }
  | _ => none }
def ScopeFirstWrongFalsely : Prop := scopeFirstRow.holds Try.pinned (OpenSpec.ofChange scopeFirstWrong)

/-- 'clevislaw14.ScopeMore': WHATEVER THE INPUT: true; the input reads as it did. -/
def scopeMoreSpec : ChangeSpec := { name := "scopeMore", fn := fun _ => fun
  | [d1, d2, d3] => { results := [.lit (.bool true)], args := [d1, d2, d3] }
  | _ => none }
def scopeMoreRow : OpenClaim := { program := "ytpcgedngikpnoaa", sum := "7077bc0424049db7028142ffaa8ea441eb51470902675b73d2c7b821d927333f", func := "clevis/clevislaw14.ScopeMore", spec := "scopeMore", unfollowed := true, recurses := true, apart := false }
def ScopeMoreSaid : Prop := scopeMoreRow.holds Try.pinned (OpenSpec.ofChange scopeMoreSpec)

/-- ITS FALSE NEIGHBOUR: 'it returns false'. Refute it at one input. -/
def scopeMoreWrong : ChangeSpec := { name := "scopeMore", fn := fun _ => fun
  | [d1, d2, d3] => { results := [.lit (.bool false)], args := [d1, d2, d3] }
  | _ => none }
def ScopeMoreWrongFalsely : Prop := scopeMoreRow.holds Try.pinned (OpenSpec.ofChange scopeMoreWrong)

/-- 'clevislaw14.ScopeWeak': WHATEVER THE INPUT: true; the input reads as it did. -/
def scopeWeakSpec : ChangeSpec := { name := "scopeWeak", fn := fun _ => fun
  | [d1, d2, d3, d4] => { results := [.lit (.bool true)], args := [d1, d2, d3, d4] }
  | _ => none }
def scopeWeakRow : OpenClaim := { program := "ytpcgedngikpnoaa", sum := "7077bc0424049db7028142ffaa8ea441eb51470902675b73d2c7b821d927333f", func := "clevis/clevislaw14.ScopeWeak", spec := "scopeWeak", unfollowed := true, recurses := true, apart := false }
def ScopeWeakSaid : Prop := scopeWeakRow.holds Try.pinned (OpenSpec.ofChange scopeWeakSpec)

/-- ITS FALSE NEIGHBOUR: 'it returns false'. Refute it at one input. -/
def scopeWeakWrong : ChangeSpec := { name := "scopeWeak", fn := fun _ => fun
  | [d1, d2, d3, d4] => { results := [.lit (.bool false)], args := [d1, d2, d3, d4] }
  | _ => none }
def ScopeWeakWrongFalsely : Prop := scopeWeakRow.holds Try.pinned (OpenSpec.ofChange scopeWeakWrong)

/-- 'clevislaw14.ScopeCounts': WHATEVER THE INPUT: true; the input reads as it did. -/
def scopeCountsSpec : ChangeSpec := { name := "scopeCounts", fn := fun _ => fun
  | [d1, d2, d3] => { results := [.lit (.bool true)], args := [d1, d2, d3] }
  | _ => none }
def scopeCountsRow : OpenClaim := { program := "ytpcgedngikpnoaa", sum := "7077bc0424049db7028142ffaa8ea441eb51470902675b73d2c7b821d927333f", func := "clevis/clevislaw14.ScopeCounts", spec := "scopeCounts", unfollowed := true, recurses := true, apart := false }
def ScopeCountsSaid : Prop := scopeCountsRow.holds Try.pinned (OpenSpec.ofChange scopeCountsSpec)

/-- ITS FALSE NEIGHBOUR: 'it returns false'. Refute it at one input. -/
def scopeCountsWrong : ChangeSpec := { name := "scopeCounts", fn := fun _ => fun
  | [d1, d2, d3] => { results := [.lit (.bool false)], args := [d1, d2, d3] }
  | _ => none }
def ScopeCountsWrongFalsely : Prop := scopeCountsRow.holds Try.pinned (OpenSpec.ofChange scopeCountsWrong)

/- THE SECOND FORM. 'bulk': how many values and letters a reading holds, each counted each time it is reached (what is shared counts as often as it is met; a slice's spare places count too). A statement '..UptoSaid' is the law's where the arguments, and the package variables that the reading takes, are together of bulk at most 1048576: NARROWER than '..Said'. Prove '..Said' where nothing that the law and all that it calls make is longer than what came in: it says more and counts as full. Else prove '..UptoSaid'. A law counts once. -/
mutual
def uptoBulk {H : Type} : DataW H → Nat
  | .lit (.string bytes) => bytes.length + 1
  | .lit _ => 1
  | .nil => 1
  | .ptr d => uptoBulk d + 1
  | .slice elems spare => uptoBulkAll elems + uptoBulkAll spare + 1
  | .agg parts => uptoBulkAll parts + 1
  | .iface _ d => uptoBulk d + 1
  | .map entries => uptoBulkEntries entries + 1
  | .held _ => 1
def uptoBulkAll {H : Type} : List (DataW H) → Nat
  | [] => 0
  | d :: r => uptoBulk d + uptoBulkAll r
def uptoBulkEntries {H : Type} : List (Lit × DataW H) → Nat
  | [] => 0
  | x :: r => uptoBulkEntry x + uptoBulkEntries r
def uptoBulkEntry {H : Type} : Lit × DataW H → Nat
  | (.string bytes, d) => bytes.length + uptoBulk d + 1
  | (_, d) => uptoBulk d + 1
 end
def uptoSmall : (H : Type) → List (DataW H) → Bool := fun _ ds => decide (uptoBulkAll ds ≤ 1048576)
def OpenSpec.upto (s : _root_.Go.ChangeSpec) : _root_.Go.OpenSpec := { _root_.Go.OpenSpec.ofChange s with cond := some uptoSmall }

/-- 'clevislaw14.ScopeLooks', WHERE WHAT IT READS IS OF BULK AT MOST 1048576: true; the input reads as it did. -/
def scopeLooksUptoRow : OpenClaim := { program := "ytpcgedngikpnoaa", sum := "7077bc0424049db7028142ffaa8ea441eb51470902675b73d2c7b821d927333f", func := "clevis/clevislaw14.ScopeLooks", spec := "scopeLooks", unfollowed := true, recurses := true, apart := false, narrowed := true }
def ScopeLooksUptoSaid : Prop := scopeLooksUptoRow.holds Try.pinned (OpenSpec.upto scopeLooksSpec)

/-- 'clevislaw14.ScopeLines', WHERE WHAT IT READS IS OF BULK AT MOST 1048576: true; the input reads as it did. -/
def scopeLinesUptoRow : OpenClaim := { program := "ytpcgedngikpnoaa", sum := "7077bc0424049db7028142ffaa8ea441eb51470902675b73d2c7b821d927333f", func := "clevis/clevislaw14.ScopeLines", spec := "scopeLines", unfollowed := true, recurses := true, apart := false, narrowed := true }
def ScopeLinesUptoSaid : Prop := scopeLinesUptoRow.holds Try.pinned (OpenSpec.upto scopeLinesSpec)

/-- 'clevislaw14.ScopeBinds', WHERE WHAT IT READS IS OF BULK AT MOST 1048576: true; the input reads as it did. -/
def scopeBindsUptoRow : OpenClaim := { program := "ytpcgedngikpnoaa", sum := "7077bc0424049db7028142ffaa8ea441eb51470902675b73d2c7b821d927333f", func := "clevis/clevislaw14.ScopeBinds", spec := "scopeBinds", unfollowed := true, recurses := true, apart := false, narrowed := true }
def ScopeBindsUptoSaid : Prop := scopeBindsUptoRow.holds Try.pinned (OpenSpec.upto scopeBindsSpec)

/-- 'clevislaw14.ScopeSame', WHERE WHAT IT READS IS OF BULK AT MOST 1048576: true; the input reads as it did. -/
def scopeSameUptoRow : OpenClaim := { program := "ytpcgedngikpnoaa", sum := "7077bc0424049db7028142ffaa8ea441eb51470902675b73d2c7b821d927333f", func := "clevis/clevislaw14.ScopeSame", spec := "scopeSame", unfollowed := true, recurses := true, apart := false, narrowed := true }
def ScopeSameUptoSaid : Prop := scopeSameUptoRow.holds Try.pinned (OpenSpec.upto scopeSameSpec)

/-- 'clevislaw14.ScopeMade', WHERE WHAT IT READS IS OF BULK AT MOST 1048576: true; the input reads as it did. -/
def scopeMadeUptoRow : OpenClaim := { program := "ytpcgedngikpnoaa", sum := "7077bc0424049db7028142ffaa8ea441eb51470902675b73d2c7b821d927333f", func := "clevis/clevislaw14.ScopeMade", spec := "scopeMade", unfollowed := true, recurses := true, apart := false, narrowed := true }
def ScopeMadeUptoSaid : Prop := scopeMadeUptoRow.holds Try.pinned (OpenSpec.upto scopeMadeSpec)

/-- 'clevislaw14.ScopeFirst', WHERE WHAT IT READS IS OF BULK AT MOST 1048576: true; the input reads as it did. -/
def scopeFirstUptoRow : OpenClaim := { program := "ytpcgedngikpnoaa", sum := "7077bc0424049db7028142ffaa8ea441eb51470902675b73d2c7b821d927333f", func := "clevis/clevislaw14.ScopeFirst", spec := "scopeFirst", unfollowed := true, recurses := true, apart := false, narrowed := true }
def ScopeFirstUptoSaid : Prop := scopeFirstUptoRow.holds Try.pinned (OpenSpec.upto scopeFirstSpec)

/-- 'clevislaw14.ScopeMore', WHERE WHAT IT READS IS OF BULK AT MOST 1048576: true; the input reads as it did. -/
def scopeMoreUptoRow : OpenClaim := { program := "ytpcgedngikpnoaa", sum := "7077bc0424049db7028142ffaa8ea441eb51470902675b73d2c7b821d927333f", func := "clevis/clevislaw14.ScopeMore", spec := "scopeMore", unfollowed := true, recurses := true, apart := false, narrowed := true }
def ScopeMoreUptoSaid : Prop := scopeMoreUptoRow.holds Try.pinned (OpenSpec.upto scopeMoreSpec)

/-- 'clevislaw14.ScopeWeak', WHERE WHAT IT READS IS OF BULK AT MOST 1048576: true; the input reads as it did. -/
def scopeWeakUptoRow : OpenClaim := { program := "ytpcgedngikpnoaa", sum := "7077bc0424049db7028142ffaa8ea441eb51470902675b73d2c7b821d927333f", func := "clevis/clevislaw14.ScopeWeak", spec := "scopeWeak", unfollowed := true, recurses := true, apart := false, narrowed := true }
def ScopeWeakUptoSaid : Prop := scopeWeakUptoRow.holds Try.pinned (OpenSpec.upto scopeWeakSpec)

/-- 'clevislaw14.ScopeCounts', WHERE WHAT IT READS IS OF BULK AT MOST 1048576: true; the input reads as it did. -/
def scopeCountsUptoRow : OpenClaim := { program := "ytpcgedngikpnoaa", sum := "7077bc0424049db7028142ffaa8ea441eb51470902675b73d2c7b821d927333f", func := "clevis/clevislaw14.ScopeCounts", spec := "scopeCounts", unfollowed := true, recurses := true, apart := false, narrowed := true }
def ScopeCountsUptoSaid : Prop := scopeCountsUptoRow.holds Try.pinned (OpenSpec.upto scopeCountsSpec)

end Rows
end Go.Proofs.Ytpcgedngikpnoaa
