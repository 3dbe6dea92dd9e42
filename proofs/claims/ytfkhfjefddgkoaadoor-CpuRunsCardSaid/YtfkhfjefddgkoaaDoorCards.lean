/-
  DERIVED. GIVEN WITH THE SEED: THE CARDS: each row of YtfkhfjefddgkoaaDoorRows.lean that lists a variable, with what it lists TIED to the program's text (the seventh form; the later family's looks); each row that meets fmt, with fmt's text TOLD by the authors' own Lean function (tested against real Go, not proved from fmt's source: count such statements apart). THE CARD IS WHAT COUNTS. Prove the row's statement (the work); the ties are given (YtfkhfjefddgkoaaDoorTie.lean); close each card by the builder's one call (the guide's Derived/Test/ToyasCard.lean, 'card_holds'). Laid BY PROGRAM, IN A SANDBOX (cutbox-door.mjs). By AI agents, Wed Nov 11 2026. No macro, syntax, notation, axiom, sorry.
-/
import Derived.Test.YtfkhfjefddgkoaaDoorRows
import GoSem.ClaimSeven
namespace Go.Proofs.YtfkhfjefddgkoaaDoor
namespace Rows

/-- THE TIED CARD OF 'clevislaw06.CpuSteps'. -/
def cpuStepsCard : Claim7 := { stood := { row := cpuStepsRow, standIns := [], harness := (true, "929761550718f4bb579f0ed095def70d25933b0d299c974c2b0600845bd899f8"), looks := false }, kinds := [], alts := [], laidByText := true, laidKinds := [.data], laidTests := true, laidLooks := .later }
def CpuStepsCardSaid : Prop := Claim7.holds Tryd.pinned (.plain (OpenSpec.ofChange cpuStepsSpec)) cpuStepsCard

/-- THE TIED CARD OF 'clevislaw06.CpuRuns'. -/
def cpuRunsCard : Claim7 := { stood := { row := cpuRunsRow, standIns := [], harness := (true, "929761550718f4bb579f0ed095def70d25933b0d299c974c2b0600845bd899f8"), looks := false }, kinds := [], alts := [], laidByText := true, laidKinds := [.data], laidTests := true, laidLooks := .later }
def CpuRunsCardSaid : Prop := Claim7.holds Tryd.pinned (.plain (OpenSpec.ofChange cpuRunsSpec)) cpuRunsCard

/-- THE TIED CARD OF 'clevislaw06.CpuParts'. -/
def cpuPartsCard : Claim7 := { stood := { row := cpuPartsRow, standIns := [], harness := (true, "929761550718f4bb579f0ed095def70d25933b0d299c974c2b0600845bd899f8"), looks := false }, kinds := [], alts := [], laidByText := true, laidKinds := [.data], laidTests := true, laidLooks := .later }
def CpuPartsCardSaid : Prop := Claim7.holds Tryd.pinned (.plain (OpenSpec.ofChange cpuPartsSpec)) cpuPartsCard

/-- THE TIED CARD OF 'clevislaw06.CpuTraps'. -/
def cpuTrapsCard : Claim7 := { stood := { row := cpuTrapsRow, standIns := [], harness := (true, "929761550718f4bb579f0ed095def70d25933b0d299c974c2b0600845bd899f8"), looks := false }, kinds := [], alts := [], laidByText := true, laidKinds := [.data], laidTests := true, laidLooks := .later }
def CpuTrapsCardSaid : Prop := Claim7.holds Tryd.pinned (.plain (OpenSpec.ofChange cpuTrapsSpec)) cpuTrapsCard

/-- THE TIED CARD OF 'clevislaw06.CpuStays'. -/
def cpuStaysCard : Claim7 := { stood := { row := cpuStaysRow, standIns := [], harness := (true, "929761550718f4bb579f0ed095def70d25933b0d299c974c2b0600845bd899f8"), looks := false }, kinds := [], alts := [], laidByText := true, laidKinds := [.data], laidTests := true, laidLooks := .later }
def CpuStaysCardSaid : Prop := Claim7.holds Tryd.pinned (.plain (OpenSpec.ofChange cpuStaysSpec)) cpuStaysCard

/-- THE TIED CARD OF 'clevislaw06.CpuEnds'. -/
def cpuEndsCard : Claim7 := { stood := { row := cpuEndsRow, standIns := [], harness := (true, "929761550718f4bb579f0ed095def70d25933b0d299c974c2b0600845bd899f8"), looks := false }, kinds := [], alts := [], laidByText := true, laidKinds := [.data], laidTests := true, laidLooks := .later }
def CpuEndsCardSaid : Prop := Claim7.holds Tryd.pinned (.plain (OpenSpec.ofChange cpuEndsSpec)) cpuEndsCard

/-- THE TIED CARD OF 'clevislaw06.CpuReckons'. -/
def cpuReckonsCard : Claim7 := { stood := { row := cpuReckonsRow, standIns := [], harness := (true, "929761550718f4bb579f0ed095def70d25933b0d299c974c2b0600845bd899f8"), looks := false }, kinds := [], alts := [], laidByText := true, laidKinds := [.data], laidTests := true, laidLooks := .later }
def CpuReckonsCardSaid : Prop := Claim7.holds Tryd.pinned (.plain (OpenSpec.ofChange cpuReckonsSpec)) cpuReckonsCard

/-- THE SECOND FORM's CARD OF 'clevislaw06.CpuSteps'. -/
def cpuStepsUptoCard : Claim7 := { stood := { row := cpuStepsUptoRow, standIns := [], harness := (true, "929761550718f4bb579f0ed095def70d25933b0d299c974c2b0600845bd899f8"), looks := false }, kinds := [], alts := [], laidByText := true, laidKinds := [.data], laidTests := true, laidLooks := .later }
def CpuStepsUptoCardSaid : Prop := Claim7.holds Tryd.pinned (.plain (OpenSpec.upto cpuStepsSpec)) cpuStepsUptoCard

/-- THE SECOND FORM's CARD OF 'clevislaw06.CpuRuns'. -/
def cpuRunsUptoCard : Claim7 := { stood := { row := cpuRunsUptoRow, standIns := [], harness := (true, "929761550718f4bb579f0ed095def70d25933b0d299c974c2b0600845bd899f8"), looks := false }, kinds := [], alts := [], laidByText := true, laidKinds := [.data], laidTests := true, laidLooks := .later }
def CpuRunsUptoCardSaid : Prop := Claim7.holds Tryd.pinned (.plain (OpenSpec.upto cpuRunsSpec)) cpuRunsUptoCard

/-- THE SECOND FORM's CARD OF 'clevislaw06.CpuParts'. -/
def cpuPartsUptoCard : Claim7 := { stood := { row := cpuPartsUptoRow, standIns := [], harness := (true, "929761550718f4bb579f0ed095def70d25933b0d299c974c2b0600845bd899f8"), looks := false }, kinds := [], alts := [], laidByText := true, laidKinds := [.data], laidTests := true, laidLooks := .later }
def CpuPartsUptoCardSaid : Prop := Claim7.holds Tryd.pinned (.plain (OpenSpec.upto cpuPartsSpec)) cpuPartsUptoCard

/-- THE SECOND FORM's CARD OF 'clevislaw06.CpuTraps'. -/
def cpuTrapsUptoCard : Claim7 := { stood := { row := cpuTrapsUptoRow, standIns := [], harness := (true, "929761550718f4bb579f0ed095def70d25933b0d299c974c2b0600845bd899f8"), looks := false }, kinds := [], alts := [], laidByText := true, laidKinds := [.data], laidTests := true, laidLooks := .later }
def CpuTrapsUptoCardSaid : Prop := Claim7.holds Tryd.pinned (.plain (OpenSpec.upto cpuTrapsSpec)) cpuTrapsUptoCard

/-- THE SECOND FORM's CARD OF 'clevislaw06.CpuStays'. -/
def cpuStaysUptoCard : Claim7 := { stood := { row := cpuStaysUptoRow, standIns := [], harness := (true, "929761550718f4bb579f0ed095def70d25933b0d299c974c2b0600845bd899f8"), looks := false }, kinds := [], alts := [], laidByText := true, laidKinds := [.data], laidTests := true, laidLooks := .later }
def CpuStaysUptoCardSaid : Prop := Claim7.holds Tryd.pinned (.plain (OpenSpec.upto cpuStaysSpec)) cpuStaysUptoCard

/-- THE SECOND FORM's CARD OF 'clevislaw06.CpuEnds'. -/
def cpuEndsUptoCard : Claim7 := { stood := { row := cpuEndsUptoRow, standIns := [], harness := (true, "929761550718f4bb579f0ed095def70d25933b0d299c974c2b0600845bd899f8"), looks := false }, kinds := [], alts := [], laidByText := true, laidKinds := [.data], laidTests := true, laidLooks := .later }
def CpuEndsUptoCardSaid : Prop := Claim7.holds Tryd.pinned (.plain (OpenSpec.upto cpuEndsSpec)) cpuEndsUptoCard

/-- THE SECOND FORM's CARD OF 'clevislaw06.CpuReckons'. -/
def cpuReckonsUptoCard : Claim7 := { stood := { row := cpuReckonsUptoRow, standIns := [], harness := (true, "929761550718f4bb579f0ed095def70d25933b0d299c974c2b0600845bd899f8"), looks := false }, kinds := [], alts := [], laidByText := true, laidKinds := [.data], laidTests := true, laidLooks := .later }
def CpuReckonsUptoCardSaid : Prop := Claim7.holds Tryd.pinned (.plain (OpenSpec.upto cpuReckonsSpec)) cpuReckonsUptoCard
end Rows
end Go.Proofs.YtfkhfjefddgkoaaDoor
