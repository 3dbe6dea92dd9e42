/-
  DERIVED. GIVEN WITH THE SEED: THE CARDS: each row of YtbneikfonfpdgaaDoorRows.lean that lists a variable, with what it lists TIED to the program's text (the seventh form; the later family's looks); each row that meets fmt, with fmt's text TOLD by the authors' own Lean function (tested against real Go, not proved from fmt's source: count such statements apart). THE CARD IS WHAT COUNTS. Prove the row's statement (the work); the ties are given (YtbneikfonfpdgaaDoorTie.lean); close each card by the builder's one call (the guide's Derived/Test/ToyasCard.lean, 'card_holds'). Laid BY PROGRAM, IN A SANDBOX (cutbox-door.mjs). By AI agents, Wed Nov 11 2026. No macro, syntax, notation, axiom, sorry.
-/
import Derived.Test.YtbneikfonfpdgaaDoorRows
import GoSem.ClaimSeven
namespace Go.Proofs.YtbneikfonfpdgaaDoor
namespace Rows

/-- THE TIED CARD OF 'clevislaw11.TokenExpands'. -/
def tokenExpandsCard : Claim7 := { stood := { row := tokenExpandsRow, standIns := [], harness := (true, "400be1d387a72f2ed8f8c30e2d0a1b065a43b4af450c73dcd186efa9b2100320"), looks := false }, kinds := [], alts := [], laidByText := true, laidKinds := [.data, .pinned], laidTests := true, laidLooks := .later }
def TokenExpandsCardSaid : Prop := Claim7.holds Tryd.pinned (.plain (OpenSpec.ofChange tokenExpandsSpec)) tokenExpandsCard

/-- THE TIED CARD OF 'clevislaw11.TokenSplits'. -/
def tokenSplitsCard : Claim7 := { stood := { row := tokenSplitsRow, standIns := [], harness := (true, "400be1d387a72f2ed8f8c30e2d0a1b065a43b4af450c73dcd186efa9b2100320"), looks := false }, kinds := [], alts := [], laidByText := true, laidKinds := [.data, .pinned], laidTests := true, laidLooks := .later }
def TokenSplitsCardSaid : Prop := Claim7.holds Tryd.pinned (.plain (OpenSpec.ofChange tokenSplitsSpec)) tokenSplitsCard

/-- THE TIED CARD OF 'clevislaw11.TokenPlain'. -/
def tokenPlainCard : Claim7 := { stood := { row := tokenPlainRow, standIns := [], harness := (true, "400be1d387a72f2ed8f8c30e2d0a1b065a43b4af450c73dcd186efa9b2100320"), looks := false }, kinds := [], alts := [], laidByText := true, laidKinds := [.data, .pinned], laidTests := true, laidLooks := .later }
def TokenPlainCardSaid : Prop := Claim7.holds Tryd.pinned (.plain (OpenSpec.ofChange tokenPlainSpec)) tokenPlainCard

/-- THE TIED CARD OF 'clevislaw11.TokenParts'. -/
def tokenPartsCard : Claim7 := { stood := { row := tokenPartsRow, standIns := [], harness := (true, "400be1d387a72f2ed8f8c30e2d0a1b065a43b4af450c73dcd186efa9b2100320"), looks := false }, kinds := [], alts := [], laidByText := true, laidKinds := [.data, .pinned], laidTests := true, laidLooks := .later }
def TokenPartsCardSaid : Prop := Claim7.holds Tryd.pinned (.plain (OpenSpec.ofChange tokenPartsSpec)) tokenPartsCard

/-- THE TIED CARD OF 'clevislaw11.TokenLists'. -/
def tokenListsCard : Claim7 := { stood := { row := tokenListsRow, standIns := [], harness := (true, "400be1d387a72f2ed8f8c30e2d0a1b065a43b4af450c73dcd186efa9b2100320"), looks := false }, kinds := [], alts := [], laidByText := true, laidKinds := [.data, .pinned], laidTests := true, laidLooks := .later }
def TokenListsCardSaid : Prop := Claim7.holds Tryd.pinned (.plain (OpenSpec.ofChange tokenListsSpec)) tokenListsCard

/-- THE TIED CARD OF 'clevislaw11.TokenOrigins'. -/
def tokenOriginsCard : Claim7 := { stood := { row := tokenOriginsRow, standIns := [], harness := (true, "400be1d387a72f2ed8f8c30e2d0a1b065a43b4af450c73dcd186efa9b2100320"), looks := false }, kinds := [], alts := [], laidByText := true, laidKinds := [.data, .pinned], laidTests := true, laidLooks := .later }
def TokenOriginsCardSaid : Prop := Claim7.holds Tryd.pinned (.plain (OpenSpec.ofChange tokenOriginsSpec)) tokenOriginsCard

/-- THE SECOND FORM's CARD OF 'clevislaw11.TokenExpands'. -/
def tokenExpandsUptoCard : Claim7 := { stood := { row := tokenExpandsUptoRow, standIns := [], harness := (true, "400be1d387a72f2ed8f8c30e2d0a1b065a43b4af450c73dcd186efa9b2100320"), looks := false }, kinds := [], alts := [], laidByText := true, laidKinds := [.data, .pinned], laidTests := true, laidLooks := .later }
def TokenExpandsUptoCardSaid : Prop := Claim7.holds Tryd.pinned (.plain (OpenSpec.upto tokenExpandsSpec)) tokenExpandsUptoCard

/-- THE SECOND FORM's CARD OF 'clevislaw11.TokenSplits'. -/
def tokenSplitsUptoCard : Claim7 := { stood := { row := tokenSplitsUptoRow, standIns := [], harness := (true, "400be1d387a72f2ed8f8c30e2d0a1b065a43b4af450c73dcd186efa9b2100320"), looks := false }, kinds := [], alts := [], laidByText := true, laidKinds := [.data, .pinned], laidTests := true, laidLooks := .later }
def TokenSplitsUptoCardSaid : Prop := Claim7.holds Tryd.pinned (.plain (OpenSpec.upto tokenSplitsSpec)) tokenSplitsUptoCard

/-- THE SECOND FORM's CARD OF 'clevislaw11.TokenPlain'. -/
def tokenPlainUptoCard : Claim7 := { stood := { row := tokenPlainUptoRow, standIns := [], harness := (true, "400be1d387a72f2ed8f8c30e2d0a1b065a43b4af450c73dcd186efa9b2100320"), looks := false }, kinds := [], alts := [], laidByText := true, laidKinds := [.data, .pinned], laidTests := true, laidLooks := .later }
def TokenPlainUptoCardSaid : Prop := Claim7.holds Tryd.pinned (.plain (OpenSpec.upto tokenPlainSpec)) tokenPlainUptoCard

/-- THE SECOND FORM's CARD OF 'clevislaw11.TokenParts'. -/
def tokenPartsUptoCard : Claim7 := { stood := { row := tokenPartsUptoRow, standIns := [], harness := (true, "400be1d387a72f2ed8f8c30e2d0a1b065a43b4af450c73dcd186efa9b2100320"), looks := false }, kinds := [], alts := [], laidByText := true, laidKinds := [.data, .pinned], laidTests := true, laidLooks := .later }
def TokenPartsUptoCardSaid : Prop := Claim7.holds Tryd.pinned (.plain (OpenSpec.upto tokenPartsSpec)) tokenPartsUptoCard

/-- THE SECOND FORM's CARD OF 'clevislaw11.TokenLists'. -/
def tokenListsUptoCard : Claim7 := { stood := { row := tokenListsUptoRow, standIns := [], harness := (true, "400be1d387a72f2ed8f8c30e2d0a1b065a43b4af450c73dcd186efa9b2100320"), looks := false }, kinds := [], alts := [], laidByText := true, laidKinds := [.data, .pinned], laidTests := true, laidLooks := .later }
def TokenListsUptoCardSaid : Prop := Claim7.holds Tryd.pinned (.plain (OpenSpec.upto tokenListsSpec)) tokenListsUptoCard

/-- THE SECOND FORM's CARD OF 'clevislaw11.TokenOrigins'. -/
def tokenOriginsUptoCard : Claim7 := { stood := { row := tokenOriginsUptoRow, standIns := [], harness := (true, "400be1d387a72f2ed8f8c30e2d0a1b065a43b4af450c73dcd186efa9b2100320"), looks := false }, kinds := [], alts := [], laidByText := true, laidKinds := [.data, .pinned], laidTests := true, laidLooks := .later }
def TokenOriginsUptoCardSaid : Prop := Claim7.holds Tryd.pinned (.plain (OpenSpec.upto tokenOriginsSpec)) tokenOriginsUptoCard
end Rows
end Go.Proofs.YtbneikfonfpdgaaDoor
