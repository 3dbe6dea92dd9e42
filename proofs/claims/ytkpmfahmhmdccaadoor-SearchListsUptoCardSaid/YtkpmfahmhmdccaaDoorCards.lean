/-
  DERIVED. GIVEN WITH THE SEED: THE CARDS: each row of YtkpmfahmhmdccaaDoorRows.lean that lists a variable, with what it lists TIED to the program's text (the seventh form; the later family's looks); each row that meets fmt, with fmt's text TOLD by the authors' own Lean function (tested against real Go, not proved from fmt's source: count such statements apart). THE CARD IS WHAT COUNTS. Prove the row's statement (the work); the ties are given (YtkpmfahmhmdccaaDoorTie.lean); close each card by the builder's one call (the guide's Derived/Test/ToyasCard.lean, 'card_holds'). Laid BY PROGRAM, IN A SANDBOX (cutbox-door.mjs). By AI agents, Wed Nov 11 2026. No macro, syntax, notation, axiom, sorry.
-/
import Derived.Test.YtkpmfahmhmdccaaDoorRows
import GoSem.ClaimSeven
namespace Go.Proofs.YtkpmfahmhmdccaaDoor
namespace Rows

/-- THE TIED CARD OF 'clevislaw12.SearchLists'. -/
def searchListsCard : Claim7 := { stood := { row := searchListsRow, standIns := [], harness := (true, "d032b22d3a322a4b9117cf4d30b98ad6f64ab697f6bfab4988515b0988a1d291"), looks := false }, kinds := [], alts := [], laidByText := true, laidKinds := [.data, .pinned], laidTests := true, laidLooks := .later }
def SearchListsCardSaid : Prop := Claim7.holds Tryd.pinned (.plain (OpenSpec.ofChange searchListsSpec)) searchListsCard

/-- THE TIED CARD OF 'clevislaw12.SearchOrder'. -/
def searchOrderCard : Claim7 := { stood := { row := searchOrderRow, standIns := [], harness := (true, "d032b22d3a322a4b9117cf4d30b98ad6f64ab697f6bfab4988515b0988a1d291"), looks := false }, kinds := [], alts := [], laidByText := true, laidKinds := [.data, .pinned], laidTests := true, laidLooks := .later }
def SearchOrderCardSaid : Prop := Claim7.holds Tryd.pinned (.plain (OpenSpec.ofChange searchOrderSpec)) searchOrderCard

/-- THE TIED CARD OF 'clevislaw12.SearchClean'. -/
def searchCleanCard : Claim7 := { stood := { row := searchCleanRow, standIns := [], harness := (true, "d032b22d3a322a4b9117cf4d30b98ad6f64ab697f6bfab4988515b0988a1d291"), looks := false }, kinds := [], alts := [], laidByText := true, laidKinds := [.data, .pinned], laidTests := true, laidLooks := .later }
def SearchCleanCardSaid : Prop := Claim7.holds Tryd.pinned (.plain (OpenSpec.ofChange searchCleanSpec)) searchCleanCard

/-- THE SECOND FORM's CARD OF 'clevislaw12.SearchLists'. -/
def searchListsUptoCard : Claim7 := { stood := { row := searchListsUptoRow, standIns := [], harness := (true, "d032b22d3a322a4b9117cf4d30b98ad6f64ab697f6bfab4988515b0988a1d291"), looks := false }, kinds := [], alts := [], laidByText := true, laidKinds := [.data, .pinned], laidTests := true, laidLooks := .later }
def SearchListsUptoCardSaid : Prop := Claim7.holds Tryd.pinned (.plain (OpenSpec.upto searchListsSpec)) searchListsUptoCard

/-- THE SECOND FORM's CARD OF 'clevislaw12.SearchOrder'. -/
def searchOrderUptoCard : Claim7 := { stood := { row := searchOrderUptoRow, standIns := [], harness := (true, "d032b22d3a322a4b9117cf4d30b98ad6f64ab697f6bfab4988515b0988a1d291"), looks := false }, kinds := [], alts := [], laidByText := true, laidKinds := [.data, .pinned], laidTests := true, laidLooks := .later }
def SearchOrderUptoCardSaid : Prop := Claim7.holds Tryd.pinned (.plain (OpenSpec.upto searchOrderSpec)) searchOrderUptoCard

/-- THE SECOND FORM's CARD OF 'clevislaw12.SearchClean'. -/
def searchCleanUptoCard : Claim7 := { stood := { row := searchCleanUptoRow, standIns := [], harness := (true, "d032b22d3a322a4b9117cf4d30b98ad6f64ab697f6bfab4988515b0988a1d291"), looks := false }, kinds := [], alts := [], laidByText := true, laidKinds := [.data, .pinned], laidTests := true, laidLooks := .later }
def SearchCleanUptoCardSaid : Prop := Claim7.holds Tryd.pinned (.plain (OpenSpec.upto searchCleanSpec)) searchCleanUptoCard
end Rows
end Go.Proofs.YtkpmfahmhmdccaaDoor
