/-
  DERIVED. GIVEN WITH THE SEED: THE CARDS: each row of YtkbdlmmpeieaeaaDoorRows.lean that lists a variable, with what it lists TIED to the program's text (the seventh form; the later family's looks); each row that meets fmt, with fmt's text TOLD by the authors' own Lean function (tested against real Go, not proved from fmt's source: count such statements apart). THE CARD IS WHAT COUNTS. Prove the row's statement (the work); the ties are given (YtkbdlmmpeieaeaaDoorTie.lean); close each card by the builder's one call (the guide's Derived/Test/ToyasCard.lean, 'card_holds'). Laid BY PROGRAM, IN A SANDBOX (cutbox-door.mjs). By AI agents, Wed Nov 11 2026. No macro, syntax, notation, axiom, sorry.
-/
import Derived.Test.YtkbdlmmpeieaeaaDoorRows
import GoSem.ClaimSeven
namespace Go.Proofs.YtkbdlmmpeieaeaaDoor
namespace Rows

/-- THE TIED CARD OF 'gaolerlaw05.OwnerParse'. -/
def ownerParseCard : Claim7 := { stood := { row := ownerParseRow, standIns := [], harness := (true, "7ab8b0fef4fc87a83b307d618a60a64dea40098feddbd8d7c99c1048f644a71b"), looks := false }, kinds := [], alts := [], laidByText := true, laidKinds := [.data, .data, .data], laidTests := true, laidLooks := .later }
def OwnerParseCardSaid : Prop := Claim7.holds Tryd.pinned (.plain (OpenSpec.ofChange ownerParseSpec)) ownerParseCard

/-- THE TIED CARD OF 'gaolerlaw05.OwnerShow'. -/
def ownerShowCard : Claim7 := { stood := { row := ownerShowRow, standIns := [], harness := (true, "7ab8b0fef4fc87a83b307d618a60a64dea40098feddbd8d7c99c1048f644a71b"), looks := false }, kinds := [], alts := [], laidByText := true, laidKinds := [.data, .data, .data], laidTests := true, laidLooks := .later }
def OwnerShowCardSaid : Prop := Claim7.holds Tryd.pinned (.plain (OpenSpec.ofChange ownerShowSpec)) ownerShowCard

/-- THE TIED CARD OF 'gaolerlaw05.OwnerBack'. -/
def ownerBackCard : Claim7 := { stood := { row := ownerBackRow, standIns := [], harness := (true, "7ab8b0fef4fc87a83b307d618a60a64dea40098feddbd8d7c99c1048f644a71b"), looks := false }, kinds := [], alts := [], laidByText := true, laidKinds := [.data, .data, .data], laidTests := true, laidLooks := .later }
def OwnerBackCardSaid : Prop := Claim7.holds Tryd.pinned (.plain (OpenSpec.ofChange ownerBackSpec)) ownerBackCard

/-- THE TIED CARD OF 'gaolerlaw05.OwnerJoins'. -/
def ownerJoinsCard : Claim7 := { stood := { row := ownerJoinsRow, standIns := [], harness := (true, "7ab8b0fef4fc87a83b307d618a60a64dea40098feddbd8d7c99c1048f644a71b"), looks := false }, kinds := [], alts := [], laidByText := true, laidKinds := [.data, .data, .data], laidTests := true, laidLooks := .later }
def OwnerJoinsCardSaid : Prop := Claim7.holds Tryd.pinned (.plain (OpenSpec.ofChange ownerJoinsSpec)) ownerJoinsCard

/-- THE TIED CARD OF 'gaolerlaw05.OwnerDigits'. -/
def ownerDigitsCard : Claim7 := { stood := { row := ownerDigitsRow, standIns := [], harness := (true, "7ab8b0fef4fc87a83b307d618a60a64dea40098feddbd8d7c99c1048f644a71b"), looks := false }, kinds := [], alts := [], laidByText := true, laidKinds := [.data, .data, .data], laidTests := true, laidLooks := .later }
def OwnerDigitsCardSaid : Prop := Claim7.holds Tryd.pinned (.plain (OpenSpec.ofChange ownerDigitsSpec)) ownerDigitsCard

/-- THE SECOND FORM's CARD OF 'gaolerlaw05.OwnerParse'. -/
def ownerParseUptoCard : Claim7 := { stood := { row := ownerParseUptoRow, standIns := [], harness := (true, "7ab8b0fef4fc87a83b307d618a60a64dea40098feddbd8d7c99c1048f644a71b"), looks := false }, kinds := [], alts := [], laidByText := true, laidKinds := [.data, .data, .data], laidTests := true, laidLooks := .later }
def OwnerParseUptoCardSaid : Prop := Claim7.holds Tryd.pinned (.plain (OpenSpec.upto ownerParseSpec)) ownerParseUptoCard

/-- THE SECOND FORM's CARD OF 'gaolerlaw05.OwnerShow'. -/
def ownerShowUptoCard : Claim7 := { stood := { row := ownerShowUptoRow, standIns := [], harness := (true, "7ab8b0fef4fc87a83b307d618a60a64dea40098feddbd8d7c99c1048f644a71b"), looks := false }, kinds := [], alts := [], laidByText := true, laidKinds := [.data, .data, .data], laidTests := true, laidLooks := .later }
def OwnerShowUptoCardSaid : Prop := Claim7.holds Tryd.pinned (.plain (OpenSpec.upto ownerShowSpec)) ownerShowUptoCard

/-- THE SECOND FORM's CARD OF 'gaolerlaw05.OwnerBack'. -/
def ownerBackUptoCard : Claim7 := { stood := { row := ownerBackUptoRow, standIns := [], harness := (true, "7ab8b0fef4fc87a83b307d618a60a64dea40098feddbd8d7c99c1048f644a71b"), looks := false }, kinds := [], alts := [], laidByText := true, laidKinds := [.data, .data, .data], laidTests := true, laidLooks := .later }
def OwnerBackUptoCardSaid : Prop := Claim7.holds Tryd.pinned (.plain (OpenSpec.upto ownerBackSpec)) ownerBackUptoCard

/-- THE SECOND FORM's CARD OF 'gaolerlaw05.OwnerJoins'. -/
def ownerJoinsUptoCard : Claim7 := { stood := { row := ownerJoinsUptoRow, standIns := [], harness := (true, "7ab8b0fef4fc87a83b307d618a60a64dea40098feddbd8d7c99c1048f644a71b"), looks := false }, kinds := [], alts := [], laidByText := true, laidKinds := [.data, .data, .data], laidTests := true, laidLooks := .later }
def OwnerJoinsUptoCardSaid : Prop := Claim7.holds Tryd.pinned (.plain (OpenSpec.upto ownerJoinsSpec)) ownerJoinsUptoCard

/-- THE SECOND FORM's CARD OF 'gaolerlaw05.OwnerDigits'. -/
def ownerDigitsUptoCard : Claim7 := { stood := { row := ownerDigitsUptoRow, standIns := [], harness := (true, "7ab8b0fef4fc87a83b307d618a60a64dea40098feddbd8d7c99c1048f644a71b"), looks := false }, kinds := [], alts := [], laidByText := true, laidKinds := [.data, .data, .data], laidTests := true, laidLooks := .later }
def OwnerDigitsUptoCardSaid : Prop := Claim7.holds Tryd.pinned (.plain (OpenSpec.upto ownerDigitsSpec)) ownerDigitsUptoCard
end Rows
end Go.Proofs.YtkbdlmmpeieaeaaDoor
