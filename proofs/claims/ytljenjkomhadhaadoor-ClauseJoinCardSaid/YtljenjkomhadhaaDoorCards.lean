/-
  DERIVED. GIVEN WITH THE SEED: THE CARDS: each row of YtljenjkomhadhaaDoorRows.lean that lists a variable, with what it lists TIED to the program's text (the seventh form; the later family's looks); each row that meets fmt, with fmt's text TOLD by the authors' own Lean function (tested against real Go, not proved from fmt's source: count such statements apart). THE CARD IS WHAT COUNTS. Prove the row's statement (the work); the ties are given (YtljenjkomhadhaaDoorTie.lean); close each card by the builder's one call (the guide's Derived/Test/ToyasCard.lean, 'card_holds'). Laid BY PROGRAM, IN A SANDBOX (cutbox-door.mjs). By AI agents, Wed Nov 11 2026. No macro, syntax, notation, axiom, sorry.
-/
import Derived.Test.YtljenjkomhadhaaDoorRows
import GoSem.ClaimSeven
namespace Go.Proofs.YtljenjkomhadhaaDoor
namespace Rows

/-- THE TIED CARD OF 'gaolerlaw02.ClauseParse'. -/
def clauseParseCard : Claim7 := { stood := { row := clauseParseRow, standIns := [], harness := (true, "eca478b8dfb3a75a24ef62c9c61cba8ed85b9c81fd690b16f68857db8bef3d00"), looks := false }, kinds := [], alts := [], laidByText := true, laidKinds := [.data, .pinned], laidTests := true, laidLooks := .later }
def ClauseParseCardSaid : Prop := Claim7.holds Tryd.pinned (.plain (OpenSpec.ofChange clauseParseSpec)) clauseParseCard

/-- THE TIED CARD OF 'gaolerlaw02.ClauseShow'. -/
def clauseShowCard : Claim7 := { stood := { row := clauseShowRow, standIns := [], harness := (true, "eca478b8dfb3a75a24ef62c9c61cba8ed85b9c81fd690b16f68857db8bef3d00"), looks := false }, kinds := [], alts := [], laidByText := true, laidKinds := [.data, .pinned], laidTests := true, laidLooks := .later }
def ClauseShowCardSaid : Prop := Claim7.holds Tryd.pinned (.plain (OpenSpec.ofChange clauseShowSpec)) clauseShowCard

/-- THE TIED CARD OF 'gaolerlaw02.ClauseBack'. -/
def clauseBackCard : Claim7 := { stood := { row := clauseBackRow, standIns := [], harness := (true, "eca478b8dfb3a75a24ef62c9c61cba8ed85b9c81fd690b16f68857db8bef3d00"), looks := false }, kinds := [], alts := [], laidByText := true, laidKinds := [.data, .pinned], laidTests := true, laidLooks := .later }
def ClauseBackCardSaid : Prop := Claim7.holds Tryd.pinned (.plain (OpenSpec.ofChange clauseBackSpec)) clauseBackCard

/-- THE TIED CARD OF 'gaolerlaw02.ClauseJoin'. -/
def clauseJoinCard : Claim7 := { stood := { row := clauseJoinRow, standIns := [], harness := (true, "eca478b8dfb3a75a24ef62c9c61cba8ed85b9c81fd690b16f68857db8bef3d00"), looks := false }, kinds := [], alts := [], laidByText := true, laidKinds := [.data, .pinned], laidTests := true, laidLooks := .later }
def ClauseJoinCardSaid : Prop := Claim7.holds Tryd.pinned (.plain (OpenSpec.ofChange clauseJoinSpec)) clauseJoinCard

/-- THE TIED CARD OF 'gaolerlaw02.ClauseTurned'. -/
def clauseTurnedCard : Claim7 := { stood := { row := clauseTurnedRow, standIns := [], harness := (true, "eca478b8dfb3a75a24ef62c9c61cba8ed85b9c81fd690b16f68857db8bef3d00"), looks := false }, kinds := [], alts := [], laidByText := true, laidKinds := [.data, .pinned], laidTests := true, laidLooks := .later }
def ClauseTurnedCardSaid : Prop := Claim7.holds Tryd.pinned (.plain (OpenSpec.ofChange clauseTurnedSpec)) clauseTurnedCard

/-- THE SECOND FORM's CARD OF 'gaolerlaw02.ClauseParse'. -/
def clauseParseUptoCard : Claim7 := { stood := { row := clauseParseUptoRow, standIns := [], harness := (true, "eca478b8dfb3a75a24ef62c9c61cba8ed85b9c81fd690b16f68857db8bef3d00"), looks := false }, kinds := [], alts := [], laidByText := true, laidKinds := [.data, .pinned], laidTests := true, laidLooks := .later }
def ClauseParseUptoCardSaid : Prop := Claim7.holds Tryd.pinned (.plain (OpenSpec.upto clauseParseSpec)) clauseParseUptoCard

/-- THE SECOND FORM's CARD OF 'gaolerlaw02.ClauseShow'. -/
def clauseShowUptoCard : Claim7 := { stood := { row := clauseShowUptoRow, standIns := [], harness := (true, "eca478b8dfb3a75a24ef62c9c61cba8ed85b9c81fd690b16f68857db8bef3d00"), looks := false }, kinds := [], alts := [], laidByText := true, laidKinds := [.data, .pinned], laidTests := true, laidLooks := .later }
def ClauseShowUptoCardSaid : Prop := Claim7.holds Tryd.pinned (.plain (OpenSpec.upto clauseShowSpec)) clauseShowUptoCard

/-- THE SECOND FORM's CARD OF 'gaolerlaw02.ClauseBack'. -/
def clauseBackUptoCard : Claim7 := { stood := { row := clauseBackUptoRow, standIns := [], harness := (true, "eca478b8dfb3a75a24ef62c9c61cba8ed85b9c81fd690b16f68857db8bef3d00"), looks := false }, kinds := [], alts := [], laidByText := true, laidKinds := [.data, .pinned], laidTests := true, laidLooks := .later }
def ClauseBackUptoCardSaid : Prop := Claim7.holds Tryd.pinned (.plain (OpenSpec.upto clauseBackSpec)) clauseBackUptoCard

/-- THE SECOND FORM's CARD OF 'gaolerlaw02.ClauseJoin'. -/
def clauseJoinUptoCard : Claim7 := { stood := { row := clauseJoinUptoRow, standIns := [], harness := (true, "eca478b8dfb3a75a24ef62c9c61cba8ed85b9c81fd690b16f68857db8bef3d00"), looks := false }, kinds := [], alts := [], laidByText := true, laidKinds := [.data, .pinned], laidTests := true, laidLooks := .later }
def ClauseJoinUptoCardSaid : Prop := Claim7.holds Tryd.pinned (.plain (OpenSpec.upto clauseJoinSpec)) clauseJoinUptoCard

/-- THE SECOND FORM's CARD OF 'gaolerlaw02.ClauseTurned'. -/
def clauseTurnedUptoCard : Claim7 := { stood := { row := clauseTurnedUptoRow, standIns := [], harness := (true, "eca478b8dfb3a75a24ef62c9c61cba8ed85b9c81fd690b16f68857db8bef3d00"), looks := false }, kinds := [], alts := [], laidByText := true, laidKinds := [.data, .pinned], laidTests := true, laidLooks := .later }
def ClauseTurnedUptoCardSaid : Prop := Claim7.holds Tryd.pinned (.plain (OpenSpec.upto clauseTurnedSpec)) clauseTurnedUptoCard
end Rows
end Go.Proofs.YtljenjkomhadhaaDoor
