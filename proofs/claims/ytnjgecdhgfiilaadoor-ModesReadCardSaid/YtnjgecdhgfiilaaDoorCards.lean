/-
  DERIVED. GIVEN WITH THE SEED: THE CARDS: each row of YtnjgecdhgfiilaaDoorRows.lean that lists a variable, with what it lists TIED to the program's text (the seventh form; the later family's looks); each row that meets fmt, with fmt's text TOLD by the authors' own Lean function (tested against real Go, not proved from fmt's source: count such statements apart). THE CARD IS WHAT COUNTS. Prove the row's statement (the work); the ties are given (YtnjgecdhgfiilaaDoorTie.lean); close each card by the builder's one call (the guide's Derived/Test/ToyasCard.lean, 'card_holds'). Laid BY PROGRAM, IN A SANDBOX (cutbox-door.mjs). By AI agents, Wed Nov 11 2026. No macro, syntax, notation, axiom, sorry.
-/
import Derived.Test.YtnjgecdhgfiilaaDoorRows
import GoSem.ClaimSeven
namespace Go.Proofs.YtnjgecdhgfiilaaDoor
namespace Rows

/-- THE TIED CARD OF 'gaolerlaw01.ModesShow'. -/
def modesShowCard : Claim7 := { stood := { row := modesShowRow, standIns := [], harness := (true, "44e0e11bea56da037aaa2a01f9d02e38ef784370877f81de6c3cef3783b9f7c6"), looks := false }, kinds := [], alts := [], laidByText := true, laidKinds := [.data], laidTests := true, laidLooks := .later }
def ModesShowCardSaid : Prop := Claim7.holds Tryd.pinned (.plain (OpenSpec.ofChange modesShowSpec)) modesShowCard

/-- THE TIED CARD OF 'gaolerlaw01.ModesRead'. -/
def modesReadCard : Claim7 := { stood := { row := modesReadRow, standIns := [], harness := (true, "44e0e11bea56da037aaa2a01f9d02e38ef784370877f81de6c3cef3783b9f7c6"), looks := false }, kinds := [], alts := [], laidByText := true, laidKinds := [.data], laidTests := true, laidLooks := .later }
def ModesReadCardSaid : Prop := Claim7.holds Tryd.pinned (.plain (OpenSpec.ofChange modesReadSpec)) modesReadCard

/-- THE TIED CARD OF 'gaolerlaw01.ModesOctal'. -/
def modesOctalCard : Claim7 := { stood := { row := modesOctalRow, standIns := [], harness := (true, "44e0e11bea56da037aaa2a01f9d02e38ef784370877f81de6c3cef3783b9f7c6"), looks := false }, kinds := [], alts := [], laidByText := true, laidKinds := [.data], laidTests := true, laidLooks := .later }
def ModesOctalCardSaid : Prop := Claim7.holds Tryd.pinned (.plain (OpenSpec.ofChange modesOctalSpec)) modesOctalCard

/-- THE TIED CARD OF 'gaolerlaw01.ModesClass'. -/
def modesClassCard : Claim7 := { stood := { row := modesClassRow, standIns := [], harness := (true, "44e0e11bea56da037aaa2a01f9d02e38ef784370877f81de6c3cef3783b9f7c6"), looks := false }, kinds := [], alts := [], laidByText := true, laidKinds := [.data], laidTests := true, laidLooks := .later }
def ModesClassCardSaid : Prop := Claim7.holds Tryd.pinned (.plain (OpenSpec.ofChange modesClassSpec)) modesClassCard

/-- THE TIED CARD OF 'gaolerlaw01.ModesBack'. -/
def modesBackCard : Claim7 := { stood := { row := modesBackRow, standIns := [], harness := (true, "44e0e11bea56da037aaa2a01f9d02e38ef784370877f81de6c3cef3783b9f7c6"), looks := false }, kinds := [], alts := [], laidByText := true, laidKinds := [.data], laidTests := true, laidLooks := .later }
def ModesBackCardSaid : Prop := Claim7.holds Tryd.pinned (.plain (OpenSpec.ofChange modesBackSpec)) modesBackCard

/-- THE TIED CARD OF 'gaolerlaw01.ModesApart'. -/
def modesApartCard : Claim7 := { stood := { row := modesApartRow, standIns := [], harness := (true, "44e0e11bea56da037aaa2a01f9d02e38ef784370877f81de6c3cef3783b9f7c6"), looks := false }, kinds := [], alts := [], laidByText := true, laidKinds := [.data], laidTests := true, laidLooks := .later }
def ModesApartCardSaid : Prop := Claim7.holds Tryd.pinned (.plain (OpenSpec.ofChange modesApartSpec)) modesApartCard

/-- THE SECOND FORM's CARD OF 'gaolerlaw01.ModesShow'. -/
def modesShowUptoCard : Claim7 := { stood := { row := modesShowUptoRow, standIns := [], harness := (true, "44e0e11bea56da037aaa2a01f9d02e38ef784370877f81de6c3cef3783b9f7c6"), looks := false }, kinds := [], alts := [], laidByText := true, laidKinds := [.data], laidTests := true, laidLooks := .later }
def ModesShowUptoCardSaid : Prop := Claim7.holds Tryd.pinned (.plain (OpenSpec.upto modesShowSpec)) modesShowUptoCard

/-- THE SECOND FORM's CARD OF 'gaolerlaw01.ModesRead'. -/
def modesReadUptoCard : Claim7 := { stood := { row := modesReadUptoRow, standIns := [], harness := (true, "44e0e11bea56da037aaa2a01f9d02e38ef784370877f81de6c3cef3783b9f7c6"), looks := false }, kinds := [], alts := [], laidByText := true, laidKinds := [.data], laidTests := true, laidLooks := .later }
def ModesReadUptoCardSaid : Prop := Claim7.holds Tryd.pinned (.plain (OpenSpec.upto modesReadSpec)) modesReadUptoCard

/-- THE SECOND FORM's CARD OF 'gaolerlaw01.ModesOctal'. -/
def modesOctalUptoCard : Claim7 := { stood := { row := modesOctalUptoRow, standIns := [], harness := (true, "44e0e11bea56da037aaa2a01f9d02e38ef784370877f81de6c3cef3783b9f7c6"), looks := false }, kinds := [], alts := [], laidByText := true, laidKinds := [.data], laidTests := true, laidLooks := .later }
def ModesOctalUptoCardSaid : Prop := Claim7.holds Tryd.pinned (.plain (OpenSpec.upto modesOctalSpec)) modesOctalUptoCard

/-- THE SECOND FORM's CARD OF 'gaolerlaw01.ModesClass'. -/
def modesClassUptoCard : Claim7 := { stood := { row := modesClassUptoRow, standIns := [], harness := (true, "44e0e11bea56da037aaa2a01f9d02e38ef784370877f81de6c3cef3783b9f7c6"), looks := false }, kinds := [], alts := [], laidByText := true, laidKinds := [.data], laidTests := true, laidLooks := .later }
def ModesClassUptoCardSaid : Prop := Claim7.holds Tryd.pinned (.plain (OpenSpec.upto modesClassSpec)) modesClassUptoCard

/-- THE SECOND FORM's CARD OF 'gaolerlaw01.ModesBack'. -/
def modesBackUptoCard : Claim7 := { stood := { row := modesBackUptoRow, standIns := [], harness := (true, "44e0e11bea56da037aaa2a01f9d02e38ef784370877f81de6c3cef3783b9f7c6"), looks := false }, kinds := [], alts := [], laidByText := true, laidKinds := [.data], laidTests := true, laidLooks := .later }
def ModesBackUptoCardSaid : Prop := Claim7.holds Tryd.pinned (.plain (OpenSpec.upto modesBackSpec)) modesBackUptoCard

/-- THE SECOND FORM's CARD OF 'gaolerlaw01.ModesApart'. -/
def modesApartUptoCard : Claim7 := { stood := { row := modesApartUptoRow, standIns := [], harness := (true, "44e0e11bea56da037aaa2a01f9d02e38ef784370877f81de6c3cef3783b9f7c6"), looks := false }, kinds := [], alts := [], laidByText := true, laidKinds := [.data], laidTests := true, laidLooks := .later }
def ModesApartUptoCardSaid : Prop := Claim7.holds Tryd.pinned (.plain (OpenSpec.upto modesApartSpec)) modesApartUptoCard
end Rows
end Go.Proofs.YtnjgecdhgfiilaaDoor
