/-
  NARROWER THAN 'FOR EVERY INPUT', by the rows' own cells (each row's printed sentence says how): ModesShow: laid · ModesRead: laid · ModesOctal: laid · ModesClass: laid · ModesBack: laid · ModesApart: laid.
  DERIVED. THE GIVEN ROWS OF THIS SEAT. 6 by the template 'for every input the law returns true; each argument reads behind the call as it read before'; 0 by the template 'total and deterministic' (their statements: YtnjgecdhgfiilaaDoorTotals.lean).
  GIVEN WITH THE SEED: the statements are not yours to turn. If you find one false, say at which input.
  Laid BY PROGRAM, IN A SANDBOX (cutbox-rows.mjs): the forced cells as the released guide's own fill.sh prints them over the translation da9b7a58a4a8d506… (all of the seat's roots in one cut). By AI agents, Wed Nov 11 2026. No macro, syntax, notation, axiom, sorry.
-/
import Derived.Test.YtnjgecdhgfiilaaDoorChecked
import GoSem.Claim
import GoSem.ClaimJoined
import GoSem.ClaimMapViews
import Derived.JoinedTies
import Derived.KernelRfl
namespace Go.Proofs.YtnjgecdhgfiilaaDoor
/- THE CELL 'sum', in the pinned program and in every row, IS THE sha256 OF THE DUMP (.gsa) THAT YtnjgecdhgfiilaaDoorProg.lean LOADS. Nothing in Lean hashes anything: it is a label: what it is worth is what the hold of that sum in a sandbox is worth. -/
noncomputable def Tryd.pinned : Pinned := { name := "ytnjgecdhgfiilaadoor", sum := "da9b7a58a4a8d506d29edf183552f9eedc3aeb2c53c8c86281ede9aa5cb789b4", checked := Tryd.checked }
namespace Rows
def none {H : Type} : Left H := { results := [], args := [] }

/- WHAT THE LISTED PACKAGE-LEVEL VARIABLES READ AS WHEN THE CALL BEGINS. Each datum BY PROGRAM (the guide's laid-datum.mjs) off the statement by which the dump's own 'gosem.cut.vars' lays the variable. In a bare row this is a premise. The card (YtnjgecdhgfiilaaDoorCards.lean) ties it to the program's text. -/
def laid_gaoler_modes_signs {H : Type} : DataW H := .agg [.lit (.string [45, 120, 83, 115]), .lit (.string [45, 120, 83, 115]), .lit (.string [45, 120, 84, 116])]

/-- 'gaolerlaw01.ModesShow': WHATEVER THE INPUT: true; the input reads as it did. -/
def modesShowSpec : ChangeSpec := { name := "modesShow", fn := fun _ => fun
  | [d1, d2] => { results := [.lit (.bool true)], args := [d1, d2] }
  | _ => none }
def modesShowRow : OpenClaim := { program := "ytnjgecdhgfiilaadoor", sum := "da9b7a58a4a8d506d29edf183552f9eedc3aeb2c53c8c86281ede9aa5cb789b4", func := "gaoler/gaolerlaw01.ModesShow", spec := "modesShow", inPlace := ["internal/bytealg.IndexByteString"], named := ["gaoler/modes.signs"], apart := false, laid := [("gaoler/modes.signs", laid_gaoler_modes_signs)] }
def ModesShowSaid : Prop := modesShowRow.holds Tryd.pinned (OpenSpec.ofChange modesShowSpec)

/-- ITS FALSE NEIGHBOUR: 'it returns false'. Refute it at one input. -/
def modesShowWrong : ChangeSpec := { name := "modesShow", fn := fun _ => fun
  | [d1, d2] => { results := [.lit (.bool false)], args := [d1, d2] }
  | _ => none }
def ModesShowWrongFalsely : Prop := modesShowRow.holds Tryd.pinned (OpenSpec.ofChange modesShowWrong)

/-- 'gaolerlaw01.ModesRead': WHATEVER THE INPUT: true; the input reads as it did. -/
def modesReadSpec : ChangeSpec := { name := "modesRead", fn := fun _ => fun
  | [d] => { results := [.lit (.bool true)], args := [d] }
  | _ => none }
def modesReadRow : OpenClaim := { program := "ytnjgecdhgfiilaadoor", sum := "da9b7a58a4a8d506d29edf183552f9eedc3aeb2c53c8c86281ede9aa5cb789b4", func := "gaoler/gaolerlaw01.ModesRead", spec := "modesRead", inPlace := ["internal/bytealg.IndexByteString"], named := ["gaoler/modes.signs"], apart := false, laid := [("gaoler/modes.signs", laid_gaoler_modes_signs)] }
def ModesReadSaid : Prop := modesReadRow.holds Tryd.pinned (OpenSpec.ofChange modesReadSpec)

/-- ITS FALSE NEIGHBOUR: 'it returns false'. Refute it at one input. -/
def modesReadWrong : ChangeSpec := { name := "modesRead", fn := fun _ => fun
  | [d] => { results := [.lit (.bool false)], args := [d] }
  | _ => none }
def ModesReadWrongFalsely : Prop := modesReadRow.holds Tryd.pinned (OpenSpec.ofChange modesReadWrong)

/-- 'gaolerlaw01.ModesOctal': WHATEVER THE INPUT: true; the input reads as it did. -/
def modesOctalSpec : ChangeSpec := { name := "modesOctal", fn := fun _ => fun
  | [d1, d2] => { results := [.lit (.bool true)], args := [d1, d2] }
  | _ => none }
def modesOctalRow : OpenClaim := { program := "ytnjgecdhgfiilaadoor", sum := "da9b7a58a4a8d506d29edf183552f9eedc3aeb2c53c8c86281ede9aa5cb789b4", func := "gaoler/gaolerlaw01.ModesOctal", spec := "modesOctal", inPlace := ["internal/bytealg.IndexByteString"], named := ["gaoler/modes.signs"], apart := false, laid := [("gaoler/modes.signs", laid_gaoler_modes_signs)] }
def ModesOctalSaid : Prop := modesOctalRow.holds Tryd.pinned (OpenSpec.ofChange modesOctalSpec)

/-- ITS FALSE NEIGHBOUR: 'it returns false'. Refute it at one input. -/
def modesOctalWrong : ChangeSpec := { name := "modesOctal", fn := fun _ => fun
  | [d1, d2] => { results := [.lit (.bool false)], args := [d1, d2] }
  | _ => none }
def ModesOctalWrongFalsely : Prop := modesOctalRow.holds Tryd.pinned (OpenSpec.ofChange modesOctalWrong)

/-- 'gaolerlaw01.ModesClass': WHATEVER THE INPUT: true; the input reads as it did. -/
def modesClassSpec : ChangeSpec := { name := "modesClass", fn := fun _ => fun
  | [d1, d2, d3] => { results := [.lit (.bool true)], args := [d1, d2, d3] }
  | _ => none }
def modesClassRow : OpenClaim := { program := "ytnjgecdhgfiilaadoor", sum := "da9b7a58a4a8d506d29edf183552f9eedc3aeb2c53c8c86281ede9aa5cb789b4", func := "gaoler/gaolerlaw01.ModesClass", spec := "modesClass", inPlace := ["internal/bytealg.IndexByteString"], named := ["gaoler/modes.signs"], apart := false, laid := [("gaoler/modes.signs", laid_gaoler_modes_signs)] }
def ModesClassSaid : Prop := modesClassRow.holds Tryd.pinned (OpenSpec.ofChange modesClassSpec)

/-- ITS FALSE NEIGHBOUR: 'it returns false'. Refute it at one input. -/
def modesClassWrong : ChangeSpec := { name := "modesClass", fn := fun _ => fun
  | [d1, d2, d3] => { results := [.lit (.bool false)], args := [d1, d2, d3] }
  | _ => none }
def ModesClassWrongFalsely : Prop := modesClassRow.holds Tryd.pinned (OpenSpec.ofChange modesClassWrong)

/-- 'gaolerlaw01.ModesBack': WHATEVER THE INPUT: true; the input reads as it did. -/
def modesBackSpec : ChangeSpec := { name := "modesBack", fn := fun _ => fun
  | [d1, d2] => { results := [.lit (.bool true)], args := [d1, d2] }
  | _ => none }
def modesBackRow : OpenClaim := { program := "ytnjgecdhgfiilaadoor", sum := "da9b7a58a4a8d506d29edf183552f9eedc3aeb2c53c8c86281ede9aa5cb789b4", func := "gaoler/gaolerlaw01.ModesBack", spec := "modesBack", inPlace := ["internal/bytealg.IndexByteString"], named := ["gaoler/modes.signs"], apart := false, laid := [("gaoler/modes.signs", laid_gaoler_modes_signs)] }
def ModesBackSaid : Prop := modesBackRow.holds Tryd.pinned (OpenSpec.ofChange modesBackSpec)

/-- ITS FALSE NEIGHBOUR: 'it returns false'. Refute it at one input. -/
def modesBackWrong : ChangeSpec := { name := "modesBack", fn := fun _ => fun
  | [d1, d2] => { results := [.lit (.bool false)], args := [d1, d2] }
  | _ => none }
def ModesBackWrongFalsely : Prop := modesBackRow.holds Tryd.pinned (OpenSpec.ofChange modesBackWrong)

/-- 'gaolerlaw01.ModesApart': WHATEVER THE INPUT: true; the input reads as it did. -/
def modesApartSpec : ChangeSpec := { name := "modesApart", fn := fun _ => fun
  | [d1, d2, d3] => { results := [.lit (.bool true)], args := [d1, d2, d3] }
  | _ => none }
def modesApartRow : OpenClaim := { program := "ytnjgecdhgfiilaadoor", sum := "da9b7a58a4a8d506d29edf183552f9eedc3aeb2c53c8c86281ede9aa5cb789b4", func := "gaoler/gaolerlaw01.ModesApart", spec := "modesApart", inPlace := ["internal/bytealg.IndexByteString"], named := ["gaoler/modes.signs"], apart := false, laid := [("gaoler/modes.signs", laid_gaoler_modes_signs)] }
def ModesApartSaid : Prop := modesApartRow.holds Tryd.pinned (OpenSpec.ofChange modesApartSpec)

/-- ITS FALSE NEIGHBOUR: 'it returns false'. Refute it at one input. -/
def modesApartWrong : ChangeSpec := { name := "modesApart", fn := fun _ => fun
  | [d1, d2, d3] => { results := [.lit (.bool false)], args := [d1, d2, d3] }
  | _ => none }
def ModesApartWrongFalsely : Prop := modesApartRow.holds Tryd.pinned (OpenSpec.ofChange modesApartWrong)

/- THE SECOND FORM. 'bulk': how many values and letters a reading holds, each counted each time it is reached (what is shared counts as often as it is met; a slice's spare places count too). A statement '..UptoSaid' is the law's where the arguments, and the package variables that the reading takes, are together of bulk at most 1048576: NARROWER than '..Said'. Prove '..Said' where nothing that the law and all that it calls make is longer than what came in: it says more and counts as full. Else prove '..UptoSaid'. A law counts once. -/
mutual
def uptoBulk {H : Type} : DataW H → Nat
  | .lit (.string bytes) => bytes.length + 1
  | .lit _ => 1
  | .nil => 1
  | .ptr d => uptoBulk d + 1
  | .slice elems spare => uptoBulkAll elems + uptoBulkAll spare + 1
  | .agg parts => uptoBulkAll parts + 1
  | .iface _ d => uptoBulk d + 1
  | .map entries => uptoBulkEntries entries + 1
  | .held _ => 1
def uptoBulkAll {H : Type} : List (DataW H) → Nat
  | [] => 0
  | d :: r => uptoBulk d + uptoBulkAll r
def uptoBulkEntries {H : Type} : List (Lit × DataW H) → Nat
  | [] => 0
  | x :: r => uptoBulkEntry x + uptoBulkEntries r
def uptoBulkEntry {H : Type} : Lit × DataW H → Nat
  | (.string bytes, d) => bytes.length + uptoBulk d + 1
  | (_, d) => uptoBulk d + 1
 end
def uptoSmall : (H : Type) → List (DataW H) → Bool := fun _ ds => decide (uptoBulkAll ds ≤ 1048576)
def OpenSpec.upto (s : _root_.Go.ChangeSpec) : _root_.Go.OpenSpec := { _root_.Go.OpenSpec.ofChange s with cond := some uptoSmall }

/-- 'gaolerlaw01.ModesShow', WHERE WHAT IT READS IS OF BULK AT MOST 1048576: true; the input reads as it did. -/
def modesShowUptoRow : OpenClaim := { program := "ytnjgecdhgfiilaadoor", sum := "da9b7a58a4a8d506d29edf183552f9eedc3aeb2c53c8c86281ede9aa5cb789b4", func := "gaoler/gaolerlaw01.ModesShow", spec := "modesShow", inPlace := ["internal/bytealg.IndexByteString"], named := ["gaoler/modes.signs"], apart := false, laid := [("gaoler/modes.signs", laid_gaoler_modes_signs)], narrowed := true }
def ModesShowUptoSaid : Prop := modesShowUptoRow.holds Tryd.pinned (OpenSpec.upto modesShowSpec)

/-- 'gaolerlaw01.ModesRead', WHERE WHAT IT READS IS OF BULK AT MOST 1048576: true; the input reads as it did. -/
def modesReadUptoRow : OpenClaim := { program := "ytnjgecdhgfiilaadoor", sum := "da9b7a58a4a8d506d29edf183552f9eedc3aeb2c53c8c86281ede9aa5cb789b4", func := "gaoler/gaolerlaw01.ModesRead", spec := "modesRead", inPlace := ["internal/bytealg.IndexByteString"], named := ["gaoler/modes.signs"], apart := false, laid := [("gaoler/modes.signs", laid_gaoler_modes_signs)], narrowed := true }
def ModesReadUptoSaid : Prop := modesReadUptoRow.holds Tryd.pinned (OpenSpec.upto modesReadSpec)

/-- 'gaolerlaw01.ModesOctal', WHERE WHAT IT READS IS OF BULK AT MOST 1048576: true; the input reads as it did. -/
def modesOctalUptoRow : OpenClaim := { program := "ytnjgecdhgfiilaadoor", sum := "da9b7a58a4a8d506d29edf183552f9eedc3aeb2c53c8c86281ede9aa5cb789b4", func := "gaoler/gaolerlaw01.ModesOctal", spec := "modesOctal", inPlace := ["internal/bytealg.IndexByteString"], named := ["gaoler/modes.signs"], apart := false, laid := [("gaoler/modes.signs", laid_gaoler_modes_signs)], narrowed := true }
def ModesOctalUptoSaid : Prop := modesOctalUptoRow.holds Tryd.pinned (OpenSpec.upto modesOctalSpec)

/-- 'gaolerlaw01.ModesClass', WHERE WHAT IT READS IS OF BULK AT MOST 1048576: true; the input reads as it did. -/
def modesClassUptoRow : OpenClaim := { program := "ytnjgecdhgfiilaadoor", sum := "da9b7a58a4a8d506d29edf183552f9eedc3aeb2c53c8c86281ede9aa5cb789b4", func := "gaoler/gaolerlaw01.ModesClass", spec := "modesClass", inPlace := ["internal/bytealg.IndexByteString"], named := ["gaoler/modes.signs"], apart := false, laid := [("gaoler/modes.signs", laid_gaoler_modes_signs)], narrowed := true }
def ModesClassUptoSaid : Prop := modesClassUptoRow.holds Tryd.pinned (OpenSpec.upto modesClassSpec)

/-- 'gaolerlaw01.ModesBack', WHERE WHAT IT READS IS OF BULK AT MOST 1048576: true; the input reads as it did. -/
def modesBackUptoRow : OpenClaim := { program := "ytnjgecdhgfiilaadoor", sum := "da9b7a58a4a8d506d29edf183552f9eedc3aeb2c53c8c86281ede9aa5cb789b4", func := "gaoler/gaolerlaw01.ModesBack", spec := "modesBack", inPlace := ["internal/bytealg.IndexByteString"], named := ["gaoler/modes.signs"], apart := false, laid := [("gaoler/modes.signs", laid_gaoler_modes_signs)], narrowed := true }
def ModesBackUptoSaid : Prop := modesBackUptoRow.holds Tryd.pinned (OpenSpec.upto modesBackSpec)

/-- 'gaolerlaw01.ModesApart', WHERE WHAT IT READS IS OF BULK AT MOST 1048576: true; the input reads as it did. -/
def modesApartUptoRow : OpenClaim := { program := "ytnjgecdhgfiilaadoor", sum := "da9b7a58a4a8d506d29edf183552f9eedc3aeb2c53c8c86281ede9aa5cb789b4", func := "gaoler/gaolerlaw01.ModesApart", spec := "modesApart", inPlace := ["internal/bytealg.IndexByteString"], named := ["gaoler/modes.signs"], apart := false, laid := [("gaoler/modes.signs", laid_gaoler_modes_signs)], narrowed := true }
def ModesApartUptoSaid : Prop := modesApartUptoRow.holds Tryd.pinned (OpenSpec.upto modesApartSpec)

end Rows
end Go.Proofs.YtnjgecdhgfiilaaDoor
