/-
  No cell of these rows narrows 'for every input' (looked for: loops, veiled, ifaces, maps, wideKeys, modest, calm, conditions, laid).
  DERIVED. THE GIVEN ROWS OF THIS SEAT. 5 by the template 'for every input the law returns true; each argument reads behind the call as it read before'; 0 by the template 'total and deterministic' (their statements: YthledmbdlengiaaTotals.lean).
  GIVEN WITH THE SEED: the statements are not yours to turn. If you find one false, say at which input.
  Laid BY PROGRAM, IN A SANDBOX (cutbox-rows.mjs): the forced cells as the released guide's own fill.sh prints them over the translation 8c9ea79fb6944587… (all of the seat's roots in one cut). By AI agents, Wed Nov 11 2026. No macro, syntax, notation, axiom, sorry.
-/
import Derived.Test.YthledmbdlengiaaChecked
import GoSem.Claim
import GoSem.ClaimJoined
import GoSem.ClaimMapViews
import Derived.JoinedTies
import Derived.KernelRfl
namespace Go.Proofs.Ythledmbdlengiaa
/- THE CELL 'sum', in the pinned program and in every row, IS THE sha256 OF THE DUMP (.gsa) THAT YthledmbdlengiaaProg.lean LOADS. Nothing in Lean hashes anything: it is a label: what it is worth is what the hold of that sum in a sandbox is worth. -/
noncomputable def Try.pinned : Pinned := { name := "ythledmbdlengiaa", sum := "8c9ea79fb69445874568df4ce476d81d69fb43dea275fe59b9feed6dc243717f", checked := Try.checked }
namespace Rows
def none {H : Type} : Left H := { results := [], args := [] }

/-- 'gaolerlaw07.PathsSplit': WHATEVER THE INPUT: true; the input reads as it did. -/
def pathsSplitSpec : ChangeSpec := { name := "pathsSplit", fn := fun _ => fun
  | [d] => { results := [.lit (.bool true)], args := [d] }
  | _ => none }
def pathsSplitRow : OpenClaim := { program := "ythledmbdlengiaa", sum := "8c9ea79fb69445874568df4ce476d81d69fb43dea275fe59b9feed6dc243717f", func := "gaoler/gaolerlaw07.PathsSplit", spec := "pathsSplit", inPlace := ["internal/bytealg.IndexByteString"], unfollowed := true, recurses := true, apart := false }
def PathsSplitSaid : Prop := pathsSplitRow.holds Try.pinned (OpenSpec.ofChange pathsSplitSpec)

/-- ITS FALSE NEIGHBOUR: 'it returns false'. Refute it at one input. -/
def pathsSplitWrong : ChangeSpec := { name := "pathsSplit", fn := fun _ => fun
  | [d] => { results := [.lit (.bool false)], args := [d] }
  | _ => none }
def PathsSplitWrongFalsely : Prop := pathsSplitRow.holds Try.pinned (OpenSpec.ofChange pathsSplitWrong)

/-- 'gaolerlaw07.PathsParts': WHATEVER THE INPUT: true; the input reads as it did. -/
def pathsPartsSpec : ChangeSpec := { name := "pathsParts", fn := fun _ => fun
  | [d1, d2] => { results := [.lit (.bool true)], args := [d1, d2] }
  | _ => none }
def pathsPartsRow : OpenClaim := { program := "ythledmbdlengiaa", sum := "8c9ea79fb69445874568df4ce476d81d69fb43dea275fe59b9feed6dc243717f", func := "gaoler/gaolerlaw07.PathsParts", spec := "pathsParts", inPlace := ["internal/bytealg.IndexByteString"], unfollowed := true, recurses := true, apart := false }
def PathsPartsSaid : Prop := pathsPartsRow.holds Try.pinned (OpenSpec.ofChange pathsPartsSpec)

/-- ITS FALSE NEIGHBOUR: 'it returns false'. Refute it at one input. -/
def pathsPartsWrong : ChangeSpec := { name := "pathsParts", fn := fun _ => fun
  | [d1, d2] => { results := [.lit (.bool false)], args := [d1, d2] }
  | _ => none }
def PathsPartsWrongFalsely : Prop := pathsPartsRow.holds Try.pinned (OpenSpec.ofChange pathsPartsWrong)

/-- 'gaolerlaw07.PathsJoin': WHATEVER THE INPUT: true; the input reads as it did. -/
def pathsJoinSpec : ChangeSpec := { name := "pathsJoin", fn := fun _ => fun
  | [d1, d2] => { results := [.lit (.bool true)], args := [d1, d2] }
  | _ => none }
def pathsJoinRow : OpenClaim := { program := "ythledmbdlengiaa", sum := "8c9ea79fb69445874568df4ce476d81d69fb43dea275fe59b9feed6dc243717f", func := "gaoler/gaolerlaw07.PathsJoin", spec := "pathsJoin", inPlace := ["internal/bytealg.IndexByteString"], unfollowed := true, recurses := true, apart := false }
def PathsJoinSaid : Prop := pathsJoinRow.holds Try.pinned (OpenSpec.ofChange pathsJoinSpec)

/-- ITS FALSE NEIGHBOUR: 'it returns false'. Refute it at one input. -/
def pathsJoinWrong : ChangeSpec := { name := "pathsJoin", fn := fun _ => fun
  | [d1, d2] => { results := [.lit (.bool false)], args := [d1, d2] }
  | _ => none }
def PathsJoinWrongFalsely : Prop := pathsJoinRow.holds Try.pinned (OpenSpec.ofChange pathsJoinWrong)

/-- 'gaolerlaw07.PathsSlashes': WHATEVER THE INPUT: true; the input reads as it did. -/
def pathsSlashesSpec : ChangeSpec := { name := "pathsSlashes", fn := fun _ => fun
  | [d1, d2, d3] => { results := [.lit (.bool true)], args := [d1, d2, d3] }
  | _ => none }
def pathsSlashesRow : OpenClaim := { program := "ythledmbdlengiaa", sum := "8c9ea79fb69445874568df4ce476d81d69fb43dea275fe59b9feed6dc243717f", func := "gaoler/gaolerlaw07.PathsSlashes", spec := "pathsSlashes", inPlace := ["internal/bytealg.IndexByteString"], unfollowed := true, recurses := true, apart := false }
def PathsSlashesSaid : Prop := pathsSlashesRow.holds Try.pinned (OpenSpec.ofChange pathsSlashesSpec)

/-- ITS FALSE NEIGHBOUR: 'it returns false'. Refute it at one input. -/
def pathsSlashesWrong : ChangeSpec := { name := "pathsSlashes", fn := fun _ => fun
  | [d1, d2, d3] => { results := [.lit (.bool false)], args := [d1, d2, d3] }
  | _ => none }
def PathsSlashesWrongFalsely : Prop := pathsSlashesRow.holds Try.pinned (OpenSpec.ofChange pathsSlashesWrong)

/-- 'gaolerlaw07.PathsSteps': WHATEVER THE INPUT: true; the input reads as it did. -/
def pathsStepsSpec : ChangeSpec := { name := "pathsSteps", fn := fun _ => fun
  | [d] => { results := [.lit (.bool true)], args := [d] }
  | _ => none }
def pathsStepsRow : OpenClaim := { program := "ythledmbdlengiaa", sum := "8c9ea79fb69445874568df4ce476d81d69fb43dea275fe59b9feed6dc243717f", func := "gaoler/gaolerlaw07.PathsSteps", spec := "pathsSteps", inPlace := ["internal/bytealg.IndexByteString"], unfollowed := true, recurses := true, apart := false }
def PathsStepsSaid : Prop := pathsStepsRow.holds Try.pinned (OpenSpec.ofChange pathsStepsSpec)

/-- ITS FALSE NEIGHBOUR: 'it returns false'. Refute it at one input. -/
def pathsStepsWrong : ChangeSpec := { name := "pathsSteps", fn := fun _ => fun
  | [d] => { results := [.lit (.bool false)], args := [d] }
  | _ => none }
def PathsStepsWrongFalsely : Prop := pathsStepsRow.holds Try.pinned (OpenSpec.ofChange pathsStepsWrong)

/- THE SECOND FORM. 'bulk': how many values and letters a reading holds, each counted each time it is reached (what is shared counts as often as it is met; a slice's spare places count too). A statement '..UptoSaid' is the law's where the arguments, and the package variables that the reading takes, are together of bulk at most 1048576: NARROWER than '..Said'. Prove '..Said' where nothing that the law and all that it calls make is longer than what came in: it says more and counts as full. Else prove '..UptoSaid'. A law counts once. -/
mutual
def uptoBulk {H : Type} : DataW H → Nat
  | .lit (.string bytes) => bytes.length + 1
  | .lit _ => 1
  | .nil => 1
  | .ptr d => uptoBulk d + 1
  | .slice elems spare => uptoBulkAll elems + uptoBulkAll spare + 1
  | .agg parts => uptoBulkAll parts + 1
  | .iface _ d => uptoBulk d + 1
  | .map entries => uptoBulkEntries entries + 1
  | .held _ => 1
def uptoBulkAll {H : Type} : List (DataW H) → Nat
  | [] => 0
  | d :: r => uptoBulk d + uptoBulkAll r
def uptoBulkEntries {H : Type} : List (Lit × DataW H) → Nat
  | [] => 0
  | x :: r => uptoBulkEntry x + uptoBulkEntries r
def uptoBulkEntry {H : Type} : Lit × DataW H → Nat
  | (.string bytes, d) => bytes.length + uptoBulk d + 1
  | (_, d) => uptoBulk d + 1
 end
def uptoSmall : (H : Type) → List (DataW H) → Bool := fun _ ds => decide (uptoBulkAll ds ≤ 1048576)
def OpenSpec.upto (s : _root_.Go.ChangeSpec) : _root_.Go.OpenSpec := { _root_.Go.OpenSpec.ofChange s with cond := some uptoSmall }

/-- 'gaolerlaw07.PathsSplit', WHERE WHAT IT READS IS OF BULK AT MOST 1048576: true; the input reads as it did. -/
def pathsSplitUptoRow : OpenClaim := { program := "ythledmbdlengiaa", sum := "8c9ea79fb69445874568df4ce476d81d69fb43dea275fe59b9feed6dc243717f", func := "gaoler/gaolerlaw07.PathsSplit", spec := "pathsSplit", inPlace := ["internal/bytealg.IndexByteString"], unfollowed := true, recurses := true, apart := false, narrowed := true }
def PathsSplitUptoSaid : Prop := pathsSplitUptoRow.holds Try.pinned (OpenSpec.upto pathsSplitSpec)

/-- 'gaolerlaw07.PathsParts', WHERE WHAT IT READS IS OF BULK AT MOST 1048576: true; the input reads as it did. -/
def pathsPartsUptoRow : OpenClaim := { program := "ythledmbdlengiaa", sum := "8c9ea79fb69445874568df4ce476d81d69fb43dea275fe59b9feed6dc243717f", func := "gaoler/gaolerlaw07.PathsParts", spec := "pathsParts", inPlace := ["internal/bytealg.IndexByteString"], unfollowed := true, recurses := true, apart := false, narrowed := true }
def PathsPartsUptoSaid : Prop := pathsPartsUptoRow.holds Try.pinned (OpenSpec.upto pathsPartsSpec)

/-- 'gaolerlaw07.PathsJoin', WHERE WHAT IT READS IS OF BULK AT MOST 1048576: true; the input reads as it did. -/
def pathsJoinUptoRow : OpenClaim := { program := "ythledmbdlengiaa", sum := "8c9ea79fb69445874568df4ce476d81d69fb43dea275fe59b9feed6dc243717f", func := "gaoler/gaolerlaw07.PathsJoin", spec := "pathsJoin", inPlace := ["internal/bytealg.IndexByteString"], unfollowed := true, recurses := true, apart := false, narrowed := true }
def PathsJoinUptoSaid : Prop := pathsJoinUptoRow.holds Try.pinned (OpenSpec.upto pathsJoinSpec)

/-- 'gaolerlaw07.PathsSlashes', WHERE WHAT IT READS IS OF BULK AT MOST 1048576: true; the input reads as it did. -/
def pathsSlashesUptoRow : OpenClaim := { program := "ythledmbdlengiaa", sum := "8c9ea79fb69445874568df4ce476d81d69fb43dea275fe59b9feed6dc243717f", func := "gaoler/gaolerlaw07.PathsSlashes", spec := "pathsSlashes", inPlace := ["internal/bytealg.IndexByteString"], unfollowed := true, recurses := true, apart := false, narrowed := true }
def PathsSlashesUptoSaid : Prop := pathsSlashesUptoRow.holds Try.pinned (OpenSpec.upto pathsSlashesSpec)

/-- 'gaolerlaw07.PathsSteps', WHERE WHAT IT READS IS OF BULK AT MOST 1048576: true; the input reads as it did. -/
def pathsStepsUptoRow : OpenClaim := { program := "ythledmbdlengiaa", sum := "8c9ea79fb69445874568df4ce476d81d69fb43dea275fe59b9feed6dc243717f", func := "gaoler/gaolerlaw07.PathsSteps", spec := "pathsSteps", inPlace := ["internal/bytealg.IndexByteString"], unfollowed := true, recurses := true, apart := false, narrowed := true }
def PathsStepsUptoSaid : Prop := pathsStepsUptoRow.holds Try.pinned (OpenSpec.upto pathsStepsSpec)

end Rows
end Go.Proofs.Ythledmbdlengiaa
