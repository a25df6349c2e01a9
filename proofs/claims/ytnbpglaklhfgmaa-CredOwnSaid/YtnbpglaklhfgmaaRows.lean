/-
  No cell of these rows narrows 'for every input' (looked for: loops, veiled, ifaces, maps, wideKeys, modest, calm, conditions, laid).
  DERIVED. THE GIVEN ROWS OF THIS SEAT. 6 by the template 'for every input the law returns true; each argument reads behind the call as it read before'; 0 by the template 'total and deterministic' (their statements: YtnbpglaklhfgmaaTotals.lean).
  GIVEN WITH THE SEED: the statements are not yours to turn. If you find one false, say at which input.
  Laid BY PROGRAM, IN A SANDBOX (cutbox-rows.mjs): the forced cells as the released guide's own fill.sh prints them over the translation 19dab6c371c5b2b1… (all of the seat's roots in one cut). By AI agents, Wed Nov 11 2026. No macro, syntax, notation, axiom, sorry.
-/
import Derived.Test.YtnbpglaklhfgmaaChecked
import GoSem.Claim
import GoSem.ClaimJoined
import GoSem.ClaimMapViews
import Derived.JoinedTies
import Derived.KernelRfl
namespace Go.Proofs.Ytnbpglaklhfgmaa
/- THE CELL 'sum', in the pinned program and in every row, IS THE sha256 OF THE DUMP (.gsa) THAT YtnbpglaklhfgmaaProg.lean LOADS. Nothing in Lean hashes anything: it is a label: what it is worth is what the hold of that sum in a sandbox is worth. -/
noncomputable def Try.pinned : Pinned := { name := "ytnbpglaklhfgmaa", sum := "19dab6c371c5b2b16cdfba9ef51ba1933f07c23ca36a68ba7f016cdce4b9798f", checked := Try.checked }
namespace Rows
def none {H : Type} : Left H := { results := [], args := [] }

/-- 'gaolerlaw04.CredCan': WHATEVER THE INPUT: true; the input reads as it did. -/
def credCanSpec : ChangeSpec := { name := "credCan", fn := fun _ => fun
  | [d1, d2, d3, d4, d5] => { results := [.lit (.bool true)], args := [d1, d2, d3, d4, d5] }
  | _ => none }
def credCanRow : OpenClaim := { program := "ytnbpglaklhfgmaa", sum := "19dab6c371c5b2b16cdfba9ef51ba1933f07c23ca36a68ba7f016cdce4b9798f", func := "gaoler/gaolerlaw04.CredCan", spec := "credCan", apart := false }
def CredCanSaid : Prop := credCanRow.holds Try.pinned (OpenSpec.ofChange credCanSpec)

/-- ITS FALSE NEIGHBOUR: 'it returns false'. Refute it at one input. -/
def credCanWrong : ChangeSpec := { name := "credCan", fn := fun _ => fun
  | [d1, d2, d3, d4, d5] => { results := [.lit (.bool false)], args := [d1, d2, d3, d4, d5] }
  | _ => none }
def CredCanWrongFalsely : Prop := credCanRow.holds Try.pinned (OpenSpec.ofChange credCanWrong)

/-- 'gaolerlaw04.CredOwn': WHATEVER THE INPUT: true; the input reads as it did. -/
def credOwnSpec : ChangeSpec := { name := "credOwn", fn := fun _ => fun
  | [d1, d2, d3, d4, d5, d6] => { results := [.lit (.bool true)], args := [d1, d2, d3, d4, d5, d6] }
  | _ => none }
def credOwnRow : OpenClaim := { program := "ytnbpglaklhfgmaa", sum := "19dab6c371c5b2b16cdfba9ef51ba1933f07c23ca36a68ba7f016cdce4b9798f", func := "gaoler/gaolerlaw04.CredOwn", spec := "credOwn", apart := false }
def CredOwnSaid : Prop := credOwnRow.holds Try.pinned (OpenSpec.ofChange credOwnSpec)

/-- ITS FALSE NEIGHBOUR: 'it returns false'. Refute it at one input. -/
def credOwnWrong : ChangeSpec := { name := "credOwn", fn := fun _ => fun
  | [d1, d2, d3, d4, d5, d6] => { results := [.lit (.bool false)], args := [d1, d2, d3, d4, d5, d6] }
  | _ => none }
def CredOwnWrongFalsely : Prop := credOwnRow.holds Try.pinned (OpenSpec.ofChange credOwnWrong)

/-- 'gaolerlaw04.CredModes': WHATEVER THE INPUT: true; the input reads as it did. -/
def credModesSpec : ChangeSpec := { name := "credModes", fn := fun _ => fun
  | [d1, d2, d3, d4] => { results := [.lit (.bool true)], args := [d1, d2, d3, d4] }
  | _ => none }
def credModesRow : OpenClaim := { program := "ytnbpglaklhfgmaa", sum := "19dab6c371c5b2b16cdfba9ef51ba1933f07c23ca36a68ba7f016cdce4b9798f", func := "gaoler/gaolerlaw04.CredModes", spec := "credModes", unfollowed := true, recurses := true, apart := false }
def CredModesSaid : Prop := credModesRow.holds Try.pinned (OpenSpec.ofChange credModesSpec)

/-- ITS FALSE NEIGHBOUR: 'it returns false'. Refute it at one input. -/
def credModesWrong : ChangeSpec := { name := "credModes", fn := fun _ => fun
  | [d1, d2, d3, d4] => { results := [.lit (.bool false)], args := [d1, d2, d3, d4] }
  | _ => none }
def CredModesWrongFalsely : Prop := credModesRow.holds Try.pinned (OpenSpec.ofChange credModesWrong)

/-- 'gaolerlaw04.CredApart': WHATEVER THE INPUT: true; the input reads as it did. -/
def credApartSpec : ChangeSpec := { name := "credApart", fn := fun _ => fun
  | [d1, d2, d3, d4, d5, d6] => { results := [.lit (.bool true)], args := [d1, d2, d3, d4, d5, d6] }
  | _ => none }
def credApartRow : OpenClaim := { program := "ytnbpglaklhfgmaa", sum := "19dab6c371c5b2b16cdfba9ef51ba1933f07c23ca36a68ba7f016cdce4b9798f", func := "gaoler/gaolerlaw04.CredApart", spec := "credApart", apart := false }
def CredApartSaid : Prop := credApartRow.holds Try.pinned (OpenSpec.ofChange credApartSpec)

/-- ITS FALSE NEIGHBOUR: 'it returns false'. Refute it at one input. -/
def credApartWrong : ChangeSpec := { name := "credApart", fn := fun _ => fun
  | [d1, d2, d3, d4, d5, d6] => { results := [.lit (.bool false)], args := [d1, d2, d3, d4, d5, d6] }
  | _ => none }
def CredApartWrongFalsely : Prop := credApartRow.holds Try.pinned (OpenSpec.ofChange credApartWrong)

/-- 'gaolerlaw04.CredRoot': WHATEVER THE INPUT: true; the input reads as it did. -/
def credRootSpec : ChangeSpec := { name := "credRoot", fn := fun _ => fun
  | [d1, d2, d3, d4, d5, d6, d7] => { results := [.lit (.bool true)], args := [d1, d2, d3, d4, d5, d6, d7] }
  | _ => none }
def credRootRow : OpenClaim := { program := "ytnbpglaklhfgmaa", sum := "19dab6c371c5b2b16cdfba9ef51ba1933f07c23ca36a68ba7f016cdce4b9798f", func := "gaoler/gaolerlaw04.CredRoot", spec := "credRoot", unfollowed := true, recurses := true, apart := false }
def CredRootSaid : Prop := credRootRow.holds Try.pinned (OpenSpec.ofChange credRootSpec)

/-- ITS FALSE NEIGHBOUR: 'it returns false'. Refute it at one input. -/
def credRootWrong : ChangeSpec := { name := "credRoot", fn := fun _ => fun
  | [d1, d2, d3, d4, d5, d6, d7] => { results := [.lit (.bool false)], args := [d1, d2, d3, d4, d5, d6, d7] }
  | _ => none }
def CredRootWrongFalsely : Prop := credRootRow.holds Try.pinned (OpenSpec.ofChange credRootWrong)

/-- 'gaolerlaw04.CredGives': WHATEVER THE INPUT: true; the input reads as it did. -/
def credGivesSpec : ChangeSpec := { name := "credGives", fn := fun _ => fun
  | [d1, d2, d3, d4, d5, d6] => { results := [.lit (.bool true)], args := [d1, d2, d3, d4, d5, d6] }
  | _ => none }
def credGivesRow : OpenClaim := { program := "ytnbpglaklhfgmaa", sum := "19dab6c371c5b2b16cdfba9ef51ba1933f07c23ca36a68ba7f016cdce4b9798f", func := "gaoler/gaolerlaw04.CredGives", spec := "credGives", unfollowed := true, recurses := true, apart := false }
def CredGivesSaid : Prop := credGivesRow.holds Try.pinned (OpenSpec.ofChange credGivesSpec)

/-- ITS FALSE NEIGHBOUR: 'it returns false'. Refute it at one input. -/
def credGivesWrong : ChangeSpec := { name := "credGives", fn := fun _ => fun
  | [d1, d2, d3, d4, d5, d6] => { results := [.lit (.bool false)], args := [d1, d2, d3, d4, d5, d6] }
  | _ => none }
def CredGivesWrongFalsely : Prop := credGivesRow.holds Try.pinned (OpenSpec.ofChange credGivesWrong)

/- THE SECOND FORM. 'bulk': how many values and letters a reading holds, each counted each time it is reached (what is shared counts as often as it is met; a slice's spare places count too). A statement '..UptoSaid' is the law's where the arguments, and the package variables that the reading takes, are together of bulk at most 1048576: NARROWER than '..Said'. Prove '..Said' where nothing that the law and all that it calls make is longer than what came in: it says more and counts as full. Else prove '..UptoSaid'. A law counts once. -/
mutual
def uptoBulk {H : Type} : DataW H → Nat
  | .lit (.string bytes) => bytes.length + 1
  | .lit _ => 1
  | .nil => 1
  | .ptr d => uptoBulk d + 1
  | .slice elems spare => uptoBulkAll elems + uptoBulkAll spare + 1
  | .agg parts => uptoBulkAll parts + 1
  | .iface _ d => uptoBulk d + 1
  | .map entries => uptoBulkEntries entries + 1
  | .held _ => 1
def uptoBulkAll {H : Type} : List (DataW H) → Nat
  | [] => 0
  | d :: r => uptoBulk d + uptoBulkAll r
def uptoBulkEntries {H : Type} : List (Lit × DataW H) → Nat
  | [] => 0
  | x :: r => uptoBulkEntry x + uptoBulkEntries r
def uptoBulkEntry {H : Type} : Lit × DataW H → Nat
  | (.string bytes, d) => bytes.length + uptoBulk d + 1
  | (_, d) => uptoBulk d + 1
 end
def uptoSmall : (H : Type) → List (DataW H) → Bool := fun _ ds => decide (uptoBulkAll ds ≤ 1048576)
def OpenSpec.upto (s : _root_.Go.ChangeSpec) : _root_.Go.OpenSpec := { _root_.Go.OpenSpec.ofChange s with cond := some uptoSmall }

/-- 'gaolerlaw04.CredCan', WHERE WHAT IT READS IS OF BULK AT MOST 1048576: true; the input reads as it did. -/
def credCanUptoRow : OpenClaim := { program := "ytnbpglaklhfgmaa", sum := "19dab6c371c5b2b16cdfba9ef51ba1933f07c23ca36a68ba7f016cdce4b9798f", func := "gaoler/gaolerlaw04.CredCan", spec := "credCan", apart := false, narrowed := true }
def CredCanUptoSaid : Prop := credCanUptoRow.holds Try.pinned (OpenSpec.upto credCanSpec)

/-- 'gaolerlaw04.CredOwn', WHERE WHAT IT READS IS OF BULK AT MOST 1048576: true; the input reads as it did. -/
def credOwnUptoRow : OpenClaim := { program := "ytnbpglaklhfgmaa", sum := "19dab6c371c5b2b16cdfba9ef51ba1933f07c23ca36a68ba7f016cdce4b9798f", func := "gaoler/gaolerlaw04.CredOwn", spec := "credOwn", apart := false, narrowed := true }
def CredOwnUptoSaid : Prop := credOwnUptoRow.holds Try.pinned (OpenSpec.upto credOwnSpec)

/-- 'gaolerlaw04.CredModes', WHERE WHAT IT READS IS OF BULK AT MOST 1048576: true; the input reads as it did. -/
def credModesUptoRow : OpenClaim := { program := "ytnbpglaklhfgmaa", sum := "19dab6c371c5b2b16cdfba9ef51ba1933f07c23ca36a68ba7f016cdce4b9798f", func := "gaoler/gaolerlaw04.CredModes", spec := "credModes", unfollowed := true, recurses := true, apart := false, narrowed := true }
def CredModesUptoSaid : Prop := credModesUptoRow.holds Try.pinned (OpenSpec.upto credModesSpec)

/-- 'gaolerlaw04.CredApart', WHERE WHAT IT READS IS OF BULK AT MOST 1048576: true; the input reads as it did. -/
def credApartUptoRow : OpenClaim := { program := "ytnbpglaklhfgmaa", sum := "19dab6c371c5b2b16cdfba9ef51ba1933f07c23ca36a68ba7f016cdce4b9798f", func := "gaoler/gaolerlaw04.CredApart", spec := "credApart", apart := false, narrowed := true }
def CredApartUptoSaid : Prop := credApartUptoRow.holds Try.pinned (OpenSpec.upto credApartSpec)

/-- 'gaolerlaw04.CredRoot', WHERE WHAT IT READS IS OF BULK AT MOST 1048576: true; the input reads as it did. -/
def credRootUptoRow : OpenClaim := { program := "ytnbpglaklhfgmaa", sum := "19dab6c371c5b2b16cdfba9ef51ba1933f07c23ca36a68ba7f016cdce4b9798f", func := "gaoler/gaolerlaw04.CredRoot", spec := "credRoot", unfollowed := true, recurses := true, apart := false, narrowed := true }
def CredRootUptoSaid : Prop := credRootUptoRow.holds Try.pinned (OpenSpec.upto credRootSpec)

/-- 'gaolerlaw04.CredGives', WHERE WHAT IT READS IS OF BULK AT MOST 1048576: true; the input reads as it did. -/
def credGivesUptoRow : OpenClaim := { program := "ytnbpglaklhfgmaa", sum := "19dab6c371c5b2b16cdfba9ef51ba1933f07c23ca36a68ba7f016cdce4b9798f", func := "gaoler/gaolerlaw04.CredGives", spec := "credGives", unfollowed := true, recurses := true, apart := false, narrowed := true }
def CredGivesUptoSaid : Prop := credGivesUptoRow.holds Try.pinned (OpenSpec.upto credGivesSpec)

end Rows
end Go.Proofs.Ytnbpglaklhfgmaa
