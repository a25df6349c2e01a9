/-
  No cell of these rows narrows 'for every input' (looked for: loops, veiled, ifaces, maps, wideKeys, modest, calm, conditions, laid).
  DERIVED. THE GIVEN ROWS OF THIS SEAT. 10 by the template 'for every input the law returns true; each argument reads behind the call as it read before'; 0 by the template 'total and deterministic' (their statements: YtehaohaphlmndaaTotals.lean).
  GIVEN WITH THE SEED: the statements are not yours to turn. If you find one false, say at which input.
  Laid BY PROGRAM, IN A SANDBOX (cutbox-rows.mjs): the forced cells as the released guide's own fill.sh prints them over the translation e7f83cd046ca229c… (all of the seat's roots in one cut). By AI agents, Wed Nov 11 2026. No macro, syntax, notation, axiom, sorry.
-/
import Derived.Test.YtehaohaphlmndaaChecked
import GoSem.Claim
import GoSem.ClaimJoined
import GoSem.ClaimMapViews
import Derived.JoinedTies
import Derived.KernelRfl
namespace Go.Proofs.Ytehaohaphlmndaa
/- THE CELL 'sum', in the pinned program and in every row, IS THE sha256 OF THE DUMP (.gsa) THAT YtehaohaphlmndaaProg.lean LOADS. Nothing in Lean hashes anything: it is a label: what it is worth is what the hold of that sum in a sandbox is worth. -/
noncomputable def Try.pinned : Pinned := { name := "ytehaohaphlmndaa", sum := "e7f83cd046ca229c0d7897c8c32ef5f8ca20a50a415d3da98cdceae549a89282", checked := Try.checked }
namespace Rows
def none {H : Type} : Left H := { results := [], args := [] }

/-- 'gaolerlaw09.TablePlays': WHATEVER THE INPUT: true; the input reads as it did. -/
def tablePlaysSpec : ChangeSpec := { name := "tablePlays", fn := fun _ => fun
  | [d1, d2] => { results := [.lit (.bool true)], args := [d1, d2] }
  | _ => none }
def tablePlaysRow : OpenClaim := { program := "ytehaohaphlmndaa", sum := "e7f83cd046ca229c0d7897c8c32ef5f8ca20a50a415d3da98cdceae549a89282", func := "gaoler/gaolerlaw09.TablePlays", spec := "tablePlays", inPlace := ["internal/bytealg.IndexByteString"], apart := false }
def TablePlaysSaid : Prop := tablePlaysRow.holds Try.pinned (OpenSpec.ofChange tablePlaysSpec)

/-- ITS FALSE NEIGHBOUR: 'it returns false'. Refute it at one input. -/
def tablePlaysWrong : ChangeSpec := { name := "tablePlays", fn := fun _ => fun
  | [d1, d2] => { results := [.lit (.bool false)], args := [d1, d2] }
  | _ => none }
def TablePlaysWrongFalsely : Prop := tablePlaysRow.holds Try.pinned (OpenSpec.ofChange tablePlaysWrong)

/-- 'gaolerlaw09.TableRight': WHATEVER THE INPUT: true; the input reads as it did. -/
def tableRightSpec : ChangeSpec := { name := "tableRight", fn := fun _ => fun
  | [d1, d2, d3] => { results := [.lit (.bool true)], args := [d1, d2, d3] }
  | _ => none }
def tableRightRow : OpenClaim := { program := "ytehaohaphlmndaa", sum := "e7f83cd046ca229c0d7897c8c32ef5f8ca20a50a415d3da98cdceae549a89282", func := "gaoler/gaolerlaw09.TableRight", spec := "tableRight", inPlace := ["internal/bytealg.IndexByteString"], apart := false }
def TableRightSaid : Prop := tableRightRow.holds Try.pinned (OpenSpec.ofChange tableRightSpec)

/-- ITS FALSE NEIGHBOUR: 'it returns false'. Refute it at one input. -/
def tableRightWrong : ChangeSpec := { name := "tableRight", fn := fun _ => fun
  | [d1, d2, d3] => { results := [.lit (.bool false)], args := [d1, d2, d3] }
  | _ => none }
def TableRightWrongFalsely : Prop := tableRightRow.holds Try.pinned (OpenSpec.ofChange tableRightWrong)

/-- 'gaolerlaw09.TableApart': WHATEVER THE INPUT: true; the input reads as it did. -/
def tableApartSpec : ChangeSpec := { name := "tableApart", fn := fun _ => fun
  | [d1, d2, d3] => { results := [.lit (.bool true)], args := [d1, d2, d3] }
  | _ => none }
def tableApartRow : OpenClaim := { program := "ytehaohaphlmndaa", sum := "e7f83cd046ca229c0d7897c8c32ef5f8ca20a50a415d3da98cdceae549a89282", func := "gaoler/gaolerlaw09.TableApart", spec := "tableApart", inPlace := ["internal/bytealg.IndexByteString"], apart := false }
def TableApartSaid : Prop := tableApartRow.holds Try.pinned (OpenSpec.ofChange tableApartSpec)

/-- ITS FALSE NEIGHBOUR: 'it returns false'. Refute it at one input. -/
def tableApartWrong : ChangeSpec := { name := "tableApart", fn := fun _ => fun
  | [d1, d2, d3] => { results := [.lit (.bool false)], args := [d1, d2, d3] }
  | _ => none }
def TableApartWrongFalsely : Prop := tableApartRow.holds Try.pinned (OpenSpec.ofChange tableApartWrong)

/-- 'gaolerlaw09.TableLeast': WHATEVER THE INPUT: true; the input reads as it did. -/
def tableLeastSpec : ChangeSpec := { name := "tableLeast", fn := fun _ => fun
  | [d1, d2] => { results := [.lit (.bool true)], args := [d1, d2] }
  | _ => none }
def tableLeastRow : OpenClaim := { program := "ytehaohaphlmndaa", sum := "e7f83cd046ca229c0d7897c8c32ef5f8ca20a50a415d3da98cdceae549a89282", func := "gaoler/gaolerlaw09.TableLeast", spec := "tableLeast", inPlace := ["internal/bytealg.IndexByteString"], apart := false }
def TableLeastSaid : Prop := tableLeastRow.holds Try.pinned (OpenSpec.ofChange tableLeastSpec)

/-- ITS FALSE NEIGHBOUR: 'it returns false'. Refute it at one input. -/
def tableLeastWrong : ChangeSpec := { name := "tableLeast", fn := fun _ => fun
  | [d1, d2] => { results := [.lit (.bool false)], args := [d1, d2] }
  | _ => none }
def TableLeastWrongFalsely : Prop := tableLeastRow.holds Try.pinned (OpenSpec.ofChange tableLeastWrong)

/-- 'gaolerlaw09.TableCounts': WHATEVER THE INPUT: true; the input reads as it did. -/
def tableCountsSpec : ChangeSpec := { name := "tableCounts", fn := fun _ => fun
  | [d] => { results := [.lit (.bool true)], args := [d] }
  | _ => none }
def tableCountsRow : OpenClaim := { program := "ytehaohaphlmndaa", sum := "e7f83cd046ca229c0d7897c8c32ef5f8ca20a50a415d3da98cdceae549a89282", func := "gaoler/gaolerlaw09.TableCounts", spec := "tableCounts", inPlace := ["internal/bytealg.IndexByteString"], apart := false }
def TableCountsSaid : Prop := tableCountsRow.holds Try.pinned (OpenSpec.ofChange tableCountsSpec)

/-- ITS FALSE NEIGHBOUR: 'it returns false'. Refute it at one input. -/
def tableCountsWrong : ChangeSpec := { name := "tableCounts", fn := fun _ => fun
  | [d] => { results := [.lit (.bool false)], args := [d] }
  | _ => none }
def TableCountsWrongFalsely : Prop := tableCountsRow.holds Try.pinned (OpenSpec.ofChange tableCountsWrong)

/-- 'gaolerlaw10.BuildTrees': WHATEVER THE INPUT: true; the input reads as it did. -/
def buildTreesSpec : ChangeSpec := { name := "buildTrees", fn := fun _ => fun
  | [d1, d2] => { results := [.lit (.bool true)], args := [d1, d2] }
  | _ => none }
def buildTreesRow : OpenClaim := { program := "ytehaohaphlmndaa", sum := "e7f83cd046ca229c0d7897c8c32ef5f8ca20a50a415d3da98cdceae549a89282", func := "gaoler/gaolerlaw10.BuildTrees", spec := "buildTrees", inPlace := ["internal/bytealg.IndexByteString", "internal/bytealg.IndexString", "slices.overlaps[gaoler/node.Ent]"], unfollowed := true, recurses := true, named := ["internal/bytealg.MaxLen"], apart := false }
def BuildTreesSaid : Prop := buildTreesRow.holds Try.pinned (OpenSpec.ofChange buildTreesSpec)

/-- ITS FALSE NEIGHBOUR: 'it returns false'. Refute it at one input. -/
def buildTreesWrong : ChangeSpec := { name := "buildTrees", fn := fun _ => fun
  | [d1, d2] => { results := [.lit (.bool false)], args := [d1, d2] }
  | _ => none }
def BuildTreesWrongFalsely : Prop := buildTreesRow.holds Try.pinned (OpenSpec.ofChange buildTreesWrong)

/-- 'gaolerlaw10.BuildTells': WHATEVER THE INPUT: true; the input reads as it did. -/
def buildTellsSpec : ChangeSpec := { name := "buildTells", fn := fun _ => fun
  | [d1, d2, d3] => { results := [.lit (.bool true)], args := [d1, d2, d3] }
  | _ => none }
def buildTellsRow : OpenClaim := { program := "ytehaohaphlmndaa", sum := "e7f83cd046ca229c0d7897c8c32ef5f8ca20a50a415d3da98cdceae549a89282", func := "gaoler/gaolerlaw10.BuildTells", spec := "buildTells", inPlace := ["internal/bytealg.IndexByteString", "internal/bytealg.IndexString", "slices.overlaps[gaoler/node.Ent]"], unfollowed := true, recurses := true, named := ["internal/bytealg.MaxLen"], apart := false }
def BuildTellsSaid : Prop := buildTellsRow.holds Try.pinned (OpenSpec.ofChange buildTellsSpec)

/-- ITS FALSE NEIGHBOUR: 'it returns false'. Refute it at one input. -/
def buildTellsWrong : ChangeSpec := { name := "buildTells", fn := fun _ => fun
  | [d1, d2, d3] => { results := [.lit (.bool false)], args := [d1, d2, d3] }
  | _ => none }
def BuildTellsWrongFalsely : Prop := buildTellsRow.holds Try.pinned (OpenSpec.ofChange buildTellsWrong)

/-- 'gaolerlaw10.BuildRight': WHATEVER THE INPUT: true; the input reads as it did. -/
def buildRightSpec : ChangeSpec := { name := "buildRight", fn := fun _ => fun
  | [d1, d2, d3] => { results := [.lit (.bool true)], args := [d1, d2, d3] }
  | _ => none }
def buildRightRow : OpenClaim := { program := "ytehaohaphlmndaa", sum := "e7f83cd046ca229c0d7897c8c32ef5f8ca20a50a415d3da98cdceae549a89282", func := "gaoler/gaolerlaw10.BuildRight", spec := "buildRight", inPlace := ["internal/bytealg.IndexByteString", "internal/bytealg.IndexString", "slices.overlaps[gaoler/node.Ent]"], unfollowed := true, recurses := true, named := ["internal/bytealg.MaxLen"], apart := false }
def BuildRightSaid : Prop := buildRightRow.holds Try.pinned (OpenSpec.ofChange buildRightSpec)

/-- ITS FALSE NEIGHBOUR: 'it returns false'. Refute it at one input. -/
def buildRightWrong : ChangeSpec := { name := "buildRight", fn := fun _ => fun
  | [d1, d2, d3] => { results := [.lit (.bool false)], args := [d1, d2, d3] }
  | _ => none }
def BuildRightWrongFalsely : Prop := buildRightRow.holds Try.pinned (OpenSpec.ofChange buildRightWrong)

/-- 'gaolerlaw10.BuildAgain': WHATEVER THE INPUT: true; the input reads as it did. -/
def buildAgainSpec : ChangeSpec := { name := "buildAgain", fn := fun _ => fun
  | [d1, d2] => { results := [.lit (.bool true)], args := [d1, d2] }
  | _ => none }
def buildAgainRow : OpenClaim := { program := "ytehaohaphlmndaa", sum := "e7f83cd046ca229c0d7897c8c32ef5f8ca20a50a415d3da98cdceae549a89282", func := "gaoler/gaolerlaw10.BuildAgain", spec := "buildAgain", inPlace := ["internal/bytealg.IndexByteString", "internal/bytealg.IndexString", "slices.overlaps[gaoler/node.Ent]"], unfollowed := true, recurses := true, named := ["internal/bytealg.MaxLen"], apart := false }
def BuildAgainSaid : Prop := buildAgainRow.holds Try.pinned (OpenSpec.ofChange buildAgainSpec)

/-- ITS FALSE NEIGHBOUR: 'it returns false'. Refute it at one input. -/
def buildAgainWrong : ChangeSpec := { name := "buildAgain", fn := fun _ => fun
  | [d1, d2] => { results := [.lit (.bool false)], args := [d1, d2] }
  | _ => none }
def BuildAgainWrongFalsely : Prop := buildAgainRow.holds Try.pinned (OpenSpec.ofChange buildAgainWrong)

/-- 'gaolerlaw10.BuildRoom': WHATEVER THE INPUT: true; the input reads as it did. -/
def buildRoomSpec : ChangeSpec := { name := "buildRoom", fn := fun _ => fun
  | [d1, d2, d3] => { results := [.lit (.bool true)], args := [d1, d2, d3] }
  | _ => none }
def buildRoomRow : OpenClaim := { program := "ytehaohaphlmndaa", sum := "e7f83cd046ca229c0d7897c8c32ef5f8ca20a50a415d3da98cdceae549a89282", func := "gaoler/gaolerlaw10.BuildRoom", spec := "buildRoom", inPlace := ["internal/bytealg.IndexByteString", "internal/bytealg.IndexString", "slices.overlaps[gaoler/node.Ent]"], unfollowed := true, recurses := true, named := ["internal/bytealg.MaxLen"], apart := false }
def BuildRoomSaid : Prop := buildRoomRow.holds Try.pinned (OpenSpec.ofChange buildRoomSpec)

/-- ITS FALSE NEIGHBOUR: 'it returns false'. Refute it at one input. -/
def buildRoomWrong : ChangeSpec := { name := "buildRoom", fn := fun _ => fun
  | [d1, d2, d3] => { results := [.lit (.bool false)], args := [d1, d2, d3] }
  | _ => none }
def BuildRoomWrongFalsely : Prop := buildRoomRow.holds Try.pinned (OpenSpec.ofChange buildRoomWrong)

/- THE SECOND FORM. 'bulk': how many values and letters a reading holds, each counted each time it is reached (what is shared counts as often as it is met; a slice's spare places count too). A statement '..UptoSaid' is the law's where the arguments, and the package variables that the reading takes, are together of bulk at most 1048576: NARROWER than '..Said'. Prove '..Said' where nothing that the law and all that it calls make is longer than what came in: it says more and counts as full. Else prove '..UptoSaid'. A law counts once. -/
mutual
def uptoBulk {H : Type} : DataW H → Nat
  | .lit (.string bytes) => bytes.length + 1
  | .lit _ => 1
  | .nil => 1
  | .ptr d => uptoBulk d + 1
  | .slice elems spare => uptoBulkAll elems + uptoBulkAll spare + 1
  | .agg parts => uptoBulkAll parts + 1
  | .iface _ d => uptoBulk d + 1
  | .map entries => uptoBulkEntries entries + 1
  | .held _ => 1
def uptoBulkAll {H : Type} : List (DataW H) → Nat
  | [] => 0
  | d :: r => uptoBulk d + uptoBulkAll r
def uptoBulkEntries {H : Type} : List (Lit × DataW H) → Nat
  | [] => 0
  | x :: r => uptoBulkEntry x + uptoBulkEntries r
def uptoBulkEntry {H : Type} : Lit × DataW H → Nat
  | (.string bytes, d) => bytes.length + uptoBulk d + 1
  | (_, d) => uptoBulk d + 1
 end
def uptoSmall : (H : Type) → List (DataW H) → Bool := fun _ ds => decide (uptoBulkAll ds ≤ 1048576)
def OpenSpec.upto (s : _root_.Go.ChangeSpec) : _root_.Go.OpenSpec := { _root_.Go.OpenSpec.ofChange s with cond := some uptoSmall }

/-- 'gaolerlaw09.TablePlays', WHERE WHAT IT READS IS OF BULK AT MOST 1048576: true; the input reads as it did. -/
def tablePlaysUptoRow : OpenClaim := { program := "ytehaohaphlmndaa", sum := "e7f83cd046ca229c0d7897c8c32ef5f8ca20a50a415d3da98cdceae549a89282", func := "gaoler/gaolerlaw09.TablePlays", spec := "tablePlays", inPlace := ["internal/bytealg.IndexByteString"], apart := false, narrowed := true }
def TablePlaysUptoSaid : Prop := tablePlaysUptoRow.holds Try.pinned (OpenSpec.upto tablePlaysSpec)

/-- 'gaolerlaw09.TableRight', WHERE WHAT IT READS IS OF BULK AT MOST 1048576: true; the input reads as it did. -/
def tableRightUptoRow : OpenClaim := { program := "ytehaohaphlmndaa", sum := "e7f83cd046ca229c0d7897c8c32ef5f8ca20a50a415d3da98cdceae549a89282", func := "gaoler/gaolerlaw09.TableRight", spec := "tableRight", inPlace := ["internal/bytealg.IndexByteString"], apart := false, narrowed := true }
def TableRightUptoSaid : Prop := tableRightUptoRow.holds Try.pinned (OpenSpec.upto tableRightSpec)

/-- 'gaolerlaw09.TableApart', WHERE WHAT IT READS IS OF BULK AT MOST 1048576: true; the input reads as it did. -/
def tableApartUptoRow : OpenClaim := { program := "ytehaohaphlmndaa", sum := "e7f83cd046ca229c0d7897c8c32ef5f8ca20a50a415d3da98cdceae549a89282", func := "gaoler/gaolerlaw09.TableApart", spec := "tableApart", inPlace := ["internal/bytealg.IndexByteString"], apart := false, narrowed := true }
def TableApartUptoSaid : Prop := tableApartUptoRow.holds Try.pinned (OpenSpec.upto tableApartSpec)

/-- 'gaolerlaw09.TableLeast', WHERE WHAT IT READS IS OF BULK AT MOST 1048576: true; the input reads as it did. -/
def tableLeastUptoRow : OpenClaim := { program := "ytehaohaphlmndaa", sum := "e7f83cd046ca229c0d7897c8c32ef5f8ca20a50a415d3da98cdceae549a89282", func := "gaoler/gaolerlaw09.TableLeast", spec := "tableLeast", inPlace := ["internal/bytealg.IndexByteString"], apart := false, narrowed := true }
def TableLeastUptoSaid : Prop := tableLeastUptoRow.holds Try.pinned (OpenSpec.upto tableLeastSpec)

/-- 'gaolerlaw09.TableCounts', WHERE WHAT IT READS IS OF BULK AT MOST 1048576: true; the input reads as it did. -/
def tableCountsUptoRow : OpenClaim := { program := "ytehaohaphlmndaa", sum := "e7f83cd046ca229c0d7897c8c32ef5f8ca20a50a415d3da98cdceae549a89282", func := "gaoler/gaolerlaw09.TableCounts", spec := "tableCounts", inPlace := ["internal/bytealg.IndexByteString"], apart := false, narrowed := true }
def TableCountsUptoSaid : Prop := tableCountsUptoRow.holds Try.pinned (OpenSpec.upto tableCountsSpec)

/-- 'gaolerlaw10.BuildTrees', WHERE WHAT IT READS IS OF BULK AT MOST 1048576: true; the input reads as it did. -/
def buildTreesUptoRow : OpenClaim := { program := "ytehaohaphlmndaa", sum := "e7f83cd046ca229c0d7897c8c32ef5f8ca20a50a415d3da98cdceae549a89282", func := "gaoler/gaolerlaw10.BuildTrees", spec := "buildTrees", inPlace := ["internal/bytealg.IndexByteString", "internal/bytealg.IndexString", "slices.overlaps[gaoler/node.Ent]"], unfollowed := true, recurses := true, named := ["internal/bytealg.MaxLen"], apart := false, narrowed := true }
def BuildTreesUptoSaid : Prop := buildTreesUptoRow.holds Try.pinned (OpenSpec.upto buildTreesSpec)

/-- 'gaolerlaw10.BuildTells', WHERE WHAT IT READS IS OF BULK AT MOST 1048576: true; the input reads as it did. -/
def buildTellsUptoRow : OpenClaim := { program := "ytehaohaphlmndaa", sum := "e7f83cd046ca229c0d7897c8c32ef5f8ca20a50a415d3da98cdceae549a89282", func := "gaoler/gaolerlaw10.BuildTells", spec := "buildTells", inPlace := ["internal/bytealg.IndexByteString", "internal/bytealg.IndexString", "slices.overlaps[gaoler/node.Ent]"], unfollowed := true, recurses := true, named := ["internal/bytealg.MaxLen"], apart := false, narrowed := true }
def BuildTellsUptoSaid : Prop := buildTellsUptoRow.holds Try.pinned (OpenSpec.upto buildTellsSpec)

/-- 'gaolerlaw10.BuildRight', WHERE WHAT IT READS IS OF BULK AT MOST 1048576: true; the input reads as it did. -/
def buildRightUptoRow : OpenClaim := { program := "ytehaohaphlmndaa", sum := "e7f83cd046ca229c0d7897c8c32ef5f8ca20a50a415d3da98cdceae549a89282", func := "gaoler/gaolerlaw10.BuildRight", spec := "buildRight", inPlace := ["internal/bytealg.IndexByteString", "internal/bytealg.IndexString", "slices.overlaps[gaoler/node.Ent]"], unfollowed := true, recurses := true, named := ["internal/bytealg.MaxLen"], apart := false, narrowed := true }
def BuildRightUptoSaid : Prop := buildRightUptoRow.holds Try.pinned (OpenSpec.upto buildRightSpec)

/-- 'gaolerlaw10.BuildAgain', WHERE WHAT IT READS IS OF BULK AT MOST 1048576: true; the input reads as it did. -/
def buildAgainUptoRow : OpenClaim := { program := "ytehaohaphlmndaa", sum := "e7f83cd046ca229c0d7897c8c32ef5f8ca20a50a415d3da98cdceae549a89282", func := "gaoler/gaolerlaw10.BuildAgain", spec := "buildAgain", inPlace := ["internal/bytealg.IndexByteString", "internal/bytealg.IndexString", "slices.overlaps[gaoler/node.Ent]"], unfollowed := true, recurses := true, named := ["internal/bytealg.MaxLen"], apart := false, narrowed := true }
def BuildAgainUptoSaid : Prop := buildAgainUptoRow.holds Try.pinned (OpenSpec.upto buildAgainSpec)

/-- 'gaolerlaw10.BuildRoom', WHERE WHAT IT READS IS OF BULK AT MOST 1048576: true; the input reads as it did. -/
def buildRoomUptoRow : OpenClaim := { program := "ytehaohaphlmndaa", sum := "e7f83cd046ca229c0d7897c8c32ef5f8ca20a50a415d3da98cdceae549a89282", func := "gaoler/gaolerlaw10.BuildRoom", spec := "buildRoom", inPlace := ["internal/bytealg.IndexByteString", "internal/bytealg.IndexString", "slices.overlaps[gaoler/node.Ent]"], unfollowed := true, recurses := true, named := ["internal/bytealg.MaxLen"], apart := false, narrowed := true }
def BuildRoomUptoSaid : Prop := buildRoomUptoRow.holds Try.pinned (OpenSpec.upto buildRoomSpec)

end Rows
end Go.Proofs.Ytehaohaphlmndaa
