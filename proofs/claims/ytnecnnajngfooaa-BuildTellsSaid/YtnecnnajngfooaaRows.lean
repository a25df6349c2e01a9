/-
  No cell of these rows narrows 'for every input' (looked for: loops, veiled, ifaces, maps, wideKeys, modest, calm, conditions, laid).
  DERIVED. THE GIVEN ROWS OF THIS SEAT. 8 by the template 'for every input the law returns true; each argument reads behind the call as it read before'; 0 by the template 'total and deterministic' (their statements: YtnecnnajngfooaaTotals.lean).
  GIVEN WITH THE SEED: the statements are not yours to turn. If you find one false, say at which input.
  Laid BY PROGRAM, IN A SANDBOX (cutbox-rows.mjs): the forced cells as the released guide's own fill.sh prints them over the translation cbf4371e6bf842f4… (all of the seat's roots in one cut). By AI agents, Wed Nov 11 2026. No macro, syntax, notation, axiom, sorry.
-/
import Derived.Test.YtnecnnajngfooaaChecked
import GoSem.Claim
import GoSem.ClaimJoined
import GoSem.ClaimMapViews
import Derived.JoinedTies
import Derived.KernelRfl
namespace Go.Proofs.Ytnecnnajngfooaa
/- THE CELL 'sum', in the pinned program and in every row, IS THE sha256 OF THE DUMP (.gsa) THAT YtnecnnajngfooaaProg.lean LOADS. Nothing in Lean hashes anything: it is a label: what it is worth is what the hold of that sum in a sandbox is worth. -/
noncomputable def Try.pinned : Pinned := { name := "ytnecnnajngfooaa", sum := "cbf4371e6bf842f491ec007c166f51e423e04356d913568510e0244cfe1065ed", checked := Try.checked }
namespace Rows
def none {H : Type} : Left H := { results := [], args := [] }

/-- 'gaolerlaw09.TablePlays': WHATEVER THE INPUT: true; the input reads as it did. -/
def tablePlaysSpec : ChangeSpec := { name := "tablePlays", fn := fun _ => fun
  | [d1, d2] => { results := [.lit (.bool true)], args := [d1, d2] }
  | _ => none }
def tablePlaysRow : OpenClaim := { program := "ytnecnnajngfooaa", sum := "cbf4371e6bf842f491ec007c166f51e423e04356d913568510e0244cfe1065ed", func := "gaoler/gaolerlaw09.TablePlays", spec := "tablePlays", inPlace := ["internal/bytealg.IndexByteString"], apart := false }
def TablePlaysSaid : Prop := tablePlaysRow.holds Try.pinned (OpenSpec.ofChange tablePlaysSpec)

/-- ITS FALSE NEIGHBOUR: 'it returns false'. Refute it at one input. -/
def tablePlaysWrong : ChangeSpec := { name := "tablePlays", fn := fun _ => fun
  | [d1, d2] => { results := [.lit (.bool false)], args := [d1, d2] }
  | _ => none }
def TablePlaysWrongFalsely : Prop := tablePlaysRow.holds Try.pinned (OpenSpec.ofChange tablePlaysWrong)

/-- 'gaolerlaw09.TableRight': WHATEVER THE INPUT: true; the input reads as it did. -/
def tableRightSpec : ChangeSpec := { name := "tableRight", fn := fun _ => fun
  | [d1, d2, d3] => { results := [.lit (.bool true)], args := [d1, d2, d3] }
  | _ => none }
def tableRightRow : OpenClaim := { program := "ytnecnnajngfooaa", sum := "cbf4371e6bf842f491ec007c166f51e423e04356d913568510e0244cfe1065ed", func := "gaoler/gaolerlaw09.TableRight", spec := "tableRight", inPlace := ["internal/bytealg.IndexByteString"], apart := false }
def TableRightSaid : Prop := tableRightRow.holds Try.pinned (OpenSpec.ofChange tableRightSpec)

/-- ITS FALSE NEIGHBOUR: 'it returns false'. Refute it at one input. -/
def tableRightWrong : ChangeSpec := { name := "tableRight", fn := fun _ => fun
  | [d1, d2, d3] => { results := [.lit (.bool false)], args := [d1, d2, d3] }
  | _ => none }
def TableRightWrongFalsely : Prop := tableRightRow.holds Try.pinned (OpenSpec.ofChange tableRightWrong)

/-- 'gaolerlaw10.BuildTrees': WHATEVER THE INPUT: true; the input reads as it did. -/
def buildTreesSpec : ChangeSpec := { name := "buildTrees", fn := fun _ => fun
  | [d1, d2] => { results := [.lit (.bool true)], args := [d1, d2] }
  | _ => none }
def buildTreesRow : OpenClaim := { program := "ytnecnnajngfooaa", sum := "cbf4371e6bf842f491ec007c166f51e423e04356d913568510e0244cfe1065ed", func := "gaoler/gaolerlaw10.BuildTrees", spec := "buildTrees", inPlace := ["internal/bytealg.IndexByteString", "internal/bytealg.IndexString", "slices.overlaps[gaoler/node.Ent]"], unfollowed := true, recurses := true, named := ["internal/bytealg.MaxLen"], apart := false }
def BuildTreesSaid : Prop := buildTreesRow.holds Try.pinned (OpenSpec.ofChange buildTreesSpec)

/-- ITS FALSE NEIGHBOUR: 'it returns false'. Refute it at one input. -/
def buildTreesWrong : ChangeSpec := { name := "buildTrees", fn := fun _ => fun
  | [d1, d2] => { results := [.lit (.bool false)], args := [d1, d2] }
  | _ => none }
def BuildTreesWrongFalsely : Prop := buildTreesRow.holds Try.pinned (OpenSpec.ofChange buildTreesWrong)

/-- 'gaolerlaw10.BuildTells': WHATEVER THE INPUT: true; the input reads as it did. -/
def buildTellsSpec : ChangeSpec := { name := "buildTells", fn := fun _ => fun
  | [d1, d2, d3] => { results := [.lit (.bool true)], args := [d1, d2, d3] }
  | _ => none }
def buildTellsRow : OpenClaim := { program := "ytnecnnajngfooaa", sum := "cbf4371e6bf842f491ec007c166f51e423e04356d913568510e0244cfe1065ed", func := "gaoler/gaolerlaw10.BuildTells", spec := "buildTells", inPlace := ["internal/bytealg.IndexByteString", "internal/bytealg.IndexString", "slices.overlaps[gaoler/node.Ent]"], unfollowed := true, recurses := true, named := ["internal/bytealg.MaxLen"], apart := false }
def BuildTellsSaid : Prop := buildTellsRow.holds Try.pinned (OpenSpec.ofChange buildTellsSpec)

/-- ITS FALSE NEIGHBOUR: 'it returns false'. Refute it at one input. -/
def buildTellsWrong : ChangeSpec := { name := "buildTells", fn := fun _ => fun
  | [d1, d2, d3] => { results := [.lit (.bool false)], args := [d1, d2, d3] }
  | _ => none }
def BuildTellsWrongFalsely : Prop := buildTellsRow.holds Try.pinned (OpenSpec.ofChange buildTellsWrong)

/-- 'gaolerlaw11.ResolveSearch': WHATEVER THE INPUT: true; the input reads as it did. -/
def resolveSearchSpec : ChangeSpec := { name := "resolveSearch", fn := fun _ => fun
  | [d1, d2, d3, d4, d5] => { results := [.lit (.bool true)], args := [d1, d2, d3, d4, d5] }
  | _ => none }
def resolveSearchRow : OpenClaim := { program := "ytnecnnajngfooaa", sum := "cbf4371e6bf842f491ec007c166f51e423e04356d913568510e0244cfe1065ed", func := "gaoler/gaolerlaw11.ResolveSearch", spec := "resolveSearch", inPlace := ["internal/bytealg.IndexByteString", "internal/bytealg.IndexString", "slices.overlaps[gaoler/node.Ent]"], unfollowed := true, recurses := true, named := ["internal/bytealg.MaxLen"], apart := false }
def ResolveSearchSaid : Prop := resolveSearchRow.holds Try.pinned (OpenSpec.ofChange resolveSearchSpec)

/-- ITS FALSE NEIGHBOUR: 'it returns false'. Refute it at one input. -/
def resolveSearchWrong : ChangeSpec := { name := "resolveSearch", fn := fun _ => fun
  | [d1, d2, d3, d4, d5] => { results := [.lit (.bool false)], args := [d1, d2, d3, d4, d5] }
  | _ => none }
def ResolveSearchWrongFalsely : Prop := resolveSearchRow.holds Try.pinned (OpenSpec.ofChange resolveSearchWrong)

/-- 'gaolerlaw11.ResolveParts': WHATEVER THE INPUT: true; the input reads as it did. -/
def resolvePartsSpec : ChangeSpec := { name := "resolveParts", fn := fun _ => fun
  | [d1, d2, d3, d4, d5] => { results := [.lit (.bool true)], args := [d1, d2, d3, d4, d5] }
  | _ => none }
def resolvePartsRow : OpenClaim := { program := "ytnecnnajngfooaa", sum := "cbf4371e6bf842f491ec007c166f51e423e04356d913568510e0244cfe1065ed", func := "gaoler/gaolerlaw11.ResolveParts", spec := "resolveParts", inPlace := ["internal/bytealg.IndexByteString", "internal/bytealg.IndexString", "slices.overlaps[gaoler/node.Ent]"], unfollowed := true, recurses := true, named := ["internal/bytealg.MaxLen"], apart := false }
def ResolvePartsSaid : Prop := resolvePartsRow.holds Try.pinned (OpenSpec.ofChange resolvePartsSpec)

/-- ITS FALSE NEIGHBOUR: 'it returns false'. Refute it at one input. -/
def resolvePartsWrong : ChangeSpec := { name := "resolveParts", fn := fun _ => fun
  | [d1, d2, d3, d4, d5] => { results := [.lit (.bool false)], args := [d1, d2, d3, d4, d5] }
  | _ => none }
def ResolvePartsWrongFalsely : Prop := resolvePartsRow.holds Try.pinned (OpenSpec.ofChange resolvePartsWrong)

/-- 'gaolerlaw11.ResolveRoot': WHATEVER THE INPUT: true; the input reads as it did. -/
def resolveRootSpec : ChangeSpec := { name := "resolveRoot", fn := fun _ => fun
  | [d1, d2, d3, d4, d5] => { results := [.lit (.bool true)], args := [d1, d2, d3, d4, d5] }
  | _ => none }
def resolveRootRow : OpenClaim := { program := "ytnecnnajngfooaa", sum := "cbf4371e6bf842f491ec007c166f51e423e04356d913568510e0244cfe1065ed", func := "gaoler/gaolerlaw11.ResolveRoot", spec := "resolveRoot", inPlace := ["internal/bytealg.IndexByteString", "internal/bytealg.IndexString", "slices.overlaps[gaoler/node.Ent]"], unfollowed := true, recurses := true, named := ["internal/bytealg.MaxLen"], apart := false }
def ResolveRootSaid : Prop := resolveRootRow.holds Try.pinned (OpenSpec.ofChange resolveRootSpec)

/-- ITS FALSE NEIGHBOUR: 'it returns false'. Refute it at one input. -/
def resolveRootWrong : ChangeSpec := { name := "resolveRoot", fn := fun _ => fun
  | [d1, d2, d3, d4, d5] => { results := [.lit (.bool false)], args := [d1, d2, d3, d4, d5] }
  | _ => none }
def ResolveRootWrongFalsely : Prop := resolveRootRow.holds Try.pinned (OpenSpec.ofChange resolveRootWrong)

/-- 'gaolerlaw11.ResolveDots': WHATEVER THE INPUT: true; the input reads as it did. -/
def resolveDotsSpec : ChangeSpec := { name := "resolveDots", fn := fun _ => fun
  | [d1, d2, d3, d4] => { results := [.lit (.bool true)], args := [d1, d2, d3, d4] }
  | _ => none }
def resolveDotsRow : OpenClaim := { program := "ytnecnnajngfooaa", sum := "cbf4371e6bf842f491ec007c166f51e423e04356d913568510e0244cfe1065ed", func := "gaoler/gaolerlaw11.ResolveDots", spec := "resolveDots", inPlace := ["internal/bytealg.IndexByteString", "internal/bytealg.IndexString", "slices.overlaps[gaoler/node.Ent]"], unfollowed := true, recurses := true, named := ["internal/bytealg.MaxLen"], apart := false }
def ResolveDotsSaid : Prop := resolveDotsRow.holds Try.pinned (OpenSpec.ofChange resolveDotsSpec)

/-- ITS FALSE NEIGHBOUR: 'it returns false'. Refute it at one input. -/
def resolveDotsWrong : ChangeSpec := { name := "resolveDots", fn := fun _ => fun
  | [d1, d2, d3, d4] => { results := [.lit (.bool false)], args := [d1, d2, d3, d4] }
  | _ => none }
def ResolveDotsWrongFalsely : Prop := resolveDotsRow.holds Try.pinned (OpenSpec.ofChange resolveDotsWrong)

/- THE SECOND FORM. 'bulk': how many values and letters a reading holds, each counted each time it is reached (what is shared counts as often as it is met; a slice's spare places count too). A statement '..UptoSaid' is the law's where the arguments, and the package variables that the reading takes, are together of bulk at most 1048576: NARROWER than '..Said'. Prove '..Said' where nothing that the law and all that it calls make is longer than what came in: it says more and counts as full. Else prove '..UptoSaid'. A law counts once. -/
mutual
def uptoBulk {H : Type} : DataW H → Nat
  | .lit (.string bytes) => bytes.length + 1
  | .lit _ => 1
  | .nil => 1
  | .ptr d => uptoBulk d + 1
  | .slice elems spare => uptoBulkAll elems + uptoBulkAll spare + 1
  | .agg parts => uptoBulkAll parts + 1
  | .iface _ d => uptoBulk d + 1
  | .map entries => uptoBulkEntries entries + 1
  | .held _ => 1
def uptoBulkAll {H : Type} : List (DataW H) → Nat
  | [] => 0
  | d :: r => uptoBulk d + uptoBulkAll r
def uptoBulkEntries {H : Type} : List (Lit × DataW H) → Nat
  | [] => 0
  | x :: r => uptoBulkEntry x + uptoBulkEntries r
def uptoBulkEntry {H : Type} : Lit × DataW H → Nat
  | (.string bytes, d) => bytes.length + uptoBulk d + 1
  | (_, d) => uptoBulk d + 1
 end
def uptoSmall : (H : Type) → List (DataW H) → Bool := fun _ ds => decide (uptoBulkAll ds ≤ 1048576)
def OpenSpec.upto (s : _root_.Go.ChangeSpec) : _root_.Go.OpenSpec := { _root_.Go.OpenSpec.ofChange s with cond := some uptoSmall }

/-- 'gaolerlaw09.TablePlays', WHERE WHAT IT READS IS OF BULK AT MOST 1048576: true; the input reads as it did. -/
def tablePlaysUptoRow : OpenClaim := { program := "ytnecnnajngfooaa", sum := "cbf4371e6bf842f491ec007c166f51e423e04356d913568510e0244cfe1065ed", func := "gaoler/gaolerlaw09.TablePlays", spec := "tablePlays", inPlace := ["internal/bytealg.IndexByteString"], apart := false, narrowed := true }
def TablePlaysUptoSaid : Prop := tablePlaysUptoRow.holds Try.pinned (OpenSpec.upto tablePlaysSpec)

/-- 'gaolerlaw09.TableRight', WHERE WHAT IT READS IS OF BULK AT MOST 1048576: true; the input reads as it did. -/
def tableRightUptoRow : OpenClaim := { program := "ytnecnnajngfooaa", sum := "cbf4371e6bf842f491ec007c166f51e423e04356d913568510e0244cfe1065ed", func := "gaoler/gaolerlaw09.TableRight", spec := "tableRight", inPlace := ["internal/bytealg.IndexByteString"], apart := false, narrowed := true }
def TableRightUptoSaid : Prop := tableRightUptoRow.holds Try.pinned (OpenSpec.upto tableRightSpec)

/-- 'gaolerlaw10.BuildTrees', WHERE WHAT IT READS IS OF BULK AT MOST 1048576: true; the input reads as it did. -/
def buildTreesUptoRow : OpenClaim := { program := "ytnecnnajngfooaa", sum := "cbf4371e6bf842f491ec007c166f51e423e04356d913568510e0244cfe1065ed", func := "gaoler/gaolerlaw10.BuildTrees", spec := "buildTrees", inPlace := ["internal/bytealg.IndexByteString", "internal/bytealg.IndexString", "slices.overlaps[gaoler/node.Ent]"], unfollowed := true, recurses := true, named := ["internal/bytealg.MaxLen"], apart := false, narrowed := true }
def BuildTreesUptoSaid : Prop := buildTreesUptoRow.holds Try.pinned (OpenSpec.upto buildTreesSpec)

/-- 'gaolerlaw10.BuildTells', WHERE WHAT IT READS IS OF BULK AT MOST 1048576: true; the input reads as it did. -/
def buildTellsUptoRow : OpenClaim := { program := "ytnecnnajngfooaa", sum := "cbf4371e6bf842f491ec007c166f51e423e04356d913568510e0244cfe1065ed", func := "gaoler/gaolerlaw10.BuildTells", spec := "buildTells", inPlace := ["internal/bytealg.IndexByteString", "internal/bytealg.IndexString", "slices.overlaps[gaoler/node.Ent]"], unfollowed := true, recurses := true, named := ["internal/bytealg.MaxLen"], apart := false, narrowed := true }
def BuildTellsUptoSaid : Prop := buildTellsUptoRow.holds Try.pinned (OpenSpec.upto buildTellsSpec)

/-- 'gaolerlaw11.ResolveSearch', WHERE WHAT IT READS IS OF BULK AT MOST 1048576: true; the input reads as it did. -/
def resolveSearchUptoRow : OpenClaim := { program := "ytnecnnajngfooaa", sum := "cbf4371e6bf842f491ec007c166f51e423e04356d913568510e0244cfe1065ed", func := "gaoler/gaolerlaw11.ResolveSearch", spec := "resolveSearch", inPlace := ["internal/bytealg.IndexByteString", "internal/bytealg.IndexString", "slices.overlaps[gaoler/node.Ent]"], unfollowed := true, recurses := true, named := ["internal/bytealg.MaxLen"], apart := false, narrowed := true }
def ResolveSearchUptoSaid : Prop := resolveSearchUptoRow.holds Try.pinned (OpenSpec.upto resolveSearchSpec)

/-- 'gaolerlaw11.ResolveParts', WHERE WHAT IT READS IS OF BULK AT MOST 1048576: true; the input reads as it did. -/
def resolvePartsUptoRow : OpenClaim := { program := "ytnecnnajngfooaa", sum := "cbf4371e6bf842f491ec007c166f51e423e04356d913568510e0244cfe1065ed", func := "gaoler/gaolerlaw11.ResolveParts", spec := "resolveParts", inPlace := ["internal/bytealg.IndexByteString", "internal/bytealg.IndexString", "slices.overlaps[gaoler/node.Ent]"], unfollowed := true, recurses := true, named := ["internal/bytealg.MaxLen"], apart := false, narrowed := true }
def ResolvePartsUptoSaid : Prop := resolvePartsUptoRow.holds Try.pinned (OpenSpec.upto resolvePartsSpec)

/-- 'gaolerlaw11.ResolveRoot', WHERE WHAT IT READS IS OF BULK AT MOST 1048576: true; the input reads as it did. -/
def resolveRootUptoRow : OpenClaim := { program := "ytnecnnajngfooaa", sum := "cbf4371e6bf842f491ec007c166f51e423e04356d913568510e0244cfe1065ed", func := "gaoler/gaolerlaw11.ResolveRoot", spec := "resolveRoot", inPlace := ["internal/bytealg.IndexByteString", "internal/bytealg.IndexString", "slices.overlaps[gaoler/node.Ent]"], unfollowed := true, recurses := true, named := ["internal/bytealg.MaxLen"], apart := false, narrowed := true }
def ResolveRootUptoSaid : Prop := resolveRootUptoRow.holds Try.pinned (OpenSpec.upto resolveRootSpec)

/-- 'gaolerlaw11.ResolveDots', WHERE WHAT IT READS IS OF BULK AT MOST 1048576: true; the input reads as it did. -/
def resolveDotsUptoRow : OpenClaim := { program := "ytnecnnajngfooaa", sum := "cbf4371e6bf842f491ec007c166f51e423e04356d913568510e0244cfe1065ed", func := "gaoler/gaolerlaw11.ResolveDots", spec := "resolveDots", inPlace := ["internal/bytealg.IndexByteString", "internal/bytealg.IndexString", "slices.overlaps[gaoler/node.Ent]"], unfollowed := true, recurses := true, named := ["internal/bytealg.MaxLen"], apart := false, narrowed := true }
def ResolveDotsUptoSaid : Prop := resolveDotsUptoRow.holds Try.pinned (OpenSpec.upto resolveDotsSpec)

end Rows
end Go.Proofs.Ytnecnnajngfooaa
