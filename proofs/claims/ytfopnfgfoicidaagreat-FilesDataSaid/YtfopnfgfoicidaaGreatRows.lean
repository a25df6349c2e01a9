/-
  No cell of these rows narrows 'for every input' (looked for: loops, veiled, ifaces, maps, wideKeys, modest, calm, conditions, laid).
  DERIVED. THE GIVEN ROWS OF THIS SEAT. 5 by the template 'for every input the law returns true; each argument reads behind the call as it read before'; 0 by the template 'total and deterministic' (their statements: YtfopnfgfoicidaaGreatTotals.lean).
  GIVEN WITH THE SEED: the statements are not yours to turn. If you find one false, say at which input.
  Laid BY PROGRAM, IN A SANDBOX (cutbox-rows.mjs): the forced cells as the released guide's own fill.sh prints them over the translation bc48d3798fb09abc… (all of the seat's roots in one cut). By AI agents, Wed Nov 11 2026. No macro, syntax, notation, axiom, sorry.
-/
import Derived.Test.YtfopnfgfoicidaaGreatChecked
import GoSem.Claim
import GoSem.ClaimJoined
import GoSem.ClaimMapViews
import Derived.JoinedTies
import Derived.KernelRfl
namespace Go.Proofs.YtfopnfgfoicidaaGreat
/- THE CELL 'sum', in the pinned program and in every row, IS THE sha256 OF THE DUMP (.gsa) THAT YtfopnfgfoicidaaGreatProg.lean LOADS. Nothing in Lean hashes anything: it is a label: what it is worth is what the hold of that sum in a sandbox is worth. -/
noncomputable def Tryz.pinned : Pinned := { name := "ytfopnfgfoicidaagreat", sum := "bc48d3798fb09abcc2b034b9c9d5485097fa8b5480be4506c1259994691ab5af", checked := Tryz.checked }
namespace Rows
def none {H : Type} : Left H := { results := [], args := [] }

/-- 'gaolerlaw16.FilesOpen': WHATEVER THE INPUT: true; the input reads as it did. -/
def filesOpenSpec : ChangeSpec := { name := "filesOpen", fn := fun _ => fun
  | [d1, d2, d3, d4, d5, d6, d7] => { results := [.lit (.bool true)], args := [d1, d2, d3, d4, d5, d6, d7] }
  | _ => none }
def filesOpenRow : OpenClaim := { program := "ytfopnfgfoicidaagreat", sum := "bc48d3798fb09abcc2b034b9c9d5485097fa8b5480be4506c1259994691ab5af", func := "gaoler/gaolerlaw16.FilesOpen", spec := "filesOpen", inPlace := ["internal/bytealg.IndexByteString", "internal/bytealg.IndexString", "slices.overlaps[gaoler/node.Ent]"], unfollowed := true, recurses := true, named := ["internal/bytealg.MaxLen"], apart := false }
def FilesOpenSaid : Prop := filesOpenRow.holds Tryz.pinned (OpenSpec.ofChange filesOpenSpec)

/-- ITS FALSE NEIGHBOUR: 'it returns false'. Refute it at one input. -/
def filesOpenWrong : ChangeSpec := { name := "filesOpen", fn := fun _ => fun
  | [d1, d2, d3, d4, d5, d6, d7] => { results := [.lit (.bool false)], args := [d1, d2, d3, d4, d5, d6, d7] }
  | _ => none }
def FilesOpenWrongFalsely : Prop := filesOpenRow.holds Tryz.pinned (OpenSpec.ofChange filesOpenWrong)

/-- 'gaolerlaw16.FilesData': WHATEVER THE INPUT: true; the input reads as it did. -/
def filesDataSpec : ChangeSpec := { name := "filesData", fn := fun _ => fun
  | [d1, d2, d3, d4, d5, d6, d7] => { results := [.lit (.bool true)], args := [d1, d2, d3, d4, d5, d6, d7] }
  | _ => none }
def filesDataRow : OpenClaim := { program := "ytfopnfgfoicidaagreat", sum := "bc48d3798fb09abcc2b034b9c9d5485097fa8b5480be4506c1259994691ab5af", func := "gaoler/gaolerlaw16.FilesData", spec := "filesData", inPlace := ["internal/bytealg.IndexByteString", "internal/bytealg.IndexString", "slices.overlaps[gaoler/node.Ent]"], unfollowed := true, recurses := true, named := ["internal/bytealg.MaxLen"], apart := false }
def FilesDataSaid : Prop := filesDataRow.holds Tryz.pinned (OpenSpec.ofChange filesDataSpec)

/-- ITS FALSE NEIGHBOUR: 'it returns false'. Refute it at one input. -/
def filesDataWrong : ChangeSpec := { name := "filesData", fn := fun _ => fun
  | [d1, d2, d3, d4, d5, d6, d7] => { results := [.lit (.bool false)], args := [d1, d2, d3, d4, d5, d6, d7] }
  | _ => none }
def FilesDataWrongFalsely : Prop := filesDataRow.holds Tryz.pinned (OpenSpec.ofChange filesDataWrong)

/-- 'gaolerlaw16.FilesClean': WHATEVER THE INPUT: true; the input reads as it did. -/
def filesCleanSpec : ChangeSpec := { name := "filesClean", fn := fun _ => fun
  | [d1, d2, d3, d4, d5, d6] => { results := [.lit (.bool true)], args := [d1, d2, d3, d4, d5, d6] }
  | _ => none }
def filesCleanRow : OpenClaim := { program := "ytfopnfgfoicidaagreat", sum := "bc48d3798fb09abcc2b034b9c9d5485097fa8b5480be4506c1259994691ab5af", func := "gaoler/gaolerlaw16.FilesClean", spec := "filesClean", inPlace := ["internal/bytealg.IndexByteString", "internal/bytealg.IndexString", "slices.overlaps[gaoler/node.Ent]"], unfollowed := true, recurses := true, named := ["internal/bytealg.MaxLen"], apart := false }
def FilesCleanSaid : Prop := filesCleanRow.holds Tryz.pinned (OpenSpec.ofChange filesCleanSpec)

/-- ITS FALSE NEIGHBOUR: 'it returns false'. Refute it at one input. -/
def filesCleanWrong : ChangeSpec := { name := "filesClean", fn := fun _ => fun
  | [d1, d2, d3, d4, d5, d6] => { results := [.lit (.bool false)], args := [d1, d2, d3, d4, d5, d6] }
  | _ => none }
def FilesCleanWrongFalsely : Prop := filesCleanRow.holds Tryz.pinned (OpenSpec.ofChange filesCleanWrong)

/-- 'gaolerlaw16.FilesBack': WHATEVER THE INPUT: true; the input reads as it did. -/
def filesBackSpec : ChangeSpec := { name := "filesBack", fn := fun _ => fun
  | [d1, d2, d3, d4, d5, d6] => { results := [.lit (.bool true)], args := [d1, d2, d3, d4, d5, d6] }
  | _ => none }
def filesBackRow : OpenClaim := { program := "ytfopnfgfoicidaagreat", sum := "bc48d3798fb09abcc2b034b9c9d5485097fa8b5480be4506c1259994691ab5af", func := "gaoler/gaolerlaw16.FilesBack", spec := "filesBack", inPlace := ["internal/bytealg.IndexByteString", "internal/bytealg.IndexString", "slices.overlaps[gaoler/node.Ent]"], unfollowed := true, recurses := true, named := ["internal/bytealg.MaxLen"], apart := false }
def FilesBackSaid : Prop := filesBackRow.holds Tryz.pinned (OpenSpec.ofChange filesBackSpec)

/-- ITS FALSE NEIGHBOUR: 'it returns false'. Refute it at one input. -/
def filesBackWrong : ChangeSpec := { name := "filesBack", fn := fun _ => fun
  | [d1, d2, d3, d4, d5, d6] => { results := [.lit (.bool false)], args := [d1, d2, d3, d4, d5, d6] }
  | _ => none }
def FilesBackWrongFalsely : Prop := filesBackRow.holds Tryz.pinned (OpenSpec.ofChange filesBackWrong)

/-- 'gaolerlaw16.FilesMakes': WHATEVER THE INPUT: true; the input reads as it did. -/
def filesMakesSpec : ChangeSpec := { name := "filesMakes", fn := fun _ => fun
  | [d1, d2, d3, d4, d5, d6] => { results := [.lit (.bool true)], args := [d1, d2, d3, d4, d5, d6] }
  | _ => none }
def filesMakesRow : OpenClaim := { program := "ytfopnfgfoicidaagreat", sum := "bc48d3798fb09abcc2b034b9c9d5485097fa8b5480be4506c1259994691ab5af", func := "gaoler/gaolerlaw16.FilesMakes", spec := "filesMakes", inPlace := ["internal/bytealg.IndexByteString", "internal/bytealg.IndexString", "slices.overlaps[gaoler/node.Ent]"], unfollowed := true, recurses := true, named := ["internal/bytealg.MaxLen"], apart := false }
def FilesMakesSaid : Prop := filesMakesRow.holds Tryz.pinned (OpenSpec.ofChange filesMakesSpec)

/-- ITS FALSE NEIGHBOUR: 'it returns false'. Refute it at one input. -/
def filesMakesWrong : ChangeSpec := { name := "filesMakes", fn := fun _ => fun
  | [d1, d2, d3, d4, d5, d6] => { results := [.lit (.bool false)], args := [d1, d2, d3, d4, d5, d6] }
  | _ => none }
def FilesMakesWrongFalsely : Prop := filesMakesRow.holds Tryz.pinned (OpenSpec.ofChange filesMakesWrong)

/- THE SECOND FORM. 'bulk': how many values and letters a reading holds, each counted each time it is reached (what is shared counts as often as it is met; a slice's spare places count too). A statement '..UptoSaid' is the law's where the arguments, and the package variables that the reading takes, are together of bulk at most 1048576: NARROWER than '..Said'. Prove '..Said' where nothing that the law and all that it calls make is longer than what came in: it says more and counts as full. Else prove '..UptoSaid'. A law counts once. -/
mutual
def uptoBulk {H : Type} : DataW H → Nat
  | .lit (.string bytes) => bytes.length + 1
  | .lit _ => 1
  | .nil => 1
  | .ptr d => uptoBulk d + 1
  | .slice elems spare => uptoBulkAll elems + uptoBulkAll spare + 1
  | .agg parts => uptoBulkAll parts + 1
  | .iface _ d => uptoBulk d + 1
  | .map entries => uptoBulkEntries entries + 1
  | .held _ => 1
def uptoBulkAll {H : Type} : List (DataW H) → Nat
  | [] => 0
  | d :: r => uptoBulk d + uptoBulkAll r
def uptoBulkEntries {H : Type} : List (Lit × DataW H) → Nat
  | [] => 0
  | x :: r => uptoBulkEntry x + uptoBulkEntries r
def uptoBulkEntry {H : Type} : Lit × DataW H → Nat
  | (.string bytes, d) => bytes.length + uptoBulk d + 1
  | (_, d) => uptoBulk d + 1
 end
def uptoSmall : (H : Type) → List (DataW H) → Bool := fun _ ds => decide (uptoBulkAll ds ≤ 1048576)
def OpenSpec.upto (s : _root_.Go.ChangeSpec) : _root_.Go.OpenSpec := { _root_.Go.OpenSpec.ofChange s with cond := some uptoSmall }

/-- 'gaolerlaw16.FilesOpen', WHERE WHAT IT READS IS OF BULK AT MOST 1048576: true; the input reads as it did. -/
def filesOpenUptoRow : OpenClaim := { program := "ytfopnfgfoicidaagreat", sum := "bc48d3798fb09abcc2b034b9c9d5485097fa8b5480be4506c1259994691ab5af", func := "gaoler/gaolerlaw16.FilesOpen", spec := "filesOpen", inPlace := ["internal/bytealg.IndexByteString", "internal/bytealg.IndexString", "slices.overlaps[gaoler/node.Ent]"], unfollowed := true, recurses := true, named := ["internal/bytealg.MaxLen"], apart := false, narrowed := true }
def FilesOpenUptoSaid : Prop := filesOpenUptoRow.holds Tryz.pinned (OpenSpec.upto filesOpenSpec)

/-- 'gaolerlaw16.FilesData', WHERE WHAT IT READS IS OF BULK AT MOST 1048576: true; the input reads as it did. -/
def filesDataUptoRow : OpenClaim := { program := "ytfopnfgfoicidaagreat", sum := "bc48d3798fb09abcc2b034b9c9d5485097fa8b5480be4506c1259994691ab5af", func := "gaoler/gaolerlaw16.FilesData", spec := "filesData", inPlace := ["internal/bytealg.IndexByteString", "internal/bytealg.IndexString", "slices.overlaps[gaoler/node.Ent]"], unfollowed := true, recurses := true, named := ["internal/bytealg.MaxLen"], apart := false, narrowed := true }
def FilesDataUptoSaid : Prop := filesDataUptoRow.holds Tryz.pinned (OpenSpec.upto filesDataSpec)

/-- 'gaolerlaw16.FilesClean', WHERE WHAT IT READS IS OF BULK AT MOST 1048576: true; the input reads as it did. -/
def filesCleanUptoRow : OpenClaim := { program := "ytfopnfgfoicidaagreat", sum := "bc48d3798fb09abcc2b034b9c9d5485097fa8b5480be4506c1259994691ab5af", func := "gaoler/gaolerlaw16.FilesClean", spec := "filesClean", inPlace := ["internal/bytealg.IndexByteString", "internal/bytealg.IndexString", "slices.overlaps[gaoler/node.Ent]"], unfollowed := true, recurses := true, named := ["internal/bytealg.MaxLen"], apart := false, narrowed := true }
def FilesCleanUptoSaid : Prop := filesCleanUptoRow.holds Tryz.pinned (OpenSpec.upto filesCleanSpec)

/-- 'gaolerlaw16.FilesBack', WHERE WHAT IT READS IS OF BULK AT MOST 1048576: true; the input reads as it did. -/
def filesBackUptoRow : OpenClaim := { program := "ytfopnfgfoicidaagreat", sum := "bc48d3798fb09abcc2b034b9c9d5485097fa8b5480be4506c1259994691ab5af", func := "gaoler/gaolerlaw16.FilesBack", spec := "filesBack", inPlace := ["internal/bytealg.IndexByteString", "internal/bytealg.IndexString", "slices.overlaps[gaoler/node.Ent]"], unfollowed := true, recurses := true, named := ["internal/bytealg.MaxLen"], apart := false, narrowed := true }
def FilesBackUptoSaid : Prop := filesBackUptoRow.holds Tryz.pinned (OpenSpec.upto filesBackSpec)

/-- 'gaolerlaw16.FilesMakes', WHERE WHAT IT READS IS OF BULK AT MOST 1048576: true; the input reads as it did. -/
def filesMakesUptoRow : OpenClaim := { program := "ytfopnfgfoicidaagreat", sum := "bc48d3798fb09abcc2b034b9c9d5485097fa8b5480be4506c1259994691ab5af", func := "gaoler/gaolerlaw16.FilesMakes", spec := "filesMakes", inPlace := ["internal/bytealg.IndexByteString", "internal/bytealg.IndexString", "slices.overlaps[gaoler/node.Ent]"], unfollowed := true, recurses := true, named := ["internal/bytealg.MaxLen"], apart := false, narrowed := true }
def FilesMakesUptoSaid : Prop := filesMakesUptoRow.holds Tryz.pinned (OpenSpec.upto filesMakesSpec)

end Rows
end Go.Proofs.YtfopnfgfoicidaaGreat
