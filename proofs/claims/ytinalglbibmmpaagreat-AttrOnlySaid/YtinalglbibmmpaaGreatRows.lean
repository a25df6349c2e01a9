/-
  No cell of these rows narrows 'for every input' (looked for: loops, veiled, ifaces, maps, wideKeys, modest, calm, conditions, laid).
  DERIVED. THE GIVEN ROWS OF THIS SEAT. 3 by the template 'for every input the law returns true; each argument reads behind the call as it read before'; 0 by the template 'total and deterministic' (their statements: YtinalglbibmmpaaGreatTotals.lean).
  GIVEN WITH THE SEED: the statements are not yours to turn. If you find one false, say at which input.
  Laid BY PROGRAM, IN A SANDBOX (cutbox-rows.mjs): the forced cells as the released guide's own fill.sh prints them over the translation e10511bd76a4e860… (all of the seat's roots in one cut). By AI agents, Wed Nov 11 2026. No macro, syntax, notation, axiom, sorry.
-/
import Derived.Test.YtinalglbibmmpaaGreatChecked
import GoSem.Claim
import GoSem.ClaimJoined
import GoSem.ClaimMapViews
import Derived.JoinedTies
import Derived.KernelRfl
namespace Go.Proofs.YtinalglbibmmpaaGreat
/- THE CELL 'sum', in the pinned program and in every row, IS THE sha256 OF THE DUMP (.gsa) THAT YtinalglbibmmpaaGreatProg.lean LOADS. Nothing in Lean hashes anything: it is a label: what it is worth is what the hold of that sum in a sandbox is worth. -/
noncomputable def Tryz.pinned : Pinned := { name := "ytinalglbibmmpaagreat", sum := "e10511bd76a4e8604515fd044b6f36f1fac3dcf21b5b61087526b41c0d59cfcc", checked := Tryz.checked }
namespace Rows
def none {H : Type} : Left H := { results := [], args := [] }

/-- 'gaolerlaw13.AttrModes': WHATEVER THE INPUT: true; the input reads as it did. -/
def attrModesSpec : ChangeSpec := { name := "attrModes", fn := fun _ => fun
  | [d1, d2, d3, d4, d5] => { results := [.lit (.bool true)], args := [d1, d2, d3, d4, d5] }
  | _ => none }
def attrModesRow : OpenClaim := { program := "ytinalglbibmmpaagreat", sum := "e10511bd76a4e8604515fd044b6f36f1fac3dcf21b5b61087526b41c0d59cfcc", func := "gaoler/gaolerlaw13.AttrModes", spec := "attrModes", inPlace := ["internal/bytealg.IndexByteString", "internal/bytealg.IndexString", "slices.overlaps[gaoler/node.Ent]"], unfollowed := true, recurses := true, named := ["internal/bytealg.MaxLen"], apart := false }
def AttrModesSaid : Prop := attrModesRow.holds Tryz.pinned (OpenSpec.ofChange attrModesSpec)

/-- ITS FALSE NEIGHBOUR: 'it returns false'. Refute it at one input. -/
def attrModesWrong : ChangeSpec := { name := "attrModes", fn := fun _ => fun
  | [d1, d2, d3, d4, d5] => { results := [.lit (.bool false)], args := [d1, d2, d3, d4, d5] }
  | _ => none }
def AttrModesWrongFalsely : Prop := attrModesRow.holds Tryz.pinned (OpenSpec.ofChange attrModesWrong)

/-- 'gaolerlaw13.AttrOwners': WHATEVER THE INPUT: true; the input reads as it did. -/
def attrOwnersSpec : ChangeSpec := { name := "attrOwners", fn := fun _ => fun
  | [d1, d2, d3, d4, d5, d6, d7] => { results := [.lit (.bool true)], args := [d1, d2, d3, d4, d5, d6, d7] }
  | _ => none }
def attrOwnersRow : OpenClaim := { program := "ytinalglbibmmpaagreat", sum := "e10511bd76a4e8604515fd044b6f36f1fac3dcf21b5b61087526b41c0d59cfcc", func := "gaoler/gaolerlaw13.AttrOwners", spec := "attrOwners", inPlace := ["internal/bytealg.IndexByteString", "internal/bytealg.IndexString", "slices.overlaps[gaoler/node.Ent]"], unfollowed := true, recurses := true, named := ["internal/bytealg.MaxLen"], apart := false }
def AttrOwnersSaid : Prop := attrOwnersRow.holds Tryz.pinned (OpenSpec.ofChange attrOwnersSpec)

/-- ITS FALSE NEIGHBOUR: 'it returns false'. Refute it at one input. -/
def attrOwnersWrong : ChangeSpec := { name := "attrOwners", fn := fun _ => fun
  | [d1, d2, d3, d4, d5, d6, d7] => { results := [.lit (.bool false)], args := [d1, d2, d3, d4, d5, d6, d7] }
  | _ => none }
def AttrOwnersWrongFalsely : Prop := attrOwnersRow.holds Tryz.pinned (OpenSpec.ofChange attrOwnersWrong)

/-- 'gaolerlaw13.AttrOnly': WHATEVER THE INPUT: true; the input reads as it did. -/
def attrOnlySpec : ChangeSpec := { name := "attrOnly", fn := fun _ => fun
  | [d1, d2, d3, d4, d5, d6, d7] => { results := [.lit (.bool true)], args := [d1, d2, d3, d4, d5, d6, d7] }
  | _ => none }
def attrOnlyRow : OpenClaim := { program := "ytinalglbibmmpaagreat", sum := "e10511bd76a4e8604515fd044b6f36f1fac3dcf21b5b61087526b41c0d59cfcc", func := "gaoler/gaolerlaw13.AttrOnly", spec := "attrOnly", inPlace := ["internal/bytealg.IndexByteString", "internal/bytealg.IndexString", "slices.overlaps[gaoler/node.Ent]"], unfollowed := true, recurses := true, named := ["internal/bytealg.MaxLen"], apart := false }
def AttrOnlySaid : Prop := attrOnlyRow.holds Tryz.pinned (OpenSpec.ofChange attrOnlySpec)

/-- ITS FALSE NEIGHBOUR: 'it returns false'. Refute it at one input. -/
def attrOnlyWrong : ChangeSpec := { name := "attrOnly", fn := fun _ => fun
  | [d1, d2, d3, d4, d5, d6, d7] => { results := [.lit (.bool false)], args := [d1, d2, d3, d4, d5, d6, d7] }
  | _ => none }
def AttrOnlyWrongFalsely : Prop := attrOnlyRow.holds Tryz.pinned (OpenSpec.ofChange attrOnlyWrong)

/- THE SECOND FORM. 'bulk': how many values and letters a reading holds, each counted each time it is reached (what is shared counts as often as it is met; a slice's spare places count too). A statement '..UptoSaid' is the law's where the arguments, and the package variables that the reading takes, are together of bulk at most 1048576: NARROWER than '..Said'. Prove '..Said' where nothing that the law and all that it calls make is longer than what came in: it says more and counts as full. Else prove '..UptoSaid'. A law counts once. -/
mutual
def uptoBulk {H : Type} : DataW H → Nat
  | .lit (.string bytes) => bytes.length + 1
  | .lit _ => 1
  | .nil => 1
  | .ptr d => uptoBulk d + 1
  | .slice elems spare => uptoBulkAll elems + uptoBulkAll spare + 1
  | .agg parts => uptoBulkAll parts + 1
  | .iface _ d => uptoBulk d + 1
  | .map entries => uptoBulkEntries entries + 1
  | .held _ => 1
def uptoBulkAll {H : Type} : List (DataW H) → Nat
  | [] => 0
  | d :: r => uptoBulk d + uptoBulkAll r
def uptoBulkEntries {H : Type} : List (Lit × DataW H) → Nat
  | [] => 0
  | x :: r => uptoBulkEntry x + uptoBulkEntries r
def uptoBulkEntry {H : Type} : Lit × DataW H → Nat
  | (.string bytes, d) => bytes.length + uptoBulk d + 1
  | (_, d) => uptoBulk d + 1
 end
def uptoSmall : (H : Type) → List (DataW H) → Bool := fun _ ds => decide (uptoBulkAll ds ≤ 1048576)
def OpenSpec.upto (s : _root_.Go.ChangeSpec) : _root_.Go.OpenSpec := { _root_.Go.OpenSpec.ofChange s with cond := some uptoSmall }

/-- 'gaolerlaw13.AttrModes', WHERE WHAT IT READS IS OF BULK AT MOST 1048576: true; the input reads as it did. -/
def attrModesUptoRow : OpenClaim := { program := "ytinalglbibmmpaagreat", sum := "e10511bd76a4e8604515fd044b6f36f1fac3dcf21b5b61087526b41c0d59cfcc", func := "gaoler/gaolerlaw13.AttrModes", spec := "attrModes", inPlace := ["internal/bytealg.IndexByteString", "internal/bytealg.IndexString", "slices.overlaps[gaoler/node.Ent]"], unfollowed := true, recurses := true, named := ["internal/bytealg.MaxLen"], apart := false, narrowed := true }
def AttrModesUptoSaid : Prop := attrModesUptoRow.holds Tryz.pinned (OpenSpec.upto attrModesSpec)

/-- 'gaolerlaw13.AttrOwners', WHERE WHAT IT READS IS OF BULK AT MOST 1048576: true; the input reads as it did. -/
def attrOwnersUptoRow : OpenClaim := { program := "ytinalglbibmmpaagreat", sum := "e10511bd76a4e8604515fd044b6f36f1fac3dcf21b5b61087526b41c0d59cfcc", func := "gaoler/gaolerlaw13.AttrOwners", spec := "attrOwners", inPlace := ["internal/bytealg.IndexByteString", "internal/bytealg.IndexString", "slices.overlaps[gaoler/node.Ent]"], unfollowed := true, recurses := true, named := ["internal/bytealg.MaxLen"], apart := false, narrowed := true }
def AttrOwnersUptoSaid : Prop := attrOwnersUptoRow.holds Tryz.pinned (OpenSpec.upto attrOwnersSpec)

/-- 'gaolerlaw13.AttrOnly', WHERE WHAT IT READS IS OF BULK AT MOST 1048576: true; the input reads as it did. -/
def attrOnlyUptoRow : OpenClaim := { program := "ytinalglbibmmpaagreat", sum := "e10511bd76a4e8604515fd044b6f36f1fac3dcf21b5b61087526b41c0d59cfcc", func := "gaoler/gaolerlaw13.AttrOnly", spec := "attrOnly", inPlace := ["internal/bytealg.IndexByteString", "internal/bytealg.IndexString", "slices.overlaps[gaoler/node.Ent]"], unfollowed := true, recurses := true, named := ["internal/bytealg.MaxLen"], apart := false, narrowed := true }
def AttrOnlyUptoSaid : Prop := attrOnlyUptoRow.holds Tryz.pinned (OpenSpec.upto attrOnlySpec)

end Rows
end Go.Proofs.YtinalglbibmmpaaGreat
