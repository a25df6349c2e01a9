/-
  No cell of these rows narrows 'for every input' (looked for: loops, veiled, ifaces, maps, wideKeys, modest, calm, conditions, laid).
  DERIVED. THE GIVEN ROWS OF THIS SEAT. 3 by the template 'for every input the law returns true; each argument reads behind the call as it read before'; 0 by the template 'total and deterministic' (their statements: YtgcllgfkifpkeaaGreatTotals.lean).
  GIVEN WITH THE SEED: the statements are not yours to turn. If you find one false, say at which input.
  Laid BY PROGRAM, IN A SANDBOX (cutbox-rows.mjs): the forced cells as the released guide's own fill.sh prints them over the translation b594225ce21ca6de… (all of the seat's roots in one cut). By AI agents, Wed Nov 11 2026. No macro, syntax, notation, axiom, sorry.
-/
import Derived.Test.YtgcllgfkifpkeaaGreatChecked
import GoSem.Claim
import GoSem.ClaimJoined
import GoSem.ClaimMapViews
import Derived.JoinedTies
import Derived.KernelRfl
namespace Go.Proofs.YtgcllgfkifpkeaaGreat
/- THE CELL 'sum', in the pinned program and in every row, IS THE sha256 OF THE DUMP (.gsa) THAT YtgcllgfkifpkeaaGreatProg.lean LOADS. Nothing in Lean hashes anything: it is a label: what it is worth is what the hold of that sum in a sandbox is worth. -/
noncomputable def Tryz.pinned : Pinned := { name := "ytgcllgfkifpkeaagreat", sum := "b594225ce21ca6dec0663f501cb03f7ae51abea9b7fd5f38668e1aca92059454", checked := Tryz.checked }
namespace Rows
def none {H : Type} : Left H := { results := [], args := [] }

/-- 'gaolerlaw14.PlantFiles': WHATEVER THE INPUT: true; the input reads as it did. -/
def plantFilesSpec : ChangeSpec := { name := "plantFiles", fn := fun _ => fun
  | [d1, d2, d3, d4, d5, d6, d7] => { results := [.lit (.bool true)], args := [d1, d2, d3, d4, d5, d6, d7] }
  | _ => none }
def plantFilesRow : OpenClaim := { program := "ytgcllgfkifpkeaagreat", sum := "b594225ce21ca6dec0663f501cb03f7ae51abea9b7fd5f38668e1aca92059454", func := "gaoler/gaolerlaw14.PlantFiles", spec := "plantFiles", inPlace := ["internal/bytealg.IndexByteString", "internal/bytealg.IndexString", "slices.overlaps[gaoler/node.Ent]"], unfollowed := true, recurses := true, named := ["internal/bytealg.MaxLen"], apart := false }
def PlantFilesSaid : Prop := plantFilesRow.holds Tryz.pinned (OpenSpec.ofChange plantFilesSpec)

/-- ITS FALSE NEIGHBOUR: 'it returns false'. Refute it at one input. -/
def plantFilesWrong : ChangeSpec := { name := "plantFiles", fn := fun _ => fun
  | [d1, d2, d3, d4, d5, d6, d7] => { results := [.lit (.bool false)], args := [d1, d2, d3, d4, d5, d6, d7] }
  | _ => none }
def PlantFilesWrongFalsely : Prop := plantFilesRow.holds Tryz.pinned (OpenSpec.ofChange plantFilesWrong)

/-- 'gaolerlaw14.PlantOwn': WHATEVER THE INPUT: true; the input reads as it did. -/
def plantOwnSpec : ChangeSpec := { name := "plantOwn", fn := fun _ => fun
  | [d1, d2, d3, d4, d5, d6, d7] => { results := [.lit (.bool true)], args := [d1, d2, d3, d4, d5, d6, d7] }
  | _ => none }
def plantOwnRow : OpenClaim := { program := "ytgcllgfkifpkeaagreat", sum := "b594225ce21ca6dec0663f501cb03f7ae51abea9b7fd5f38668e1aca92059454", func := "gaoler/gaolerlaw14.PlantOwn", spec := "plantOwn", inPlace := ["internal/bytealg.IndexByteString", "internal/bytealg.IndexString", "slices.overlaps[gaoler/node.Ent]"], unfollowed := true, recurses := true, named := ["internal/bytealg.MaxLen"], apart := false }
def PlantOwnSaid : Prop := plantOwnRow.holds Tryz.pinned (OpenSpec.ofChange plantOwnSpec)

/-- ITS FALSE NEIGHBOUR: 'it returns false'. Refute it at one input. -/
def plantOwnWrong : ChangeSpec := { name := "plantOwn", fn := fun _ => fun
  | [d1, d2, d3, d4, d5, d6, d7] => { results := [.lit (.bool false)], args := [d1, d2, d3, d4, d5, d6, d7] }
  | _ => none }
def PlantOwnWrongFalsely : Prop := plantOwnRow.holds Tryz.pinned (OpenSpec.ofChange plantOwnWrong)

/-- 'gaolerlaw14.PlantNeeds': WHATEVER THE INPUT: true; the input reads as it did. -/
def plantNeedsSpec : ChangeSpec := { name := "plantNeeds", fn := fun _ => fun
  | [d1, d2, d3, d4, d5, d6, d7] => { results := [.lit (.bool true)], args := [d1, d2, d3, d4, d5, d6, d7] }
  | _ => none }
def plantNeedsRow : OpenClaim := { program := "ytgcllgfkifpkeaagreat", sum := "b594225ce21ca6dec0663f501cb03f7ae51abea9b7fd5f38668e1aca92059454", func := "gaoler/gaolerlaw14.PlantNeeds", spec := "plantNeeds", inPlace := ["internal/bytealg.IndexByteString", "internal/bytealg.IndexString", "slices.overlaps[gaoler/node.Ent]"], unfollowed := true, recurses := true, named := ["internal/bytealg.MaxLen"], apart := false }
def PlantNeedsSaid : Prop := plantNeedsRow.holds Tryz.pinned (OpenSpec.ofChange plantNeedsSpec)

/-- ITS FALSE NEIGHBOUR: 'it returns false'. Refute it at one input. -/
def plantNeedsWrong : ChangeSpec := { name := "plantNeeds", fn := fun _ => fun
  | [d1, d2, d3, d4, d5, d6, d7] => { results := [.lit (.bool false)], args := [d1, d2, d3, d4, d5, d6, d7] }
  | _ => none }
def PlantNeedsWrongFalsely : Prop := plantNeedsRow.holds Tryz.pinned (OpenSpec.ofChange plantNeedsWrong)

/- THE SECOND FORM. 'bulk': how many values and letters a reading holds, each counted each time it is reached (what is shared counts as often as it is met; a slice's spare places count too). A statement '..UptoSaid' is the law's where the arguments, and the package variables that the reading takes, are together of bulk at most 1048576: NARROWER than '..Said'. Prove '..Said' where nothing that the law and all that it calls make is longer than what came in: it says more and counts as full. Else prove '..UptoSaid'. A law counts once. -/
mutual
def uptoBulk {H : Type} : DataW H → Nat
  | .lit (.string bytes) => bytes.length + 1
  | .lit _ => 1
  | .nil => 1
  | .ptr d => uptoBulk d + 1
  | .slice elems spare => uptoBulkAll elems + uptoBulkAll spare + 1
  | .agg parts => uptoBulkAll parts + 1
  | .iface _ d => uptoBulk d + 1
  | .map entries => uptoBulkEntries entries + 1
  | .held _ => 1
def uptoBulkAll {H : Type} : List (DataW H) → Nat
  | [] => 0
  | d :: r => uptoBulk d + uptoBulkAll r
def uptoBulkEntries {H : Type} : List (Lit × DataW H) → Nat
  | [] => 0
  | x :: r => uptoBulkEntry x + uptoBulkEntries r
def uptoBulkEntry {H : Type} : Lit × DataW H → Nat
  | (.string bytes, d) => bytes.length + uptoBulk d + 1
  | (_, d) => uptoBulk d + 1
 end
def uptoSmall : (H : Type) → List (DataW H) → Bool := fun _ ds => decide (uptoBulkAll ds ≤ 1048576)
def OpenSpec.upto (s : _root_.Go.ChangeSpec) : _root_.Go.OpenSpec := { _root_.Go.OpenSpec.ofChange s with cond := some uptoSmall }

/-- 'gaolerlaw14.PlantFiles', WHERE WHAT IT READS IS OF BULK AT MOST 1048576: true; the input reads as it did. -/
def plantFilesUptoRow : OpenClaim := { program := "ytgcllgfkifpkeaagreat", sum := "b594225ce21ca6dec0663f501cb03f7ae51abea9b7fd5f38668e1aca92059454", func := "gaoler/gaolerlaw14.PlantFiles", spec := "plantFiles", inPlace := ["internal/bytealg.IndexByteString", "internal/bytealg.IndexString", "slices.overlaps[gaoler/node.Ent]"], unfollowed := true, recurses := true, named := ["internal/bytealg.MaxLen"], apart := false, narrowed := true }
def PlantFilesUptoSaid : Prop := plantFilesUptoRow.holds Tryz.pinned (OpenSpec.upto plantFilesSpec)

/-- 'gaolerlaw14.PlantOwn', WHERE WHAT IT READS IS OF BULK AT MOST 1048576: true; the input reads as it did. -/
def plantOwnUptoRow : OpenClaim := { program := "ytgcllgfkifpkeaagreat", sum := "b594225ce21ca6dec0663f501cb03f7ae51abea9b7fd5f38668e1aca92059454", func := "gaoler/gaolerlaw14.PlantOwn", spec := "plantOwn", inPlace := ["internal/bytealg.IndexByteString", "internal/bytealg.IndexString", "slices.overlaps[gaoler/node.Ent]"], unfollowed := true, recurses := true, named := ["internal/bytealg.MaxLen"], apart := false, narrowed := true }
def PlantOwnUptoSaid : Prop := plantOwnUptoRow.holds Tryz.pinned (OpenSpec.upto plantOwnSpec)

/-- 'gaolerlaw14.PlantNeeds', WHERE WHAT IT READS IS OF BULK AT MOST 1048576: true; the input reads as it did. -/
def plantNeedsUptoRow : OpenClaim := { program := "ytgcllgfkifpkeaagreat", sum := "b594225ce21ca6dec0663f501cb03f7ae51abea9b7fd5f38668e1aca92059454", func := "gaoler/gaolerlaw14.PlantNeeds", spec := "plantNeeds", inPlace := ["internal/bytealg.IndexByteString", "internal/bytealg.IndexString", "slices.overlaps[gaoler/node.Ent]"], unfollowed := true, recurses := true, named := ["internal/bytealg.MaxLen"], apart := false, narrowed := true }
def PlantNeedsUptoSaid : Prop := plantNeedsUptoRow.holds Tryz.pinned (OpenSpec.upto plantNeedsSpec)

end Rows
end Go.Proofs.YtgcllgfkifpkeaaGreat
