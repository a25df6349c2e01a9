/-
  No cell of these rows narrows 'for every input' (looked for: loops, veiled, ifaces, maps, wideKeys, modest, calm, conditions, laid).
  DERIVED. THE GIVEN ROWS OF THIS SEAT. 5 by the template 'for every input the law returns true; each argument reads behind the call as it read before'; 0 by the template 'total and deterministic' (their statements: YtilepnepcamnaaaGreatTotals.lean).
  GIVEN WITH THE SEED: the statements are not yours to turn. If you find one false, say at which input.
  Laid BY PROGRAM, IN A SANDBOX (cutbox-rows.mjs): the forced cells as the released guide's own fill.sh prints them over the translation b75c4ca8e0ce424e… (all of the seat's roots in one cut). By AI agents, Wed Nov 11 2026. No macro, syntax, notation, axiom, sorry.
-/
import Derived.Test.YtilepnepcamnaaaGreatChecked
import GoSem.Claim
import GoSem.ClaimJoined
import GoSem.ClaimMapViews
import Derived.JoinedTies
import Derived.KernelRfl
namespace Go.Proofs.YtilepnepcamnaaaGreat
/- THE CELL 'sum', in the pinned program and in every row, IS THE sha256 OF THE DUMP (.gsa) THAT YtilepnepcamnaaaGreatProg.lean LOADS. Nothing in Lean hashes anything: it is a label: what it is worth is what the hold of that sum in a sandbox is worth. -/
noncomputable def Tryz.pinned : Pinned := { name := "ytilepnepcamnaaagreat", sum := "b75c4ca8e0ce424ea62366748e1b900d5884475d478a3089aa5bee16fa9c54a5", checked := Tryz.checked }
namespace Rows
def none {H : Type} : Left H := { results := [], args := [] }

/-- 'gaolerlaw12.LookStats': WHATEVER THE INPUT: true; the input reads as it did. -/
def lookStatsSpec : ChangeSpec := { name := "lookStats", fn := fun _ => fun
  | [d1, d2, d3, d4, d5] => { results := [.lit (.bool true)], args := [d1, d2, d3, d4, d5] }
  | _ => none }
def lookStatsRow : OpenClaim := { program := "ytilepnepcamnaaagreat", sum := "b75c4ca8e0ce424ea62366748e1b900d5884475d478a3089aa5bee16fa9c54a5", func := "gaoler/gaolerlaw12.LookStats", spec := "lookStats", inPlace := ["internal/bytealg.IndexByteString", "internal/bytealg.IndexString", "slices.overlaps[gaoler/node.Ent]"], unfollowed := true, recurses := true, named := ["internal/bytealg.MaxLen"], apart := false }
def LookStatsSaid : Prop := lookStatsRow.holds Tryz.pinned (OpenSpec.ofChange lookStatsSpec)

/-- ITS FALSE NEIGHBOUR: 'it returns false'. Refute it at one input. -/
def lookStatsWrong : ChangeSpec := { name := "lookStats", fn := fun _ => fun
  | [d1, d2, d3, d4, d5] => { results := [.lit (.bool false)], args := [d1, d2, d3, d4, d5] }
  | _ => none }
def LookStatsWrongFalsely : Prop := lookStatsRow.holds Tryz.pinned (OpenSpec.ofChange lookStatsWrong)

/-- 'gaolerlaw12.LookLists': WHATEVER THE INPUT: true; the input reads as it did. -/
def lookListsSpec : ChangeSpec := { name := "lookLists", fn := fun _ => fun
  | [d1, d2, d3, d4] => { results := [.lit (.bool true)], args := [d1, d2, d3, d4] }
  | _ => none }
def lookListsRow : OpenClaim := { program := "ytilepnepcamnaaagreat", sum := "b75c4ca8e0ce424ea62366748e1b900d5884475d478a3089aa5bee16fa9c54a5", func := "gaoler/gaolerlaw12.LookLists", spec := "lookLists", inPlace := ["internal/bytealg.IndexByteString", "internal/bytealg.IndexString", "slices.overlaps[gaoler/node.Ent]"], unfollowed := true, recurses := true, named := ["internal/bytealg.MaxLen"], apart := false }
def LookListsSaid : Prop := lookListsRow.holds Tryz.pinned (OpenSpec.ofChange lookListsSpec)

/-- ITS FALSE NEIGHBOUR: 'it returns false'. Refute it at one input. -/
def lookListsWrong : ChangeSpec := { name := "lookLists", fn := fun _ => fun
  | [d1, d2, d3, d4] => { results := [.lit (.bool false)], args := [d1, d2, d3, d4] }
  | _ => none }
def LookListsWrongFalsely : Prop := lookListsRow.holds Tryz.pinned (OpenSpec.ofChange lookListsWrong)

/-- 'gaolerlaw12.LookLinks': WHATEVER THE INPUT: true; the input reads as it did. -/
def lookLinksSpec : ChangeSpec := { name := "lookLinks", fn := fun _ => fun
  | [d1, d2, d3, d4, d5] => { results := [.lit (.bool true)], args := [d1, d2, d3, d4, d5] }
  | _ => none }
def lookLinksRow : OpenClaim := { program := "ytilepnepcamnaaagreat", sum := "b75c4ca8e0ce424ea62366748e1b900d5884475d478a3089aa5bee16fa9c54a5", func := "gaoler/gaolerlaw12.LookLinks", spec := "lookLinks", inPlace := ["internal/bytealg.IndexByteString", "internal/bytealg.IndexString", "slices.overlaps[gaoler/node.Ent]"], unfollowed := true, recurses := true, named := ["internal/bytealg.MaxLen"], apart := false }
def LookLinksSaid : Prop := lookLinksRow.holds Tryz.pinned (OpenSpec.ofChange lookLinksSpec)

/-- ITS FALSE NEIGHBOUR: 'it returns false'. Refute it at one input. -/
def lookLinksWrong : ChangeSpec := { name := "lookLinks", fn := fun _ => fun
  | [d1, d2, d3, d4, d5] => { results := [.lit (.bool false)], args := [d1, d2, d3, d4, d5] }
  | _ => none }
def LookLinksWrongFalsely : Prop := lookLinksRow.holds Tryz.pinned (OpenSpec.ofChange lookLinksWrong)

/-- 'gaolerlaw12.LookBelow': WHATEVER THE INPUT: true; the input reads as it did. -/
def lookBelowSpec : ChangeSpec := { name := "lookBelow", fn := fun _ => fun
  | [d1, d2, d3, d4] => { results := [.lit (.bool true)], args := [d1, d2, d3, d4] }
  | _ => none }
def lookBelowRow : OpenClaim := { program := "ytilepnepcamnaaagreat", sum := "b75c4ca8e0ce424ea62366748e1b900d5884475d478a3089aa5bee16fa9c54a5", func := "gaoler/gaolerlaw12.LookBelow", spec := "lookBelow", inPlace := ["internal/bytealg.IndexByteString", "internal/bytealg.IndexString", "slices.overlaps[gaoler/node.Ent]"], unfollowed := true, recurses := true, named := ["internal/bytealg.MaxLen"], apart := false }
def LookBelowSaid : Prop := lookBelowRow.holds Tryz.pinned (OpenSpec.ofChange lookBelowSpec)

/-- ITS FALSE NEIGHBOUR: 'it returns false'. Refute it at one input. -/
def lookBelowWrong : ChangeSpec := { name := "lookBelow", fn := fun _ => fun
  | [d1, d2, d3, d4] => { results := [.lit (.bool false)], args := [d1, d2, d3, d4] }
  | _ => none }
def LookBelowWrongFalsely : Prop := lookBelowRow.holds Tryz.pinned (OpenSpec.ofChange lookBelowWrong)

/-- 'gaolerlaw12.LookSame': WHATEVER THE INPUT: true; the input reads as it did. -/
def lookSameSpec : ChangeSpec := { name := "lookSame", fn := fun _ => fun
  | [d1, d2, d3, d4, d5] => { results := [.lit (.bool true)], args := [d1, d2, d3, d4, d5] }
  | _ => none }
def lookSameRow : OpenClaim := { program := "ytilepnepcamnaaagreat", sum := "b75c4ca8e0ce424ea62366748e1b900d5884475d478a3089aa5bee16fa9c54a5", func := "gaoler/gaolerlaw12.LookSame", spec := "lookSame", inPlace := ["internal/bytealg.IndexByteString", "internal/bytealg.IndexString", "slices.overlaps[gaoler/node.Ent]"], unfollowed := true, recurses := true, named := ["internal/bytealg.MaxLen"], apart := false }
def LookSameSaid : Prop := lookSameRow.holds Tryz.pinned (OpenSpec.ofChange lookSameSpec)

/-- ITS FALSE NEIGHBOUR: 'it returns false'. Refute it at one input. -/
def lookSameWrong : ChangeSpec := { name := "lookSame", fn := fun _ => fun
  | [d1, d2, d3, d4, d5] => { results := [.lit (.bool false)], args := [d1, d2, d3, d4, d5] }
  | _ => none }
def LookSameWrongFalsely : Prop := lookSameRow.holds Tryz.pinned (OpenSpec.ofChange lookSameWrong)

/- THE SECOND FORM. 'bulk': how many values and letters a reading holds, each counted each time it is reached (what is shared counts as often as it is met; a slice's spare places count too). A statement '..UptoSaid' is the law's where the arguments, and the package variables that the reading takes, are together of bulk at most 1048576: NARROWER than '..Said'. Prove '..Said' where nothing that the law and all that it calls make is longer than what came in: it says more and counts as full. Else prove '..UptoSaid'. A law counts once. -/
mutual
def uptoBulk {H : Type} : DataW H → Nat
  | .lit (.string bytes) => bytes.length + 1
  | .lit _ => 1
  | .nil => 1
  | .ptr d => uptoBulk d + 1
  | .slice elems spare => uptoBulkAll elems + uptoBulkAll spare + 1
  | .agg parts => uptoBulkAll parts + 1
  | .iface _ d => uptoBulk d + 1
  | .map entries => uptoBulkEntries entries + 1
  | .held _ => 1
def uptoBulkAll {H : Type} : List (DataW H) → Nat
  | [] => 0
  | d :: r => uptoBulk d + uptoBulkAll r
def uptoBulkEntries {H : Type} : List (Lit × DataW H) → Nat
  | [] => 0
  | x :: r => uptoBulkEntry x + uptoBulkEntries r
def uptoBulkEntry {H : Type} : Lit × DataW H → Nat
  | (.string bytes, d) => bytes.length + uptoBulk d + 1
  | (_, d) => uptoBulk d + 1
 end
def uptoSmall : (H : Type) → List (DataW H) → Bool := fun _ ds => decide (uptoBulkAll ds ≤ 1048576)
def OpenSpec.upto (s : _root_.Go.ChangeSpec) : _root_.Go.OpenSpec := { _root_.Go.OpenSpec.ofChange s with cond := some uptoSmall }

/-- 'gaolerlaw12.LookStats', WHERE WHAT IT READS IS OF BULK AT MOST 1048576: true; the input reads as it did. -/
def lookStatsUptoRow : OpenClaim := { program := "ytilepnepcamnaaagreat", sum := "b75c4ca8e0ce424ea62366748e1b900d5884475d478a3089aa5bee16fa9c54a5", func := "gaoler/gaolerlaw12.LookStats", spec := "lookStats", inPlace := ["internal/bytealg.IndexByteString", "internal/bytealg.IndexString", "slices.overlaps[gaoler/node.Ent]"], unfollowed := true, recurses := true, named := ["internal/bytealg.MaxLen"], apart := false, narrowed := true }
def LookStatsUptoSaid : Prop := lookStatsUptoRow.holds Tryz.pinned (OpenSpec.upto lookStatsSpec)

/-- 'gaolerlaw12.LookLists', WHERE WHAT IT READS IS OF BULK AT MOST 1048576: true; the input reads as it did. -/
def lookListsUptoRow : OpenClaim := { program := "ytilepnepcamnaaagreat", sum := "b75c4ca8e0ce424ea62366748e1b900d5884475d478a3089aa5bee16fa9c54a5", func := "gaoler/gaolerlaw12.LookLists", spec := "lookLists", inPlace := ["internal/bytealg.IndexByteString", "internal/bytealg.IndexString", "slices.overlaps[gaoler/node.Ent]"], unfollowed := true, recurses := true, named := ["internal/bytealg.MaxLen"], apart := false, narrowed := true }
def LookListsUptoSaid : Prop := lookListsUptoRow.holds Tryz.pinned (OpenSpec.upto lookListsSpec)

/-- 'gaolerlaw12.LookLinks', WHERE WHAT IT READS IS OF BULK AT MOST 1048576: true; the input reads as it did. -/
def lookLinksUptoRow : OpenClaim := { program := "ytilepnepcamnaaagreat", sum := "b75c4ca8e0ce424ea62366748e1b900d5884475d478a3089aa5bee16fa9c54a5", func := "gaoler/gaolerlaw12.LookLinks", spec := "lookLinks", inPlace := ["internal/bytealg.IndexByteString", "internal/bytealg.IndexString", "slices.overlaps[gaoler/node.Ent]"], unfollowed := true, recurses := true, named := ["internal/bytealg.MaxLen"], apart := false, narrowed := true }
def LookLinksUptoSaid : Prop := lookLinksUptoRow.holds Tryz.pinned (OpenSpec.upto lookLinksSpec)

/-- 'gaolerlaw12.LookBelow', WHERE WHAT IT READS IS OF BULK AT MOST 1048576: true; the input reads as it did. -/
def lookBelowUptoRow : OpenClaim := { program := "ytilepnepcamnaaagreat", sum := "b75c4ca8e0ce424ea62366748e1b900d5884475d478a3089aa5bee16fa9c54a5", func := "gaoler/gaolerlaw12.LookBelow", spec := "lookBelow", inPlace := ["internal/bytealg.IndexByteString", "internal/bytealg.IndexString", "slices.overlaps[gaoler/node.Ent]"], unfollowed := true, recurses := true, named := ["internal/bytealg.MaxLen"], apart := false, narrowed := true }
def LookBelowUptoSaid : Prop := lookBelowUptoRow.holds Tryz.pinned (OpenSpec.upto lookBelowSpec)

/-- 'gaolerlaw12.LookSame', WHERE WHAT IT READS IS OF BULK AT MOST 1048576: true; the input reads as it did. -/
def lookSameUptoRow : OpenClaim := { program := "ytilepnepcamnaaagreat", sum := "b75c4ca8e0ce424ea62366748e1b900d5884475d478a3089aa5bee16fa9c54a5", func := "gaoler/gaolerlaw12.LookSame", spec := "lookSame", inPlace := ["internal/bytealg.IndexByteString", "internal/bytealg.IndexString", "slices.overlaps[gaoler/node.Ent]"], unfollowed := true, recurses := true, named := ["internal/bytealg.MaxLen"], apart := false, narrowed := true }
def LookSameUptoSaid : Prop := lookSameUptoRow.holds Tryz.pinned (OpenSpec.upto lookSameSpec)

end Rows
end Go.Proofs.YtilepnepcamnaaaGreat
