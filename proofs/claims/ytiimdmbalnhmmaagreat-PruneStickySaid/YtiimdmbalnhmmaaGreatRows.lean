/-
  No cell of these rows narrows 'for every input' (looked for: loops, veiled, ifaces, maps, wideKeys, modest, calm, conditions, laid).
  DERIVED. THE GIVEN ROWS OF THIS SEAT. 5 by the template 'for every input the law returns true; each argument reads behind the call as it read before'; 0 by the template 'total and deterministic' (their statements: YtiimdmbalnhmmaaGreatTotals.lean).
  GIVEN WITH THE SEED: the statements are not yours to turn. If you find one false, say at which input.
  Laid BY PROGRAM, IN A SANDBOX (cutbox-rows.mjs): the forced cells as the released guide's own fill.sh prints them over the translation 214a11b5b98eaf42… (all of the seat's roots in one cut). By AI agents, Wed Nov 11 2026. No macro, syntax, notation, axiom, sorry.
-/
import Derived.Test.YtiimdmbalnhmmaaGreatChecked
import GoSem.Claim
import GoSem.ClaimJoined
import GoSem.ClaimMapViews
import Derived.JoinedTies
import Derived.KernelRfl
namespace Go.Proofs.YtiimdmbalnhmmaaGreat
/- THE CELL 'sum', in the pinned program and in every row, IS THE sha256 OF THE DUMP (.gsa) THAT YtiimdmbalnhmmaaGreatProg.lean LOADS. Nothing in Lean hashes anything: it is a label: what it is worth is what the hold of that sum in a sandbox is worth. -/
noncomputable def Tryz.pinned : Pinned := { name := "ytiimdmbalnhmmaagreat", sum := "214a11b5b98eaf42230937bb76809bdc9819b5657bc6637800b4fb511972e9a7", checked := Tryz.checked }
namespace Rows
def none {H : Type} : Left H := { results := [], args := [] }

/-- 'gaolerlaw15.PruneTakes': WHATEVER THE INPUT: true; the input reads as it did. -/
def pruneTakesSpec : ChangeSpec := { name := "pruneTakes", fn := fun _ => fun
  | [d1, d2, d3, d4, d5, d6, d7] => { results := [.lit (.bool true)], args := [d1, d2, d3, d4, d5, d6, d7] }
  | _ => none }
def pruneTakesRow : OpenClaim := { program := "ytiimdmbalnhmmaagreat", sum := "214a11b5b98eaf42230937bb76809bdc9819b5657bc6637800b4fb511972e9a7", func := "gaoler/gaolerlaw15.PruneTakes", spec := "pruneTakes", inPlace := ["internal/bytealg.IndexByteString", "internal/bytealg.IndexString", "slices.overlaps[gaoler/node.Ent]"], unfollowed := true, recurses := true, named := ["internal/bytealg.MaxLen"], apart := false }
def PruneTakesSaid : Prop := pruneTakesRow.holds Tryz.pinned (OpenSpec.ofChange pruneTakesSpec)

/-- ITS FALSE NEIGHBOUR: 'it returns false'. Refute it at one input. -/
def pruneTakesWrong : ChangeSpec := { name := "pruneTakes", fn := fun _ => fun
  | [d1, d2, d3, d4, d5, d6, d7] => { results := [.lit (.bool false)], args := [d1, d2, d3, d4, d5, d6, d7] }
  | _ => none }
def PruneTakesWrongFalsely : Prop := pruneTakesRow.holds Tryz.pinned (OpenSpec.ofChange pruneTakesWrong)

/-- 'gaolerlaw15.PruneMoves': WHATEVER THE INPUT: true; the input reads as it did. -/
def pruneMovesSpec : ChangeSpec := { name := "pruneMoves", fn := fun _ => fun
  | [d1, d2, d3, d4, d5, d6] => { results := [.lit (.bool true)], args := [d1, d2, d3, d4, d5, d6] }
  | _ => none }
def pruneMovesRow : OpenClaim := { program := "ytiimdmbalnhmmaagreat", sum := "214a11b5b98eaf42230937bb76809bdc9819b5657bc6637800b4fb511972e9a7", func := "gaoler/gaolerlaw15.PruneMoves", spec := "pruneMoves", inPlace := ["internal/bytealg.IndexByteString", "internal/bytealg.IndexString", "slices.overlaps[gaoler/node.Ent]"], unfollowed := true, recurses := true, named := ["internal/bytealg.MaxLen"], apart := false }
def PruneMovesSaid : Prop := pruneMovesRow.holds Tryz.pinned (OpenSpec.ofChange pruneMovesSpec)

/-- ITS FALSE NEIGHBOUR: 'it returns false'. Refute it at one input. -/
def pruneMovesWrong : ChangeSpec := { name := "pruneMoves", fn := fun _ => fun
  | [d1, d2, d3, d4, d5, d6] => { results := [.lit (.bool false)], args := [d1, d2, d3, d4, d5, d6] }
  | _ => none }
def PruneMovesWrongFalsely : Prop := pruneMovesRow.holds Tryz.pinned (OpenSpec.ofChange pruneMovesWrong)

/-- 'gaolerlaw15.PruneTree': WHATEVER THE INPUT: true; the input reads as it did. -/
def pruneTreeSpec : ChangeSpec := { name := "pruneTree", fn := fun _ => fun
  | [d1, d2, d3, d4, d5, d6] => { results := [.lit (.bool true)], args := [d1, d2, d3, d4, d5, d6] }
  | _ => none }
def pruneTreeRow : OpenClaim := { program := "ytiimdmbalnhmmaagreat", sum := "214a11b5b98eaf42230937bb76809bdc9819b5657bc6637800b4fb511972e9a7", func := "gaoler/gaolerlaw15.PruneTree", spec := "pruneTree", inPlace := ["internal/bytealg.IndexByteString", "internal/bytealg.IndexString", "slices.overlaps[gaoler/node.Ent]"], unfollowed := true, recurses := true, named := ["internal/bytealg.MaxLen"], apart := false }
def PruneTreeSaid : Prop := pruneTreeRow.holds Tryz.pinned (OpenSpec.ofChange pruneTreeSpec)

/-- ITS FALSE NEIGHBOUR: 'it returns false'. Refute it at one input. -/
def pruneTreeWrong : ChangeSpec := { name := "pruneTree", fn := fun _ => fun
  | [d1, d2, d3, d4, d5, d6] => { results := [.lit (.bool false)], args := [d1, d2, d3, d4, d5, d6] }
  | _ => none }
def PruneTreeWrongFalsely : Prop := pruneTreeRow.holds Tryz.pinned (OpenSpec.ofChange pruneTreeWrong)

/-- 'gaolerlaw15.PruneMoved': WHATEVER THE INPUT: true; the input reads as it did. -/
def pruneMovedSpec : ChangeSpec := { name := "pruneMoved", fn := fun _ => fun
  | [d1, d2, d3, d4] => { results := [.lit (.bool true)], args := [d1, d2, d3, d4] }
  | _ => none }
def pruneMovedRow : OpenClaim := { program := "ytiimdmbalnhmmaagreat", sum := "214a11b5b98eaf42230937bb76809bdc9819b5657bc6637800b4fb511972e9a7", func := "gaoler/gaolerlaw15.PruneMoved", spec := "pruneMoved", inPlace := ["internal/bytealg.IndexByteString", "internal/bytealg.IndexString", "slices.overlaps[gaoler/node.Ent]"], unfollowed := true, recurses := true, named := ["internal/bytealg.MaxLen"], apart := false }
def PruneMovedSaid : Prop := pruneMovedRow.holds Tryz.pinned (OpenSpec.ofChange pruneMovedSpec)

/-- ITS FALSE NEIGHBOUR: 'it returns false'. Refute it at one input. -/
def pruneMovedWrong : ChangeSpec := { name := "pruneMoved", fn := fun _ => fun
  | [d1, d2, d3, d4] => { results := [.lit (.bool false)], args := [d1, d2, d3, d4] }
  | _ => none }
def PruneMovedWrongFalsely : Prop := pruneMovedRow.holds Tryz.pinned (OpenSpec.ofChange pruneMovedWrong)

/-- 'gaolerlaw15.PruneSticky': WHATEVER THE INPUT: true; the input reads as it did. -/
def pruneStickySpec : ChangeSpec := { name := "pruneSticky", fn := fun _ => fun
  | [d1, d2, d3, d4, d5, d6] => { results := [.lit (.bool true)], args := [d1, d2, d3, d4, d5, d6] }
  | _ => none }
def pruneStickyRow : OpenClaim := { program := "ytiimdmbalnhmmaagreat", sum := "214a11b5b98eaf42230937bb76809bdc9819b5657bc6637800b4fb511972e9a7", func := "gaoler/gaolerlaw15.PruneSticky", spec := "pruneSticky", inPlace := ["internal/bytealg.IndexByteString", "internal/bytealg.IndexString", "slices.overlaps[gaoler/node.Ent]"], unfollowed := true, recurses := true, named := ["internal/bytealg.MaxLen"], apart := false }
def PruneStickySaid : Prop := pruneStickyRow.holds Tryz.pinned (OpenSpec.ofChange pruneStickySpec)

/-- ITS FALSE NEIGHBOUR: 'it returns false'. Refute it at one input. -/
def pruneStickyWrong : ChangeSpec := { name := "pruneSticky", fn := fun _ => fun
  | [d1, d2, d3, d4, d5, d6] => { results := [.lit (.bool false)], args := [d1, d2, d3, d4, d5, d6] }
  | _ => none }
def PruneStickyWrongFalsely : Prop := pruneStickyRow.holds Tryz.pinned (OpenSpec.ofChange pruneStickyWrong)

/- THE SECOND FORM. 'bulk': how many values and letters a reading holds, each counted each time it is reached (what is shared counts as often as it is met; a slice's spare places count too). A statement '..UptoSaid' is the law's where the arguments, and the package variables that the reading takes, are together of bulk at most 1048576: NARROWER than '..Said'. Prove '..Said' where nothing that the law and all that it calls make is longer than what came in: it says more and counts as full. Else prove '..UptoSaid'. A law counts once. -/
mutual
def uptoBulk {H : Type} : DataW H → Nat
  | .lit (.string bytes) => bytes.length + 1
  | .lit _ => 1
  | .nil => 1
  | .ptr d => uptoBulk d + 1
  | .slice elems spare => uptoBulkAll elems + uptoBulkAll spare + 1
  | .agg parts => uptoBulkAll parts + 1
  | .iface _ d => uptoBulk d + 1
  | .map entries => uptoBulkEntries entries + 1
  | .held _ => 1
def uptoBulkAll {H : Type} : List (DataW H) → Nat
  | [] => 0
  | d :: r => uptoBulk d + uptoBulkAll r
def uptoBulkEntries {H : Type} : List (Lit × DataW H) → Nat
  | [] => 0
  | x :: r => uptoBulkEntry x + uptoBulkEntries r
def uptoBulkEntry {H : Type} : Lit × DataW H → Nat
  | (.string bytes, d) => bytes.length + uptoBulk d + 1
  | (_, d) => uptoBulk d + 1
 end
def uptoSmall : (H : Type) → List (DataW H) → Bool := fun _ ds => decide (uptoBulkAll ds ≤ 1048576)
def OpenSpec.upto (s : _root_.Go.ChangeSpec) : _root_.Go.OpenSpec := { _root_.Go.OpenSpec.ofChange s with cond := some uptoSmall }

/-- 'gaolerlaw15.PruneTakes', WHERE WHAT IT READS IS OF BULK AT MOST 1048576: true; the input reads as it did. -/
def pruneTakesUptoRow : OpenClaim := { program := "ytiimdmbalnhmmaagreat", sum := "214a11b5b98eaf42230937bb76809bdc9819b5657bc6637800b4fb511972e9a7", func := "gaoler/gaolerlaw15.PruneTakes", spec := "pruneTakes", inPlace := ["internal/bytealg.IndexByteString", "internal/bytealg.IndexString", "slices.overlaps[gaoler/node.Ent]"], unfollowed := true, recurses := true, named := ["internal/bytealg.MaxLen"], apart := false, narrowed := true }
def PruneTakesUptoSaid : Prop := pruneTakesUptoRow.holds Tryz.pinned (OpenSpec.upto pruneTakesSpec)

/-- 'gaolerlaw15.PruneMoves', WHERE WHAT IT READS IS OF BULK AT MOST 1048576: true; the input reads as it did. -/
def pruneMovesUptoRow : OpenClaim := { program := "ytiimdmbalnhmmaagreat", sum := "214a11b5b98eaf42230937bb76809bdc9819b5657bc6637800b4fb511972e9a7", func := "gaoler/gaolerlaw15.PruneMoves", spec := "pruneMoves", inPlace := ["internal/bytealg.IndexByteString", "internal/bytealg.IndexString", "slices.overlaps[gaoler/node.Ent]"], unfollowed := true, recurses := true, named := ["internal/bytealg.MaxLen"], apart := false, narrowed := true }
def PruneMovesUptoSaid : Prop := pruneMovesUptoRow.holds Tryz.pinned (OpenSpec.upto pruneMovesSpec)

/-- 'gaolerlaw15.PruneTree', WHERE WHAT IT READS IS OF BULK AT MOST 1048576: true; the input reads as it did. -/
def pruneTreeUptoRow : OpenClaim := { program := "ytiimdmbalnhmmaagreat", sum := "214a11b5b98eaf42230937bb76809bdc9819b5657bc6637800b4fb511972e9a7", func := "gaoler/gaolerlaw15.PruneTree", spec := "pruneTree", inPlace := ["internal/bytealg.IndexByteString", "internal/bytealg.IndexString", "slices.overlaps[gaoler/node.Ent]"], unfollowed := true, recurses := true, named := ["internal/bytealg.MaxLen"], apart := false, narrowed := true }
def PruneTreeUptoSaid : Prop := pruneTreeUptoRow.holds Tryz.pinned (OpenSpec.upto pruneTreeSpec)

/-- 'gaolerlaw15.PruneMoved', WHERE WHAT IT READS IS OF BULK AT MOST 1048576: true; the input reads as it did. -/
def pruneMovedUptoRow : OpenClaim := { program := "ytiimdmbalnhmmaagreat", sum := "214a11b5b98eaf42230937bb76809bdc9819b5657bc6637800b4fb511972e9a7", func := "gaoler/gaolerlaw15.PruneMoved", spec := "pruneMoved", inPlace := ["internal/bytealg.IndexByteString", "internal/bytealg.IndexString", "slices.overlaps[gaoler/node.Ent]"], unfollowed := true, recurses := true, named := ["internal/bytealg.MaxLen"], apart := false, narrowed := true }
def PruneMovedUptoSaid : Prop := pruneMovedUptoRow.holds Tryz.pinned (OpenSpec.upto pruneMovedSpec)

/-- 'gaolerlaw15.PruneSticky', WHERE WHAT IT READS IS OF BULK AT MOST 1048576: true; the input reads as it did. -/
def pruneStickyUptoRow : OpenClaim := { program := "ytiimdmbalnhmmaagreat", sum := "214a11b5b98eaf42230937bb76809bdc9819b5657bc6637800b4fb511972e9a7", func := "gaoler/gaolerlaw15.PruneSticky", spec := "pruneSticky", inPlace := ["internal/bytealg.IndexByteString", "internal/bytealg.IndexString", "slices.overlaps[gaoler/node.Ent]"], unfollowed := true, recurses := true, named := ["internal/bytealg.MaxLen"], apart := false, narrowed := true }
def PruneStickyUptoSaid : Prop := pruneStickyUptoRow.holds Tryz.pinned (OpenSpec.upto pruneStickySpec)

end Rows
end Go.Proofs.YtiimdmbalnhmmaaGreat
