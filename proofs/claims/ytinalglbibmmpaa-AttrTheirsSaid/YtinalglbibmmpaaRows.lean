/-
  No cell of these rows narrows 'for every input' (looked for: loops, veiled, ifaces, maps, wideKeys, modest, calm, conditions, laid).
  DERIVED. THE GIVEN ROWS OF THIS SEAT. 3 by the template 'for every input the law returns true; each argument reads behind the call as it read before'; 0 by the template 'total and deterministic' (their statements: YtinalglbibmmpaaTotals.lean).
  GIVEN WITH THE SEED: the statements are not yours to turn. If you find one false, say at which input.
  Laid BY PROGRAM, IN A SANDBOX (cutbox-rows.mjs): the forced cells as the released guide's own fill.sh prints them over the translation 304a0f0a37eb6e71… (all of the seat's roots in one cut). By AI agents, Wed Nov 11 2026. No macro, syntax, notation, axiom, sorry.
-/
import Derived.Test.YtinalglbibmmpaaChecked
import GoSem.Claim
import GoSem.ClaimJoined
import GoSem.ClaimMapViews
import Derived.JoinedTies
import Derived.KernelRfl
namespace Go.Proofs.Ytinalglbibmmpaa
/- THE CELL 'sum', in the pinned program and in every row, IS THE sha256 OF THE DUMP (.gsa) THAT YtinalglbibmmpaaProg.lean LOADS. Nothing in Lean hashes anything: it is a label: what it is worth is what the hold of that sum in a sandbox is worth. -/
noncomputable def Try.pinned : Pinned := { name := "ytinalglbibmmpaa", sum := "304a0f0a37eb6e71f9ca0322f1694164dad3efbab37eaaed3b44ed0a66fbef98", checked := Try.checked }
namespace Rows
def none {H : Type} : Left H := { results := [], args := [] }

/-- 'gaolerlaw13.AttrTheirs': WHATEVER THE INPUT: true; the input reads as it did. -/
def attrTheirsSpec : ChangeSpec := { name := "attrTheirs", fn := fun _ => fun
  | [d1, d2, d3, d4, d5, d6, d7, d8] => { results := [.lit (.bool true)], args := [d1, d2, d3, d4, d5, d6, d7, d8] }
  | _ => none }
def attrTheirsRow : OpenClaim := { program := "ytinalglbibmmpaa", sum := "304a0f0a37eb6e71f9ca0322f1694164dad3efbab37eaaed3b44ed0a66fbef98", func := "gaoler/gaolerlaw13.AttrTheirs", spec := "attrTheirs", inPlace := ["internal/bytealg.IndexByteString", "internal/bytealg.IndexString", "slices.overlaps[gaoler/node.Ent]"], unfollowed := true, recurses := true, named := ["internal/bytealg.MaxLen"], apart := false }
def AttrTheirsSaid : Prop := attrTheirsRow.holds Try.pinned (OpenSpec.ofChange attrTheirsSpec)

/-- ITS FALSE NEIGHBOUR: 'it returns false'. Refute it at one input. -/
def attrTheirsWrong : ChangeSpec := { name := "attrTheirs", fn := fun _ => fun
  | [d1, d2, d3, d4, d5, d6, d7, d8] => { results := [.lit (.bool false)], args := [d1, d2, d3, d4, d5, d6, d7, d8] }
  | _ => none }
def AttrTheirsWrongFalsely : Prop := attrTheirsRow.holds Try.pinned (OpenSpec.ofChange attrTheirsWrong)

/-- 'gaolerlaw13.AttrLast': WHATEVER THE INPUT: true; the input reads as it did. -/
def attrLastSpec : ChangeSpec := { name := "attrLast", fn := fun _ => fun
  | [d1, d2, d3, d4, d5, d6] => { results := [.lit (.bool true)], args := [d1, d2, d3, d4, d5, d6] }
  | _ => none }
def attrLastRow : OpenClaim := { program := "ytinalglbibmmpaa", sum := "304a0f0a37eb6e71f9ca0322f1694164dad3efbab37eaaed3b44ed0a66fbef98", func := "gaoler/gaolerlaw13.AttrLast", spec := "attrLast", inPlace := ["internal/bytealg.IndexByteString", "internal/bytealg.IndexString", "slices.overlaps[gaoler/node.Ent]"], unfollowed := true, recurses := true, named := ["internal/bytealg.MaxLen"], apart := false }
def AttrLastSaid : Prop := attrLastRow.holds Try.pinned (OpenSpec.ofChange attrLastSpec)

/-- ITS FALSE NEIGHBOUR: 'it returns false'. Refute it at one input. -/
def attrLastWrong : ChangeSpec := { name := "attrLast", fn := fun _ => fun
  | [d1, d2, d3, d4, d5, d6] => { results := [.lit (.bool false)], args := [d1, d2, d3, d4, d5, d6] }
  | _ => none }
def AttrLastWrongFalsely : Prop := attrLastRow.holds Try.pinned (OpenSpec.ofChange attrLastWrong)

/-- 'gaolerlaw13.AttrRoot': WHATEVER THE INPUT: true; the input reads as it did. -/
def attrRootSpec : ChangeSpec := { name := "attrRoot", fn := fun _ => fun
  | [d1, d2, d3, d4, d5, d6] => { results := [.lit (.bool true)], args := [d1, d2, d3, d4, d5, d6] }
  | _ => none }
def attrRootRow : OpenClaim := { program := "ytinalglbibmmpaa", sum := "304a0f0a37eb6e71f9ca0322f1694164dad3efbab37eaaed3b44ed0a66fbef98", func := "gaoler/gaolerlaw13.AttrRoot", spec := "attrRoot", inPlace := ["internal/bytealg.IndexByteString", "internal/bytealg.IndexString", "slices.overlaps[gaoler/node.Ent]"], unfollowed := true, recurses := true, named := ["internal/bytealg.MaxLen"], apart := false }
def AttrRootSaid : Prop := attrRootRow.holds Try.pinned (OpenSpec.ofChange attrRootSpec)

/-- ITS FALSE NEIGHBOUR: 'it returns false'. Refute it at one input. -/
def attrRootWrong : ChangeSpec := { name := "attrRoot", fn := fun _ => fun
  | [d1, d2, d3, d4, d5, d6] => { results := [.lit (.bool false)], args := [d1, d2, d3, d4, d5, d6] }
  | _ => none }
def AttrRootWrongFalsely : Prop := attrRootRow.holds Try.pinned (OpenSpec.ofChange attrRootWrong)

/- THE SECOND FORM. 'bulk': how many values and letters a reading holds, each counted each time it is reached (what is shared counts as often as it is met; a slice's spare places count too). A statement '..UptoSaid' is the law's where the arguments, and the package variables that the reading takes, are together of bulk at most 1048576: NARROWER than '..Said'. Prove '..Said' where nothing that the law and all that it calls make is longer than what came in: it says more and counts as full. Else prove '..UptoSaid'. A law counts once. -/
mutual
def uptoBulk {H : Type} : DataW H → Nat
  | .lit (.string bytes) => bytes.length + 1
  | .lit _ => 1
  | .nil => 1
  | .ptr d => uptoBulk d + 1
  | .slice elems spare => uptoBulkAll elems + uptoBulkAll spare + 1
  | .agg parts => uptoBulkAll parts + 1
  | .iface _ d => uptoBulk d + 1
  | .map entries => uptoBulkEntries entries + 1
  | .held _ => 1
def uptoBulkAll {H : Type} : List (DataW H) → Nat
  | [] => 0
  | d :: r => uptoBulk d + uptoBulkAll r
def uptoBulkEntries {H : Type} : List (Lit × DataW H) → Nat
  | [] => 0
  | x :: r => uptoBulkEntry x + uptoBulkEntries r
def uptoBulkEntry {H : Type} : Lit × DataW H → Nat
  | (.string bytes, d) => bytes.length + uptoBulk d + 1
  | (_, d) => uptoBulk d + 1
 end
def uptoSmall : (H : Type) → List (DataW H) → Bool := fun _ ds => decide (uptoBulkAll ds ≤ 1048576)
def OpenSpec.upto (s : _root_.Go.ChangeSpec) : _root_.Go.OpenSpec := { _root_.Go.OpenSpec.ofChange s with cond := some uptoSmall }

/-- 'gaolerlaw13.AttrTheirs', WHERE WHAT IT READS IS OF BULK AT MOST 1048576: true; the input reads as it did. -/
def attrTheirsUptoRow : OpenClaim := { program := "ytinalglbibmmpaa", sum := "304a0f0a37eb6e71f9ca0322f1694164dad3efbab37eaaed3b44ed0a66fbef98", func := "gaoler/gaolerlaw13.AttrTheirs", spec := "attrTheirs", inPlace := ["internal/bytealg.IndexByteString", "internal/bytealg.IndexString", "slices.overlaps[gaoler/node.Ent]"], unfollowed := true, recurses := true, named := ["internal/bytealg.MaxLen"], apart := false, narrowed := true }
def AttrTheirsUptoSaid : Prop := attrTheirsUptoRow.holds Try.pinned (OpenSpec.upto attrTheirsSpec)

/-- 'gaolerlaw13.AttrLast', WHERE WHAT IT READS IS OF BULK AT MOST 1048576: true; the input reads as it did. -/
def attrLastUptoRow : OpenClaim := { program := "ytinalglbibmmpaa", sum := "304a0f0a37eb6e71f9ca0322f1694164dad3efbab37eaaed3b44ed0a66fbef98", func := "gaoler/gaolerlaw13.AttrLast", spec := "attrLast", inPlace := ["internal/bytealg.IndexByteString", "internal/bytealg.IndexString", "slices.overlaps[gaoler/node.Ent]"], unfollowed := true, recurses := true, named := ["internal/bytealg.MaxLen"], apart := false, narrowed := true }
def AttrLastUptoSaid : Prop := attrLastUptoRow.holds Try.pinned (OpenSpec.upto attrLastSpec)

/-- 'gaolerlaw13.AttrRoot', WHERE WHAT IT READS IS OF BULK AT MOST 1048576: true; the input reads as it did. -/
def attrRootUptoRow : OpenClaim := { program := "ytinalglbibmmpaa", sum := "304a0f0a37eb6e71f9ca0322f1694164dad3efbab37eaaed3b44ed0a66fbef98", func := "gaoler/gaolerlaw13.AttrRoot", spec := "attrRoot", inPlace := ["internal/bytealg.IndexByteString", "internal/bytealg.IndexString", "slices.overlaps[gaoler/node.Ent]"], unfollowed := true, recurses := true, named := ["internal/bytealg.MaxLen"], apart := false, narrowed := true }
def AttrRootUptoSaid : Prop := attrRootUptoRow.holds Try.pinned (OpenSpec.upto attrRootSpec)

end Rows
end Go.Proofs.Ytinalglbibmmpaa
