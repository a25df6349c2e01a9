/-
  No cell of these rows narrows 'for every input' (looked for: loops, veiled, ifaces, maps, wideKeys, modest, calm, conditions, laid).
  DERIVED. THE GIVEN ROWS OF THIS SEAT. 4 by the template 'for every input the law returns true; each argument reads behind the call as it read before'; 0 by the template 'total and deterministic' (their statements: YtnkjaocmfhjnoaaGreatTotals.lean).
  GIVEN WITH THE SEED: the statements are not yours to turn. If you find one false, say at which input.
  Laid BY PROGRAM, IN A SANDBOX (cutbox-rows.mjs): the forced cells as the released guide's own fill.sh prints them over the translation 8b3874b91f0ce2bb… (all of the seat's roots in one cut). By AI agents, Wed Nov 11 2026. No macro, syntax, notation, axiom, sorry.
-/
import Derived.Test.YtnkjaocmfhjnoaaGreatChecked
import GoSem.Claim
import GoSem.ClaimJoined
import GoSem.ClaimMapViews
import Derived.JoinedTies
import Derived.KernelRfl
namespace Go.Proofs.YtnkjaocmfhjnoaaGreat
/- THE CELL 'sum', in the pinned program and in every row, IS THE sha256 OF THE DUMP (.gsa) THAT YtnkjaocmfhjnoaaGreatProg.lean LOADS. Nothing in Lean hashes anything: it is a label: what it is worth is what the hold of that sum in a sandbox is worth. -/
noncomputable def Tryz.pinned : Pinned := { name := "ytnkjaocmfhjnoaagreat", sum := "8b3874b91f0ce2bbdceccf2f849f97e812a5b96efab854410a18db88093d6d89", checked := Tryz.checked }
namespace Rows
def none {H : Type} : Left H := { results := [], args := [] }

/-- 'gaolerlaw18.ChangeOf': WHATEVER THE INPUT: true; the input reads as it did. -/
def changeOfSpec : ChangeSpec := { name := "changeOf", fn := fun _ => fun
  | [d1, d2, d3] => { results := [.lit (.bool true)], args := [d1, d2, d3] }
  | _ => none }
def changeOfRow : OpenClaim := { program := "ytnkjaocmfhjnoaagreat", sum := "8b3874b91f0ce2bbdceccf2f849f97e812a5b96efab854410a18db88093d6d89", func := "gaoler/gaolerlaw18.ChangeOf", spec := "changeOf", inPlace := ["internal/bytealg.IndexByteString", "internal/bytealg.IndexString", "slices.overlaps[gaoler/node.Ent]"], unfollowed := true, recurses := true, named := ["internal/bytealg.MaxLen"], apart := false }
def ChangeOfSaid : Prop := changeOfRow.holds Tryz.pinned (OpenSpec.ofChange changeOfSpec)

/-- ITS FALSE NEIGHBOUR: 'it returns false'. Refute it at one input. -/
def changeOfWrong : ChangeSpec := { name := "changeOf", fn := fun _ => fun
  | [d1, d2, d3] => { results := [.lit (.bool false)], args := [d1, d2, d3] }
  | _ => none }
def ChangeOfWrongFalsely : Prop := changeOfRow.holds Tryz.pinned (OpenSpec.ofChange changeOfWrong)

/-- 'gaolerlaw18.ChangeCalls': WHATEVER THE INPUT: true; the input reads as it did. -/
def changeCallsSpec : ChangeSpec := { name := "changeCalls", fn := fun _ => fun
  | [d1, d2, d3, d4, d5, d6] => { results := [.lit (.bool true)], args := [d1, d2, d3, d4, d5, d6] }
  | _ => none }
def changeCallsRow : OpenClaim := { program := "ytnkjaocmfhjnoaagreat", sum := "8b3874b91f0ce2bbdceccf2f849f97e812a5b96efab854410a18db88093d6d89", func := "gaoler/gaolerlaw18.ChangeCalls", spec := "changeCalls", inPlace := ["internal/bytealg.IndexByteString", "internal/bytealg.IndexString", "slices.overlaps[gaoler/node.Ent]"], unfollowed := true, recurses := true, named := ["internal/bytealg.MaxLen"], apart := false }
def ChangeCallsSaid : Prop := changeCallsRow.holds Tryz.pinned (OpenSpec.ofChange changeCallsSpec)

/-- ITS FALSE NEIGHBOUR: 'it returns false'. Refute it at one input. -/
def changeCallsWrong : ChangeSpec := { name := "changeCalls", fn := fun _ => fun
  | [d1, d2, d3, d4, d5, d6] => { results := [.lit (.bool false)], args := [d1, d2, d3, d4, d5, d6] }
  | _ => none }
def ChangeCallsWrongFalsely : Prop := changeCallsRow.holds Tryz.pinned (OpenSpec.ofChange changeCallsWrong)

/-- 'gaolerlaw18.ChangeSame': WHATEVER THE INPUT: true; the input reads as it did. -/
def changeSameSpec : ChangeSpec := { name := "changeSame", fn := fun _ => fun
  | [d1, d2, d3] => { results := [.lit (.bool true)], args := [d1, d2, d3] }
  | _ => none }
def changeSameRow : OpenClaim := { program := "ytnkjaocmfhjnoaagreat", sum := "8b3874b91f0ce2bbdceccf2f849f97e812a5b96efab854410a18db88093d6d89", func := "gaoler/gaolerlaw18.ChangeSame", spec := "changeSame", inPlace := ["internal/bytealg.IndexByteString", "internal/bytealg.IndexString", "slices.overlaps[gaoler/node.Ent]"], unfollowed := true, recurses := true, named := ["internal/bytealg.MaxLen"], apart := false }
def ChangeSameSaid : Prop := changeSameRow.holds Tryz.pinned (OpenSpec.ofChange changeSameSpec)

/-- ITS FALSE NEIGHBOUR: 'it returns false'. Refute it at one input. -/
def changeSameWrong : ChangeSpec := { name := "changeSame", fn := fun _ => fun
  | [d1, d2, d3] => { results := [.lit (.bool false)], args := [d1, d2, d3] }
  | _ => none }
def ChangeSameWrongFalsely : Prop := changeSameRow.holds Tryz.pinned (OpenSpec.ofChange changeSameWrong)

/-- 'gaolerlaw18.ChangeParts': WHATEVER THE INPUT: true; the input reads as it did. -/
def changePartsSpec : ChangeSpec := { name := "changeParts", fn := fun _ => fun
  | [d1, d2, d3, d4, d5, d6] => { results := [.lit (.bool true)], args := [d1, d2, d3, d4, d5, d6] }
  | _ => none }
def changePartsRow : OpenClaim := { program := "ytnkjaocmfhjnoaagreat", sum := "8b3874b91f0ce2bbdceccf2f849f97e812a5b96efab854410a18db88093d6d89", func := "gaoler/gaolerlaw18.ChangeParts", spec := "changeParts", inPlace := ["internal/bytealg.IndexByteString", "internal/bytealg.IndexString", "slices.overlaps[gaoler/node.Ent]"], unfollowed := true, recurses := true, named := ["internal/bytealg.MaxLen"], apart := false }
def ChangePartsSaid : Prop := changePartsRow.holds Tryz.pinned (OpenSpec.ofChange changePartsSpec)

/-- ITS FALSE NEIGHBOUR: 'it returns false'. Refute it at one input. -/
def changePartsWrong : ChangeSpec := { name := "changeParts", fn := fun _ => fun
  | [d1, d2, d3, d4, d5, d6] => { results := [.lit (.bool false)], args := [d1, d2, d3, d4, d5, d6] }
  | _ => none }
def ChangePartsWrongFalsely : Prop := changePartsRow.holds Tryz.pinned (OpenSpec.ofChange changePartsWrong)

/- THE SECOND FORM. 'bulk': how many values and letters a reading holds, each counted each time it is reached (what is shared counts as often as it is met; a slice's spare places count too). A statement '..UptoSaid' is the law's where the arguments, and the package variables that the reading takes, are together of bulk at most 1048576: NARROWER than '..Said'. Prove '..Said' where nothing that the law and all that it calls make is longer than what came in: it says more and counts as full. Else prove '..UptoSaid'. A law counts once. -/
mutual
def uptoBulk {H : Type} : DataW H → Nat
  | .lit (.string bytes) => bytes.length + 1
  | .lit _ => 1
  | .nil => 1
  | .ptr d => uptoBulk d + 1
  | .slice elems spare => uptoBulkAll elems + uptoBulkAll spare + 1
  | .agg parts => uptoBulkAll parts + 1
  | .iface _ d => uptoBulk d + 1
  | .map entries => uptoBulkEntries entries + 1
  | .held _ => 1
def uptoBulkAll {H : Type} : List (DataW H) → Nat
  | [] => 0
  | d :: r => uptoBulk d + uptoBulkAll r
def uptoBulkEntries {H : Type} : List (Lit × DataW H) → Nat
  | [] => 0
  | x :: r => uptoBulkEntry x + uptoBulkEntries r
def uptoBulkEntry {H : Type} : Lit × DataW H → Nat
  | (.string bytes, d) => bytes.length + uptoBulk d + 1
  | (_, d) => uptoBulk d + 1
 end
def uptoSmall : (H : Type) → List (DataW H) → Bool := fun _ ds => decide (uptoBulkAll ds ≤ 1048576)
def OpenSpec.upto (s : _root_.Go.ChangeSpec) : _root_.Go.OpenSpec := { _root_.Go.OpenSpec.ofChange s with cond := some uptoSmall }

/-- 'gaolerlaw18.ChangeOf', WHERE WHAT IT READS IS OF BULK AT MOST 1048576: true; the input reads as it did. -/
def changeOfUptoRow : OpenClaim := { program := "ytnkjaocmfhjnoaagreat", sum := "8b3874b91f0ce2bbdceccf2f849f97e812a5b96efab854410a18db88093d6d89", func := "gaoler/gaolerlaw18.ChangeOf", spec := "changeOf", inPlace := ["internal/bytealg.IndexByteString", "internal/bytealg.IndexString", "slices.overlaps[gaoler/node.Ent]"], unfollowed := true, recurses := true, named := ["internal/bytealg.MaxLen"], apart := false, narrowed := true }
def ChangeOfUptoSaid : Prop := changeOfUptoRow.holds Tryz.pinned (OpenSpec.upto changeOfSpec)

/-- 'gaolerlaw18.ChangeCalls', WHERE WHAT IT READS IS OF BULK AT MOST 1048576: true; the input reads as it did. -/
def changeCallsUptoRow : OpenClaim := { program := "ytnkjaocmfhjnoaagreat", sum := "8b3874b91f0ce2bbdceccf2f849f97e812a5b96efab854410a18db88093d6d89", func := "gaoler/gaolerlaw18.ChangeCalls", spec := "changeCalls", inPlace := ["internal/bytealg.IndexByteString", "internal/bytealg.IndexString", "slices.overlaps[gaoler/node.Ent]"], unfollowed := true, recurses := true, named := ["internal/bytealg.MaxLen"], apart := false, narrowed := true }
def ChangeCallsUptoSaid : Prop := changeCallsUptoRow.holds Tryz.pinned (OpenSpec.upto changeCallsSpec)

/-- 'gaolerlaw18.ChangeSame', WHERE WHAT IT READS IS OF BULK AT MOST 1048576: true; the input reads as it did. -/
def changeSameUptoRow : OpenClaim := { program := "ytnkjaocmfhjnoaagreat", sum := "8b3874b91f0ce2bbdceccf2f849f97e812a5b96efab854410a18db88093d6d89", func := "gaoler/gaolerlaw18.ChangeSame", spec := "changeSame", inPlace := ["internal/bytealg.IndexByteString", "internal/bytealg.IndexString", "slices.overlaps[gaoler/node.Ent]"], unfollowed := true, recurses := true, named := ["internal/bytealg.MaxLen"], apart := false, narrowed := true }
def ChangeSameUptoSaid : Prop := changeSameUptoRow.holds Tryz.pinned (OpenSpec.upto changeSameSpec)

/-- 'gaolerlaw18.ChangeParts', WHERE WHAT IT READS IS OF BULK AT MOST 1048576: true; the input reads as it did. -/
def changePartsUptoRow : OpenClaim := { program := "ytnkjaocmfhjnoaagreat", sum := "8b3874b91f0ce2bbdceccf2f849f97e812a5b96efab854410a18db88093d6d89", func := "gaoler/gaolerlaw18.ChangeParts", spec := "changeParts", inPlace := ["internal/bytealg.IndexByteString", "internal/bytealg.IndexString", "slices.overlaps[gaoler/node.Ent]"], unfollowed := true, recurses := true, named := ["internal/bytealg.MaxLen"], apart := false, narrowed := true }
def ChangePartsUptoSaid : Prop := changePartsUptoRow.holds Tryz.pinned (OpenSpec.upto changePartsSpec)

end Rows
end Go.Proofs.YtnkjaocmfhjnoaaGreat
