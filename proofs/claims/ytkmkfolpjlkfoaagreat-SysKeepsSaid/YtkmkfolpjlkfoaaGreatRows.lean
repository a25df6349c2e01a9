/-
  No cell of these rows narrows 'for every input' (looked for: loops, veiled, ifaces, maps, wideKeys, modest, calm, conditions, laid).
  DERIVED. THE GIVEN ROWS OF THIS SEAT. 5 by the template 'for every input the law returns true; each argument reads behind the call as it read before'; 0 by the template 'total and deterministic' (their statements: YtkmkfolpjlkfoaaGreatTotals.lean).
  GIVEN WITH THE SEED: the statements are not yours to turn. If you find one false, say at which input.
  Laid BY PROGRAM, IN A SANDBOX (cutbox-rows.mjs): the forced cells as the released guide's own fill.sh prints them over the translation ba7bafb4210626d9… (all of the seat's roots in one cut). By AI agents, Wed Nov 11 2026. No macro, syntax, notation, axiom, sorry.
-/
import Derived.Test.YtkmkfolpjlkfoaaGreatChecked
import GoSem.Claim
import GoSem.ClaimJoined
import GoSem.ClaimMapViews
import Derived.JoinedTies
import Derived.KernelRfl
namespace Go.Proofs.YtkmkfolpjlkfoaaGreat
/- THE CELL 'sum', in the pinned program and in every row, IS THE sha256 OF THE DUMP (.gsa) THAT YtkmkfolpjlkfoaaGreatProg.lean LOADS. Nothing in Lean hashes anything: it is a label: what it is worth is what the hold of that sum in a sandbox is worth. -/
noncomputable def Tryz.pinned : Pinned := { name := "ytkmkfolpjlkfoaagreat", sum := "ba7bafb4210626d9f39e6a542b397a9fc8d8999a9e67f55fd716e02ad206c903", checked := Tryz.checked }
namespace Rows
def none {H : Type} : Left H := { results := [], args := [] }

/-- 'gaolerlaw17.SysPlays': WHATEVER THE INPUT: true; the input reads as it did. -/
def sysPlaysSpec : ChangeSpec := { name := "sysPlays", fn := fun _ => fun
  | [d1, d2, d3, d4, d5] => { results := [.lit (.bool true)], args := [d1, d2, d3, d4, d5] }
  | _ => none }
def sysPlaysRow : OpenClaim := { program := "ytkmkfolpjlkfoaagreat", sum := "ba7bafb4210626d9f39e6a542b397a9fc8d8999a9e67f55fd716e02ad206c903", func := "gaoler/gaolerlaw17.SysPlays", spec := "sysPlays", inPlace := ["internal/bytealg.IndexByteString", "internal/bytealg.IndexString", "slices.overlaps[gaoler/node.Ent]"], unfollowed := true, recurses := true, named := ["internal/bytealg.MaxLen"], apart := false }
def SysPlaysSaid : Prop := sysPlaysRow.holds Tryz.pinned (OpenSpec.ofChange sysPlaysSpec)

/-- ITS FALSE NEIGHBOUR: 'it returns false'. Refute it at one input. -/
def sysPlaysWrong : ChangeSpec := { name := "sysPlays", fn := fun _ => fun
  | [d1, d2, d3, d4, d5] => { results := [.lit (.bool false)], args := [d1, d2, d3, d4, d5] }
  | _ => none }
def SysPlaysWrongFalsely : Prop := sysPlaysRow.holds Tryz.pinned (OpenSpec.ofChange sysPlaysWrong)

/-- 'gaolerlaw17.SysFails': WHATEVER THE INPUT: true; the input reads as it did. -/
def sysFailsSpec : ChangeSpec := { name := "sysFails", fn := fun _ => fun
  | [d1, d2, d3, d4, d5] => { results := [.lit (.bool true)], args := [d1, d2, d3, d4, d5] }
  | _ => none }
def sysFailsRow : OpenClaim := { program := "ytkmkfolpjlkfoaagreat", sum := "ba7bafb4210626d9f39e6a542b397a9fc8d8999a9e67f55fd716e02ad206c903", func := "gaoler/gaolerlaw17.SysFails", spec := "sysFails", inPlace := ["internal/bytealg.IndexByteString", "internal/bytealg.IndexString", "slices.overlaps[gaoler/node.Ent]"], unfollowed := true, recurses := true, named := ["internal/bytealg.MaxLen"], apart := false }
def SysFailsSaid : Prop := sysFailsRow.holds Tryz.pinned (OpenSpec.ofChange sysFailsSpec)

/-- ITS FALSE NEIGHBOUR: 'it returns false'. Refute it at one input. -/
def sysFailsWrong : ChangeSpec := { name := "sysFails", fn := fun _ => fun
  | [d1, d2, d3, d4, d5] => { results := [.lit (.bool false)], args := [d1, d2, d3, d4, d5] }
  | _ => none }
def SysFailsWrongFalsely : Prop := sysFailsRow.holds Tryz.pinned (OpenSpec.ofChange sysFailsWrong)

/-- 'gaolerlaw17.SysTree': WHATEVER THE INPUT: true; the input reads as it did. -/
def sysTreeSpec : ChangeSpec := { name := "sysTree", fn := fun _ => fun
  | [d1, d2, d3, d4, d5] => { results := [.lit (.bool true)], args := [d1, d2, d3, d4, d5] }
  | _ => none }
def sysTreeRow : OpenClaim := { program := "ytkmkfolpjlkfoaagreat", sum := "ba7bafb4210626d9f39e6a542b397a9fc8d8999a9e67f55fd716e02ad206c903", func := "gaoler/gaolerlaw17.SysTree", spec := "sysTree", inPlace := ["internal/bytealg.IndexByteString", "internal/bytealg.IndexString", "slices.overlaps[gaoler/node.Ent]"], unfollowed := true, recurses := true, named := ["internal/bytealg.MaxLen"], apart := false }
def SysTreeSaid : Prop := sysTreeRow.holds Tryz.pinned (OpenSpec.ofChange sysTreeSpec)

/-- ITS FALSE NEIGHBOUR: 'it returns false'. Refute it at one input. -/
def sysTreeWrong : ChangeSpec := { name := "sysTree", fn := fun _ => fun
  | [d1, d2, d3, d4, d5] => { results := [.lit (.bool false)], args := [d1, d2, d3, d4, d5] }
  | _ => none }
def SysTreeWrongFalsely : Prop := sysTreeRow.holds Tryz.pinned (OpenSpec.ofChange sysTreeWrong)

/-- 'gaolerlaw17.SysKeeps': WHATEVER THE INPUT: true; the input reads as it did. -/
def sysKeepsSpec : ChangeSpec := { name := "sysKeeps", fn := fun _ => fun
  | [d1, d2, d3, d4, d5] => { results := [.lit (.bool true)], args := [d1, d2, d3, d4, d5] }
  | _ => none }
def sysKeepsRow : OpenClaim := { program := "ytkmkfolpjlkfoaagreat", sum := "ba7bafb4210626d9f39e6a542b397a9fc8d8999a9e67f55fd716e02ad206c903", func := "gaoler/gaolerlaw17.SysKeeps", spec := "sysKeeps", inPlace := ["internal/bytealg.IndexByteString", "internal/bytealg.IndexString", "slices.overlaps[gaoler/node.Ent]"], unfollowed := true, recurses := true, named := ["internal/bytealg.MaxLen"], apart := false }
def SysKeepsSaid : Prop := sysKeepsRow.holds Tryz.pinned (OpenSpec.ofChange sysKeepsSpec)

/-- ITS FALSE NEIGHBOUR: 'it returns false'. Refute it at one input. -/
def sysKeepsWrong : ChangeSpec := { name := "sysKeeps", fn := fun _ => fun
  | [d1, d2, d3, d4, d5] => { results := [.lit (.bool false)], args := [d1, d2, d3, d4, d5] }
  | _ => none }
def SysKeepsWrongFalsely : Prop := sysKeepsRow.holds Tryz.pinned (OpenSpec.ofChange sysKeepsWrong)

/-- 'gaolerlaw17.SysApart': WHATEVER THE INPUT: true; the input reads as it did. -/
def sysApartSpec : ChangeSpec := { name := "sysApart", fn := fun _ => fun
  | [d1, d2, d3, d4] => { results := [.lit (.bool true)], args := [d1, d2, d3, d4] }
  | _ => none }
def sysApartRow : OpenClaim := { program := "ytkmkfolpjlkfoaagreat", sum := "ba7bafb4210626d9f39e6a542b397a9fc8d8999a9e67f55fd716e02ad206c903", func := "gaoler/gaolerlaw17.SysApart", spec := "sysApart", inPlace := ["internal/bytealg.IndexByteString", "internal/bytealg.IndexString", "slices.overlaps[gaoler/node.Ent]"], unfollowed := true, recurses := true, named := ["internal/bytealg.MaxLen"], apart := false }
def SysApartSaid : Prop := sysApartRow.holds Tryz.pinned (OpenSpec.ofChange sysApartSpec)

/-- ITS FALSE NEIGHBOUR: 'it returns false'. Refute it at one input. -/
def sysApartWrong : ChangeSpec := { name := "sysApart", fn := fun _ => fun
  | [d1, d2, d3, d4] => { results := [.lit (.bool false)], args := [d1, d2, d3, d4] }
  | _ => none }
def SysApartWrongFalsely : Prop := sysApartRow.holds Tryz.pinned (OpenSpec.ofChange sysApartWrong)

/- THE SECOND FORM. 'bulk': how many values and letters a reading holds, each counted each time it is reached (what is shared counts as often as it is met; a slice's spare places count too). A statement '..UptoSaid' is the law's where the arguments, and the package variables that the reading takes, are together of bulk at most 1048576: NARROWER than '..Said'. Prove '..Said' where nothing that the law and all that it calls make is longer than what came in: it says more and counts as full. Else prove '..UptoSaid'. A law counts once. -/
mutual
def uptoBulk {H : Type} : DataW H → Nat
  | .lit (.string bytes) => bytes.length + 1
  | .lit _ => 1
  | .nil => 1
  | .ptr d => uptoBulk d + 1
  | .slice elems spare => uptoBulkAll elems + uptoBulkAll spare + 1
  | .agg parts => uptoBulkAll parts + 1
  | .iface _ d => uptoBulk d + 1
  | .map entries => uptoBulkEntries entries + 1
  | .held _ => 1
def uptoBulkAll {H : Type} : List (DataW H) → Nat
  | [] => 0
  | d :: r => uptoBulk d + uptoBulkAll r
def uptoBulkEntries {H : Type} : List (Lit × DataW H) → Nat
  | [] => 0
  | x :: r => uptoBulkEntry x + uptoBulkEntries r
def uptoBulkEntry {H : Type} : Lit × DataW H → Nat
  | (.string bytes, d) => bytes.length + uptoBulk d + 1
  | (_, d) => uptoBulk d + 1
 end
def uptoSmall : (H : Type) → List (DataW H) → Bool := fun _ ds => decide (uptoBulkAll ds ≤ 1048576)
def OpenSpec.upto (s : _root_.Go.ChangeSpec) : _root_.Go.OpenSpec := { _root_.Go.OpenSpec.ofChange s with cond := some uptoSmall }

/-- 'gaolerlaw17.SysPlays', WHERE WHAT IT READS IS OF BULK AT MOST 1048576: true; the input reads as it did. -/
def sysPlaysUptoRow : OpenClaim := { program := "ytkmkfolpjlkfoaagreat", sum := "ba7bafb4210626d9f39e6a542b397a9fc8d8999a9e67f55fd716e02ad206c903", func := "gaoler/gaolerlaw17.SysPlays", spec := "sysPlays", inPlace := ["internal/bytealg.IndexByteString", "internal/bytealg.IndexString", "slices.overlaps[gaoler/node.Ent]"], unfollowed := true, recurses := true, named := ["internal/bytealg.MaxLen"], apart := false, narrowed := true }
def SysPlaysUptoSaid : Prop := sysPlaysUptoRow.holds Tryz.pinned (OpenSpec.upto sysPlaysSpec)

/-- 'gaolerlaw17.SysFails', WHERE WHAT IT READS IS OF BULK AT MOST 1048576: true; the input reads as it did. -/
def sysFailsUptoRow : OpenClaim := { program := "ytkmkfolpjlkfoaagreat", sum := "ba7bafb4210626d9f39e6a542b397a9fc8d8999a9e67f55fd716e02ad206c903", func := "gaoler/gaolerlaw17.SysFails", spec := "sysFails", inPlace := ["internal/bytealg.IndexByteString", "internal/bytealg.IndexString", "slices.overlaps[gaoler/node.Ent]"], unfollowed := true, recurses := true, named := ["internal/bytealg.MaxLen"], apart := false, narrowed := true }
def SysFailsUptoSaid : Prop := sysFailsUptoRow.holds Tryz.pinned (OpenSpec.upto sysFailsSpec)

/-- 'gaolerlaw17.SysTree', WHERE WHAT IT READS IS OF BULK AT MOST 1048576: true; the input reads as it did. -/
def sysTreeUptoRow : OpenClaim := { program := "ytkmkfolpjlkfoaagreat", sum := "ba7bafb4210626d9f39e6a542b397a9fc8d8999a9e67f55fd716e02ad206c903", func := "gaoler/gaolerlaw17.SysTree", spec := "sysTree", inPlace := ["internal/bytealg.IndexByteString", "internal/bytealg.IndexString", "slices.overlaps[gaoler/node.Ent]"], unfollowed := true, recurses := true, named := ["internal/bytealg.MaxLen"], apart := false, narrowed := true }
def SysTreeUptoSaid : Prop := sysTreeUptoRow.holds Tryz.pinned (OpenSpec.upto sysTreeSpec)

/-- 'gaolerlaw17.SysKeeps', WHERE WHAT IT READS IS OF BULK AT MOST 1048576: true; the input reads as it did. -/
def sysKeepsUptoRow : OpenClaim := { program := "ytkmkfolpjlkfoaagreat", sum := "ba7bafb4210626d9f39e6a542b397a9fc8d8999a9e67f55fd716e02ad206c903", func := "gaoler/gaolerlaw17.SysKeeps", spec := "sysKeeps", inPlace := ["internal/bytealg.IndexByteString", "internal/bytealg.IndexString", "slices.overlaps[gaoler/node.Ent]"], unfollowed := true, recurses := true, named := ["internal/bytealg.MaxLen"], apart := false, narrowed := true }
def SysKeepsUptoSaid : Prop := sysKeepsUptoRow.holds Tryz.pinned (OpenSpec.upto sysKeepsSpec)

/-- 'gaolerlaw17.SysApart', WHERE WHAT IT READS IS OF BULK AT MOST 1048576: true; the input reads as it did. -/
def sysApartUptoRow : OpenClaim := { program := "ytkmkfolpjlkfoaagreat", sum := "ba7bafb4210626d9f39e6a542b397a9fc8d8999a9e67f55fd716e02ad206c903", func := "gaoler/gaolerlaw17.SysApart", spec := "sysApart", inPlace := ["internal/bytealg.IndexByteString", "internal/bytealg.IndexString", "slices.overlaps[gaoler/node.Ent]"], unfollowed := true, recurses := true, named := ["internal/bytealg.MaxLen"], apart := false, narrowed := true }
def SysApartUptoSaid : Prop := sysApartUptoRow.holds Tryz.pinned (OpenSpec.upto sysApartSpec)

end Rows
end Go.Proofs.YtkmkfolpjlkfoaaGreat
