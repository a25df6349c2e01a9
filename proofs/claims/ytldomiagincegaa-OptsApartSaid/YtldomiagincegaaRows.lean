/-
  No cell of these rows narrows 'for every input' (looked for: loops, veiled, ifaces, maps, wideKeys, modest, calm, conditions, laid).
  DERIVED. THE GIVEN ROWS OF THIS SEAT. 5 by the template 'for every input the law returns true; each argument reads behind the call as it read before'; 0 by the template 'total and deterministic' (their statements: YtldomiagincegaaTotals.lean).
  GIVEN WITH THE SEED: the statements are not yours to turn. If you find one false, say at which input.
  Laid BY PROGRAM, IN A SANDBOX (cutbox-rows.mjs): the forced cells as the released guide's own fill.sh prints them over the translation f8a8cf9c1c2f3a64… (all of the seat's roots in one cut). By AI agents, Wed Nov 11 2026. No macro, syntax, notation, axiom, sorry.
-/
import Derived.Test.YtldomiagincegaaChecked
import GoSem.Claim
import GoSem.ClaimJoined
import GoSem.ClaimMapViews
import Derived.JoinedTies
import Derived.KernelRfl
namespace Go.Proofs.Ytldomiagincegaa
/- THE CELL 'sum', in the pinned program and in every row, IS THE sha256 OF THE DUMP (.gsa) THAT YtldomiagincegaaProg.lean LOADS. Nothing in Lean hashes anything: it is a label: what it is worth is what the hold of that sum in a sandbox is worth. -/
noncomputable def Try.pinned : Pinned := { name := "ytldomiagincegaa", sum := "f8a8cf9c1c2f3a643a0ac2f143ac819f12b1423910373524f6b49a290ae313d5", checked := Try.checked }
namespace Rows
def none {H : Type} : Left H := { results := [], args := [] }

/-- 'gaolerlaw06.OptsParse': WHATEVER THE INPUT: true; the input reads as it did. -/
def optsParseSpec : ChangeSpec := { name := "optsParse", fn := fun _ => fun
  | [d1, d2] => { results := [.lit (.bool true)], args := [d1, d2] }
  | _ => none }
def optsParseRow : OpenClaim := { program := "ytldomiagincegaa", sum := "f8a8cf9c1c2f3a643a0ac2f143ac819f12b1423910373524f6b49a290ae313d5", func := "gaoler/gaolerlaw06.OptsParse", spec := "optsParse", inPlace := ["internal/bytealg.IndexByteString"], apart := false }
def OptsParseSaid : Prop := optsParseRow.holds Try.pinned (OpenSpec.ofChange optsParseSpec)

/-- ITS FALSE NEIGHBOUR: 'it returns false'. Refute it at one input. -/
def optsParseWrong : ChangeSpec := { name := "optsParse", fn := fun _ => fun
  | [d1, d2] => { results := [.lit (.bool false)], args := [d1, d2] }
  | _ => none }
def OptsParseWrongFalsely : Prop := optsParseRow.holds Try.pinned (OpenSpec.ofChange optsParseWrong)

/-- 'gaolerlaw06.OptsAsk': WHATEVER THE INPUT: true; the input reads as it did. -/
def optsAskSpec : ChangeSpec := { name := "optsAsk", fn := fun _ => fun
  | [d1, d2, d3] => { results := [.lit (.bool true)], args := [d1, d2, d3] }
  | _ => none }
def optsAskRow : OpenClaim := { program := "ytldomiagincegaa", sum := "f8a8cf9c1c2f3a643a0ac2f143ac819f12b1423910373524f6b49a290ae313d5", func := "gaoler/gaolerlaw06.OptsAsk", spec := "optsAsk", inPlace := ["internal/bytealg.IndexByteString"], apart := false }
def OptsAskSaid : Prop := optsAskRow.holds Try.pinned (OpenSpec.ofChange optsAskSpec)

/-- ITS FALSE NEIGHBOUR: 'it returns false'. Refute it at one input. -/
def optsAskWrong : ChangeSpec := { name := "optsAsk", fn := fun _ => fun
  | [d1, d2, d3] => { results := [.lit (.bool false)], args := [d1, d2, d3] }
  | _ => none }
def OptsAskWrongFalsely : Prop := optsAskRow.holds Try.pinned (OpenSpec.ofChange optsAskWrong)

/-- 'gaolerlaw06.OptsRest': WHATEVER THE INPUT: true; the input reads as it did. -/
def optsRestSpec : ChangeSpec := { name := "optsRest", fn := fun _ => fun
  | [d1, d2, d3] => { results := [.lit (.bool true)], args := [d1, d2, d3] }
  | _ => none }
def optsRestRow : OpenClaim := { program := "ytldomiagincegaa", sum := "f8a8cf9c1c2f3a643a0ac2f143ac819f12b1423910373524f6b49a290ae313d5", func := "gaoler/gaolerlaw06.OptsRest", spec := "optsRest", inPlace := ["internal/bytealg.IndexByteString"], apart := false }
def OptsRestSaid : Prop := optsRestRow.holds Try.pinned (OpenSpec.ofChange optsRestSpec)

/-- ITS FALSE NEIGHBOUR: 'it returns false'. Refute it at one input. -/
def optsRestWrong : ChangeSpec := { name := "optsRest", fn := fun _ => fun
  | [d1, d2, d3] => { results := [.lit (.bool false)], args := [d1, d2, d3] }
  | _ => none }
def OptsRestWrongFalsely : Prop := optsRestRow.holds Try.pinned (OpenSpec.ofChange optsRestWrong)

/-- 'gaolerlaw06.OptsApart': WHATEVER THE INPUT: true; the input reads as it did. -/
def optsApartSpec : ChangeSpec := { name := "optsApart", fn := fun _ => fun
  | [d1, d2] => { results := [.lit (.bool true)], args := [d1, d2] }
  | _ => none }
def optsApartRow : OpenClaim := { program := "ytldomiagincegaa", sum := "f8a8cf9c1c2f3a643a0ac2f143ac819f12b1423910373524f6b49a290ae313d5", func := "gaoler/gaolerlaw06.OptsApart", spec := "optsApart", inPlace := ["internal/bytealg.IndexByteString"], apart := false }
def OptsApartSaid : Prop := optsApartRow.holds Try.pinned (OpenSpec.ofChange optsApartSpec)

/-- ITS FALSE NEIGHBOUR: 'it returns false'. Refute it at one input. -/
def optsApartWrong : ChangeSpec := { name := "optsApart", fn := fun _ => fun
  | [d1, d2] => { results := [.lit (.bool false)], args := [d1, d2] }
  | _ => none }
def OptsApartWrongFalsely : Prop := optsApartRow.holds Try.pinned (OpenSpec.ofChange optsApartWrong)

/-- 'gaolerlaw06.OptsValues': WHATEVER THE INPUT: true; the input reads as it did. -/
def optsValuesSpec : ChangeSpec := { name := "optsValues", fn := fun _ => fun
  | [d1, d2, d3] => { results := [.lit (.bool true)], args := [d1, d2, d3] }
  | _ => none }
def optsValuesRow : OpenClaim := { program := "ytldomiagincegaa", sum := "f8a8cf9c1c2f3a643a0ac2f143ac819f12b1423910373524f6b49a290ae313d5", func := "gaoler/gaolerlaw06.OptsValues", spec := "optsValues", inPlace := ["internal/bytealg.IndexByteString"], apart := false }
def OptsValuesSaid : Prop := optsValuesRow.holds Try.pinned (OpenSpec.ofChange optsValuesSpec)

/-- ITS FALSE NEIGHBOUR: 'it returns false'. Refute it at one input. -/
def optsValuesWrong : ChangeSpec := { name := "optsValues", fn := fun _ => fun
  | [d1, d2, d3] => { results := [.lit (.bool false)], args := [d1, d2, d3] }
  | _ => none }
def OptsValuesWrongFalsely : Prop := optsValuesRow.holds Try.pinned (OpenSpec.ofChange optsValuesWrong)

/- THE SECOND FORM. 'bulk': how many values and letters a reading holds, each counted each time it is reached (what is shared counts as often as it is met; a slice's spare places count too). A statement '..UptoSaid' is the law's where the arguments, and the package variables that the reading takes, are together of bulk at most 1048576: NARROWER than '..Said'. Prove '..Said' where nothing that the law and all that it calls make is longer than what came in: it says more and counts as full. Else prove '..UptoSaid'. A law counts once. -/
mutual
def uptoBulk {H : Type} : DataW H → Nat
  | .lit (.string bytes) => bytes.length + 1
  | .lit _ => 1
  | .nil => 1
  | .ptr d => uptoBulk d + 1
  | .slice elems spare => uptoBulkAll elems + uptoBulkAll spare + 1
  | .agg parts => uptoBulkAll parts + 1
  | .iface _ d => uptoBulk d + 1
  | .map entries => uptoBulkEntries entries + 1
  | .held _ => 1
def uptoBulkAll {H : Type} : List (DataW H) → Nat
  | [] => 0
  | d :: r => uptoBulk d + uptoBulkAll r
def uptoBulkEntries {H : Type} : List (Lit × DataW H) → Nat
  | [] => 0
  | x :: r => uptoBulkEntry x + uptoBulkEntries r
def uptoBulkEntry {H : Type} : Lit × DataW H → Nat
  | (.string bytes, d) => bytes.length + uptoBulk d + 1
  | (_, d) => uptoBulk d + 1
 end
def uptoSmall : (H : Type) → List (DataW H) → Bool := fun _ ds => decide (uptoBulkAll ds ≤ 1048576)
def OpenSpec.upto (s : _root_.Go.ChangeSpec) : _root_.Go.OpenSpec := { _root_.Go.OpenSpec.ofChange s with cond := some uptoSmall }

/-- 'gaolerlaw06.OptsParse', WHERE WHAT IT READS IS OF BULK AT MOST 1048576: true; the input reads as it did. -/
def optsParseUptoRow : OpenClaim := { program := "ytldomiagincegaa", sum := "f8a8cf9c1c2f3a643a0ac2f143ac819f12b1423910373524f6b49a290ae313d5", func := "gaoler/gaolerlaw06.OptsParse", spec := "optsParse", inPlace := ["internal/bytealg.IndexByteString"], apart := false, narrowed := true }
def OptsParseUptoSaid : Prop := optsParseUptoRow.holds Try.pinned (OpenSpec.upto optsParseSpec)

/-- 'gaolerlaw06.OptsAsk', WHERE WHAT IT READS IS OF BULK AT MOST 1048576: true; the input reads as it did. -/
def optsAskUptoRow : OpenClaim := { program := "ytldomiagincegaa", sum := "f8a8cf9c1c2f3a643a0ac2f143ac819f12b1423910373524f6b49a290ae313d5", func := "gaoler/gaolerlaw06.OptsAsk", spec := "optsAsk", inPlace := ["internal/bytealg.IndexByteString"], apart := false, narrowed := true }
def OptsAskUptoSaid : Prop := optsAskUptoRow.holds Try.pinned (OpenSpec.upto optsAskSpec)

/-- 'gaolerlaw06.OptsRest', WHERE WHAT IT READS IS OF BULK AT MOST 1048576: true; the input reads as it did. -/
def optsRestUptoRow : OpenClaim := { program := "ytldomiagincegaa", sum := "f8a8cf9c1c2f3a643a0ac2f143ac819f12b1423910373524f6b49a290ae313d5", func := "gaoler/gaolerlaw06.OptsRest", spec := "optsRest", inPlace := ["internal/bytealg.IndexByteString"], apart := false, narrowed := true }
def OptsRestUptoSaid : Prop := optsRestUptoRow.holds Try.pinned (OpenSpec.upto optsRestSpec)

/-- 'gaolerlaw06.OptsApart', WHERE WHAT IT READS IS OF BULK AT MOST 1048576: true; the input reads as it did. -/
def optsApartUptoRow : OpenClaim := { program := "ytldomiagincegaa", sum := "f8a8cf9c1c2f3a643a0ac2f143ac819f12b1423910373524f6b49a290ae313d5", func := "gaoler/gaolerlaw06.OptsApart", spec := "optsApart", inPlace := ["internal/bytealg.IndexByteString"], apart := false, narrowed := true }
def OptsApartUptoSaid : Prop := optsApartUptoRow.holds Try.pinned (OpenSpec.upto optsApartSpec)

/-- 'gaolerlaw06.OptsValues', WHERE WHAT IT READS IS OF BULK AT MOST 1048576: true; the input reads as it did. -/
def optsValuesUptoRow : OpenClaim := { program := "ytldomiagincegaa", sum := "f8a8cf9c1c2f3a643a0ac2f143ac819f12b1423910373524f6b49a290ae313d5", func := "gaoler/gaolerlaw06.OptsValues", spec := "optsValues", inPlace := ["internal/bytealg.IndexByteString"], apart := false, narrowed := true }
def OptsValuesUptoSaid : Prop := optsValuesUptoRow.holds Try.pinned (OpenSpec.upto optsValuesSpec)

end Rows
end Go.Proofs.Ytldomiagincegaa
