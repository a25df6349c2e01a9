/-
  The document's examples of stage 14: awake. No condition.
-/
import Derived.Test.YtgcllgfkifpkeaaAwP
import Derived.Test.YtgcllgfkifpkeaaPcD
namespace Go.Proofs.Ytgcllgfkifpkeaa
open Go Go.RowKit
theorem awk14_any (w : World) : Calls Try.prog 4 #[] w fun e w' => e = .returned (.bool true) ∧ Below w.heap.size w w' := awake14_any mkdirC symlinkC createC w
end Go.Proofs.Ytgcllgfkifpkeaa
