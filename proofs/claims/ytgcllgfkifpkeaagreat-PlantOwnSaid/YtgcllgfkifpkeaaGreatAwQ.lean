/-
  The document's examples of stage 14: awake. No condition.
-/
import Derived.Test.YtgcllgfkifpkeaaGreatAwP
import Derived.Test.YtgcllgfkifpkeaaGreatPcD
namespace Go.Proofs.YtgcllgfkifpkeaaGreat
open Go Go.RowKit
theorem awk14_any (w : World) : Calls Tryz.prog 6 #[] w fun e w' => e = .returned (.bool true) ∧ Below w.heap.size w w' := awake14_any mkdirC symlinkC createC w
end Go.Proofs.YtgcllgfkifpkeaaGreat
