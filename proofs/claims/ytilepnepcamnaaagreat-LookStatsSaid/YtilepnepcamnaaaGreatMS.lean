/-
  The reference's Same and Right of nodes. The conditions are said at each.
-/
import Derived.Test.YtilepnepcamnaaaGreatMR
namespace Go.Proofs.YtilepnepcamnaaaGreat
open Go Go.RowKit
set_option maxRecDepth 100000

theorem bA_neq {a b : Nm} : ((bA a).toList != (bA b).toList) = !decide (a = b) := by
  rw [bA_list, bA_list]
  by_cases h : a = b <;> simp [h]
theorem bA_eqq {a b : Nm} : ((bA a).toList == (bA b).toList) = decide (a = b) := by
  rw [bA_list, bA_list]
  by_cases h : a = b <;> simp [h]
theorem int_neq {a b : Int} : (a != b) = !decide (a = b) := by
  by_cases h : a = b <;> simp [h]
end Go.Proofs.YtilepnepcamnaaaGreat
namespace Go.Proofs.YtilepnepcamnaaaGreat
open Go Go.RowKit
set_option maxRecDepth 100000

/-- It answers a bool, and only reads. -/
def QuietB (w : World) (b : Bool) (e : Ending) (w' : World) : Prop := e = .returned (.bool b) ∧ ∃ m, w' = w.drewN m
end Go.Proofs.YtilepnepcamnaaaGreat
namespace Go.Proofs.YtilepnepcamnaaaGreat
open Go Go.RowKit
set_option maxRecDepth 100000

end Go.Proofs.YtilepnepcamnaaaGreat
