/-
  What the small functions of package clause, and the reference's Place and Pow, answer. No condition but that numbers are what a machine has.
-/
import Derived.Test.YtbjajipeiigodaaDoorMath
import Derived.Test.YtbjajipeiigodaaDoorChecked
import Derived.WalkKit
import Derived.Below
import Derived.Lib.Hide
import Derived.LoopN
namespace Go.Proofs.YtbjajipeiigodaaDoor
open Go Go.RowKit

theorem ret_int {k : IntKind} {a b : Int} (h : a = b) : Ending.returned (.int k a) = .returned (.int k b) := by rw [h]
theorem ret_bool {a b : Bool} (h : a = b) : Ending.returned (.bool a) = .returned (.bool b) := by rw [h]

theorem isSign_any (r : Int) (w : World) : Calls Tryd.prog 56 #[.int .i32 r] w fun e w' => e = .returned (.bool (sgR r)) ∧ w = w' := by
  go_enter Tryd.func56, Tryd.ntmps56
  go_wp2
  all_goals
    go_ret
    exact ⟨ret_bool (by simp_all [sgR]), rfl⟩

theorem whoBits_any (r : Int) (w : World) : Calls Tryd.prog 54 #[.int .i32 r] w fun e w' => e = .returned (.int .i64 (whoR r)) ∧ w = w' := by
  go_enter Tryd.func54, Tryd.ntmps54
  go_wp2
  all_goals
    go_ret
    exact ⟨ret_int (by simp_all [whoR]), rfl⟩

theorem permBit_any (r : Int) (w : World) : Calls Tryd.prog 59 #[.int .i32 r] w fun e w' => e = .returned (.int .i64 (perR r)) ∧ w = w' := by
  go_enter Tryd.func59, Tryd.ntmps59
  go_wp2
  all_goals
    go_ret
    exact ⟨ret_int (by simp_all [perR]), rfl⟩
end Go.Proofs.YtbjajipeiigodaaDoor
