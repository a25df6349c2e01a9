/-
  The reference's look. The conditions are said at each.
-/
import Derived.Test.YtfopnfgfoicidaaGreatLP
import Derived.Test.YtfopnfgfoicidaaGreatRF
namespace Go.Proofs.YtfopnfgfoicidaaGreat
open Go Go.RowKit
set_option maxRecDepth 100000

attribute [local go_sem] cell_off4 cell_blk4
end Go.Proofs.YtfopnfgfoicidaaGreat
namespace Go.Proofs.YtfopnfgfoicidaaGreat
open Go Go.RowKit
set_option maxRecDepth 100000

attribute [local go_sem] cell_off4 cell_blk4
theorem target_ofr (a0 a1 a2 a3 a4 a5 a6 : Value) (s : ByteArray) (w : World) : (Instr.field 82 (.agg #[a0, a1, a2, a3, a4, a5, a6, .string s]) 7).run Tryz.prog w = .ok (.string s) w := by kernel_rfl
theorem names_ofr (a0 a1 a2 a3 a4 a6 a7 : Value) (A : Option Addr) (n c : Nat) (w : World) : (Instr.field 82 (.agg #[a0, a1, a2, a3, a4, .slice A n c, a6, a7]) 5).run Tryz.prog w = .ok (.slice A n c) w := by kernel_rfl
attribute [local go_sem] target_ofr names_ofr
end Go.Proofs.YtfopnfgfoicidaaGreat
