/-
  What the rows of the laws of owner share: the listed table of powers gives what the walks ask; the world of a witness, in which Go's three listed tables hold what their text lays; the end of a row whose call leaves what was there as it was.
-/
import Derived.Test.YtkbdlmmpeieaeaaDoorAwake
import Derived.Test.YtkbdlmmpeieaeaaDoorCards
import Derived.Test.YtkbdlmmpeieaeaaDoorTie
import Derived.ProofKit
import Derived.OpenShut
import Derived.Deep.DeepHandedRow
import Derived.Lib.LaidTab
import Derived.LaidSub
namespace Go.Proofs.YtkbdlmmpeieaeaaDoor
open Go Go.ChangeShapes Go.WideShapes Go.ChangeAt Go.RowKit

theorem ownKnobs : ownKnob Tryd.prog.godebug = none := by kernel_rfl
theorem pow_named : Tryd.prog.globalNamed "internal/strconv.uint64pow10" = some 1 := by kernel_rfl
theorem pow_type : (Tryd.prog.globals[1]?).map (·.type) = some 65 := by kernel_rfl
theorem cells_u64 : Tryd.prog.cellsOf 59 = 1 := by kernel_rfl
theorem cells_pow : Tryd.prog.cellsOf 65 = 20 := by kernel_rfl
set_option maxRecDepth 100000 in
theorem only_pow : (Rows.ownerParseRow.laid.filter fun x => x.1 == "internal/strconv.uint64pow10") = [("internal/strconv.uint64pow10", Lib.tabData .u64 Lib.pow10Tab)] := by kernel_rfl
theorem tb_of {W : World} (h : laidMetH Tryd.prog Rows.ownerParseRow.laid W) : Tb W := by
  rw [MakeChecks.laidMetH_plain _ _ _ (by kernel_rfl)] at h
  have h2 := laidMet.filter (fun x => x.1 == "internal/strconv.uint64pow10") h
  rw [only_pow] at h2
  have h3 := Lib.tabIs_of_head pow_named pow_type Tryd.underlying65 Tryd.underlying59 cells_u64 cells_pow h2
  refine ⟨h3, ?_⟩
  have c0 := h3.cell pow_named 0 (by decide)
  cases hh : W.heap[1]? with
  | none => simp [World.cell?, hh] at c0
  | some o => exact (Array.getElem?_eq_some_iff.1 hh).1
/-- A block whose cells are told. -/
def filled (cs : Array Value) : Obj → Obj
  | .cells _ t frozen => .cells cs t frozen
  | o => o
/-- The cells of a datum of numbers. -/
def numsOf : DataW Unit → Array Value
  | .agg ds => (ds.map fun d => match d with | .lit (.int k n) => Value.int k n | _ => .bool false).toArray
  | _ => #[]
/-- The world of a witness: the settled one, the three tables holding what their text lays. -/
noncomputable def laidWorld (os : Os) : World :=
  { World.holding Tryd.prog os ⟨#[], #[], []⟩ with heap := (((World.holding Tryd.prog os ⟨#[], #[], []⟩).heap.modify 2 (filled (numsOf Rows.laid_math_bits_deBruijn32tab))).modify 3 (filled (numsOf Rows.laid_math_bits_deBruijn64tab))).modify 1 (filled (numsOf Rows.laid_internal_strconv_uint64pow10)) }

section
variable {H : Type} {enc : TypeId × Value → H} {P : Program}
/-- The end of a law's row: it answers one bool, and what was there is as it was. -/
theorem law_post {f : Func} {s : ChangeSpec} {W W' : World} {args : Array Value} {ds : List (DataW H)} {v : Value} {before pa : List MemPlace}
    (hW : DataW.Whole enc P f.params.toList s.vars false W args.toList ds [] before)
    (hres : DataW.TrodAll enc P W' W.heap.size (fun _ => false) false f.resultTypes.toList (v.resultList f.resultTypes.size) (s.fn H (ds ++ [])).results [])
    (hargs : DataW.TrodAll enc P W' 0 (fun b => decide (b < W.heap.size)) true f.params.toList args.toList (s.fn H (ds ++ [])).args pa)
    (hvars : DataW.TrodVars enc P W' (fun b => decide (b < W.heap.size)) s.vars (s.fn H (ds ++ [])).vars [])
    (hb : Below W.heap.size W W') : s.post enc P f false true false false W args v W' :=
  ⟨ds, [], before, [], pa, [], hW, hres, hargs, hvars, hb.frame _, fun h => by cases h⟩
end
theorem i64_wf {n : Int} (h : (Lit.int .i64 n).wf = true) : -9223372036854775808 ≤ n ∧ n ≤ 9223372036854775807 := by simpa [Lit.wf, IntKind.min, IntKind.max, IntKind.signed, IntKind.bits] using h
theorem u32_wf {n : Int} (h : (Lit.int .u32 n).wf = true) : 0 ≤ n ∧ n ≤ 4294967295 := by simpa [Lit.wf, IntKind.min, IntKind.max, IntKind.signed, IntKind.bits] using h
theorem u16_wf {n : Int} (h : (Lit.int .u16 n).wf = true) : 0 ≤ n ∧ n ≤ 65535 := by simpa [Lit.wf, IntKind.min, IntKind.max, IntKind.signed, IntKind.bits] using h
theorem u8_wf {n : Int} (h : (Lit.int .u8 n).wf = true) : 0 ≤ n ∧ n ≤ 255 := by simpa [Lit.wf, IntKind.min, IntKind.max, IntKind.signed, IntKind.bits] using h
end Go.Proofs.YtkbdlmmpeieaeaaDoor
