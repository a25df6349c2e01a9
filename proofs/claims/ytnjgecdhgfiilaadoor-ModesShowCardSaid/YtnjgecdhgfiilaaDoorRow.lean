/-
  What the rows of the laws share: the listed table of signs gives what the walks ask; the world of a witness; the end of a row whose arguments are plain and whose call leaves what was there as it was.
-/
import Derived.Test.YtnjgecdhgfiilaaDoorAwake
import Derived.Test.YtnjgecdhgfiilaaDoorCards
import Derived.Test.YtnjgecdhgfiilaaDoorTie
import Derived.ProofKit
import Derived.OpenShut
import Derived.Deep.DeepHandedRow
import Derived.Lib.LaidTab
namespace Go.Proofs.YtnjgecdhgfiilaaDoor
open Go Go.ChangeShapes Go.WideShapes Go.ChangeAt Go.RowKit

theorem ownKnobs : ownKnob Tryd.prog.godebug = none := by kernel_rfl
theorem gSignsType : (Tryd.prog.globals[0]?).map (·.type) = some 50 := by kernel_rfl
theorem cellsStr : Tryd.prog.cellsOf 9 = 1 := by kernel_rfl
theorem cellsTab : Tryd.prog.cellsOf 50 = 3 := by kernel_rfl

/-- One text of the listed table. -/
theorem text_at {W : World} {cs : List Value} {m : Nat} {xs : List (DataW Unit × List MemPlace)} {i : Nat} {l : List UInt8}
    (h : DataW.trod (fun _ => ()) Tryd.prog W 0 (fun _ => true) false m 9 (List.take (Tryd.prog.cellsOf 9) (List.drop (i * Tryd.prog.cellsOf 9) cs)) = xs[i]?)
    (hx : (xs.map (fun x => x.fst))[i]? = some (.lit (.string l))) : cs[i]? = some (.string ⟨l.toArray⟩) := by
  rw [cellsStr, Nat.mul_one] at h
  cases hxi : xs[i]? with
  | none => simp [hxi] at hx
  | some x =>
    rw [hxi] at h
    obtain ⟨s, hc, hs, -⟩ := DataW.trod_string Tryd.underlying9 h
    simp only [List.getElem?_map, hxi, Option.map_some, Option.some.injEq] at hx
    rw [hs] at hx
    simp only [DataW.lit.injEq, Lit.string.injEq] at hx
    have h1 : cs[i]? = some (.string s) := by
      have := congrArg (·[0]?) hc
      simpa [List.getElem?_take, List.getElem?_drop] using this
    rw [h1, ← hx]
theorem signs_of {W : World} (h : laidMetH Tryd.prog Rows.modesClassRow.laid W) : SignsAt W := by
  rw [MakeChecks.laidMetH_plain _ _ _ (by kernel_rfl)] at h
  obtain ⟨ps, ⟨g0, t0, cs0, f0, p0, q0, hg0, ht0, hv0, hd0, _, _⟩, _, _⟩ := h
  obtain rfl := Option.some.inj ((show Tryd.prog.globalNamed _ = some 0 by kernel_rfl).symm.trans hg0)
  obtain rfl := Option.some.inj (gSignsType.symm.trans ht0)
  obtain ⟨xs, m1, rfl, hx1, hlen, hn3, hel⟩ := DataW.trod_array Tryd.underlying50 hd0
  simp only [Prod.mk.injEq] at hx1
  have hx := hx1.1
  simp only [Rows.laid_gaoler_modes_signs, DataW.agg.injEq] at hx
  have at_ : ∀ (i : Nat) (l : List UInt8), i < 3 → (xs.map (fun x => x.fst))[i]? = some (.lit (.string l)) → W.cell? ⟨0, i, none⟩ = some (.string ⟨l.toArray⟩) := by
    intro i l hi hl
    rw [World.var?_cell hg0 hv0 i, ← text_at (hel i hi) hl]
    simp
  have c0 := at_ 0 [45, 120, 83, 115] (by decide) (by rw [← hx]; rfl)
  have c1 := at_ 1 [45, 120, 83, 115] (by decide) (by rw [← hx]; rfl)
  have c2 := at_ 2 [45, 120, 84, 116] (by decide) (by rw [← hx]; rfl)
  refine ⟨?_, c0, c1, c2⟩
  cases hh : W.heap[0]? with
  | none => simp [World.cell?, hh] at c0
  | some o => exact Nat.lt_of_le_of_lt (Nat.zero_le _) (Array.getElem?_eq_some_iff.1 hh).1

/-- The world of a witness: the settled one, the table of signs holding what its initialiser lays. -/
noncomputable def laidWorld (os : Os) : World :=
  { World.holding Tryd.prog os ⟨#[], #[], []⟩ with heap := (World.holding Tryd.prog os ⟨#[], #[], []⟩).heap.modify 0 fun
      | .cells _ t frozen => .cells #[.string ⟨#[45, 120, 83, 115]⟩, .string ⟨#[45, 120, 83, 115]⟩, .string ⟨#[45, 120, 84, 116]⟩] t frozen
      | o => o }

section
variable {H : Type} {enc : TypeId × Value → H} {P : Program}
/-- The end of a law's row: its arguments hold no memory, it answers one bool, and what was there is as it was. -/
theorem law_post {f : Func} {s : ChangeSpec} {W W' : World} {args : Array Value} {ds : List (DataW H)} {v : Value}
    (hW : DataW.Whole enc P f.params.toList s.vars false W args.toList ds [] [])
    (hres : DataW.TrodAll enc P W' W.heap.size (fun _ => false) false f.resultTypes.toList (v.resultList f.resultTypes.size) (s.fn H (ds ++ [])).results [])
    (hargs : DataW.TrodAll enc P W' 0 (fun b => decide (b < W.heap.size)) true f.params.toList args.toList (s.fn H (ds ++ [])).args [])
    (hvars : DataW.TrodVars enc P W' (fun b => decide (b < W.heap.size)) s.vars (s.fn H (ds ++ [])).vars [])
    (hb : Below W.heap.size W W') : s.post enc P f false true false false W args v W' :=
  ⟨ds, [], [], [], [], [], hW, hres, hargs, hvars, hb.frame _, fun h => by cases h⟩
end
end Go.Proofs.YtnjgecdhgfiilaaDoor
