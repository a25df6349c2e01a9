/-
  ClauseTurned, proved: for every letters, sign and turn the call returns true; Go's two listed tables start as the program's text lays them (the card ties them).
-/
import Derived.Test.YtbjajipeiigodaaDoorRow
import Derived.Test.YtbjajipeiigodaaDoorArgB
namespace Go.Proofs.YtbjajipeiigodaaDoor
open Go Go.ChangeShapes Go.WideShapes Go.ChangeAt Go.RowKit
set_option maxRecDepth 100000 in
theorem turnedContract (H : Type) (enc : TypeId × Value → H) (W : World) (base : Nat) (args : Array Value) (ds gs : List (DataW H)) (before : List MemPlace)
    (hval : ∀ (j : Nat) t v, Tryd.f7.params[j]? = some t → args[j]? = some v → Value.okWide Tryd.prog W .any base t v)
    (hW : DataW.Whole enc Tryd.prog Tryd.f7.params.toList Rows.clauseTurnedSpec.vars false W args.toList ds gs before) (_hL : laidMetH Tryd.prog Rows.clauseTurnedRow.laid W) :
    Calls Tryd.prog 7 args W fun e W' => ∃ v, e = .returned v ∧ Rows.clauseTurnedSpec.post enc Tryd.prog Tryd.f7 false true false false W args v W' := by
  have hW' := hW
  obtain ⟨p, q, hA0, hV, rfl, hfz, hnd⟩ := hW
  have hA : DataW.TrodAll enc Tryd.prog W 0 (fun _ => true) true Tryd.f7.params.toList args.toList ds p := hA0
  rw [Tryd.params7] at hA hval
  obtain ⟨v0, vs0, d0, ds0, p0, q0, hargs, rfl, rfl, t0, r0⟩ := trodAll_cons hA
  obtain ⟨v1, vs1, d1, ds1, p1, q1, rfl, rfl, rfl, t1, r1⟩ := trodAll_cons r0
  obtain ⟨v2, vs2, d2, ds2, p2, q2, rfl, rfl, rfl, t2, r2⟩ := trodAll_cons r1
  obtain ⟨v3, vs3, d3, ds3, p3, q3, rfl, rfl, rfl, t3, r3⟩ := trodAll_cons r2
  obtain ⟨rfl, rfl, rfl⟩ := trodAll_nil r3
  obtain rfl : args = #[v0, v1, v2, v3] := by cases args; simp_all
  obtain ⟨rfl, rfl⟩ := trodVars_none hV
  obtain ⟨x0, h0⟩ := read_bytes (hval 0 42 v0 rfl rfl) t0
  obtain ⟨x1, h1⟩ := read_bytes (hval 1 42 v1 rfl rfl) t1
  obtain ⟨x2, rfl, rfl, rfl, h2⟩ := open_int Tryd.underlying5 (hval 2 5 v2 rfl rfl) t2
  obtain ⟨x3, rfl, rfl, rfl, h3⟩ := open_int Tryd.underlying5 (hval 3 5 v3 rfl rfl) t3
  clear hA0
  simp only [List.append_nil] at hW'
  refine (turnedLaw _ _ x0 x1 x2 x3 W h0 h1 (b8_wf h2).1 (b8_wf h3).1 (b8_wf h3).2).mono fun e W' ⟨he, hb⟩ => ?_
  subst he
  exact ⟨_, rfl, law_post hW' (trodAll_cons_mk (shut_bool Tryd.underlying4 _) trodAll_mk0) (trodAll_cons_mk (shut_bytes t0 hb) (trodAll_cons_mk (shut_bytes t1 hb) (trodAll_cons_mk (shut_int Tryd.underlying5 h2) (trodAll_cons_mk (shut_int Tryd.underlying5 h3) trodAll_mk0)))) rfl hb⟩

theorem turnedMet (os : Os) : laidMet Tryd.prog Rows.clauseTurnedRow.laid ((laidWorld os).forCall (fun _ _ => 0) ⟨#[], #[.slice none 0 0, .slice none 0 0, .int .u8 0, .int .u8 0], []⟩).memory :=
  laidMet_of_run' 8 (by kernel_rfl) (by kernel_rfl)
theorem turnedReads (os : Os) {H : Type} (enc : TypeId × Value → H) : ∃ places, DataW.whole enc Tryd.prog ((laidWorld os).forCall (fun _ _ => 0) ⟨#[], #[.slice none 0 0, .slice none 0 0, .int .u8 0, .int .u8 0], []⟩).memory Tryd.f7.params.toList Rows.clauseTurnedSpec.vars false #[Value.slice none 0 0, .slice none 0 0, .int .u8 0, .int .u8 0].toList 8 = some ([.nil, .nil, .lit (.int .u8 0), .lit (.int .u8 0)], [], places) :=
  ⟨[], by kernel_rfl⟩

set_option maxRecDepth 100000 in
theorem turnedLifted (os : Os) (started : os.Started) (H : Type) (enc : TypeId × Value → H) (F : Stop.Interp) :
    ReturnsInHanded {} Tryd.checked os 7 .any ((OpenSpec.ofChange Rows.clauseTurnedSpec).preRow enc Tryd.prog Tryd.f7 Rows.clauseTurnedRow.domain false Rows.clauseTurnedRow.laid) (((OpenSpec.ofChange Rows.clauseTurnedSpec).at F).post enc Tryd.prog Tryd.f7 false true false false) := by
  obtain ⟨places, hx⟩ := turnedReads os enc
  refine returnsInHanded_of_row (C := Tryd.checked) (s := OpenSpec.ofChange Rows.clauseTurnedSpec) ownKnobs started (by kernel_rfl) Tryd.func7
    (witness_row_at (enc := enc) (C := Tryd.checked) false (laidWorld os) #[.slice none 0 0, .slice none 0 0, .int .u8 0, .int .u8 0] rfl (by kernel_rfl) (by kernel_rfl) (by kernel_rfl)
      (OpenSpec.preRow_of_cond 8 hx (by kernel_rfl) (fun k hk => by cases hk) (by kernel_rfl) (turnedMet os))) ?_
  intro W base args ds gs before hval hW _ _ _ hL _ _
  exact turnedContract H enc W base args ds gs before hval hW hL

theorem turnedSaid : Rows.ClauseTurnedSaid :=
  OpenClaim.holds_of_cond 7 Tryd.f7 rfl rfl rfl rfl rfl rfl rfl ⟨rfl, rfl, rfl, rfl, rfl⟩ rfl rfl rfl rfl rfl (by kernel_rfl) Tryd.func7 (by kernel_rfl)
    (of_decide_eq_true (by kernel_rfl)) (by unfold Func.isWrapper; first | (rw [if_pos (by decide +kernel)]; kernel_rfl) | (rw [if_neg (by decide +kernel)]; exact ⟨rfl, rfl⟩))
    (fun os started H enc _ F => by rw [OpenClaim.pre_eq_preRow]; exact turnedLifted os started H enc F)

/-- No parameter wants a stand-in; the program's own looks are off. -/
theorem turnedPlain (f : FuncId) (fn : Func) (hf : Tryd.pinned.checked.prog.funcNamed Rows.clauseTurnedRow.func = some f) (hfn : Tryd.pinned.checked.prog.funcs[f]? = some fn) :
    false = Tryd.pinned.checked.prog.looks [] ∧ ∀ (j : Nat) t, fn.params[j]? = some t → Tryd.pinned.checked.prog.wantsStandIn t = false := by
  obtain rfl : f = 7 := Option.some.inj ((show Tryd.prog.funcNamed Rows.clauseTurnedRow.func = some 7 by kernel_rfl).symm.trans hf) |>.symm
  obtain rfl : fn = Tryd.f7 := (Option.some.inj (Tryd.func7.symm.trans hfn)).symm
  refine ⟨by kernel_rfl, fun j t ht => ?_⟩
  rw [Tryd.params7] at ht
  have hm : t ∈ [42, 42, 5, 5] := by simpa using Array.mem_of_getElem? ht
  have hall : ([42, 42, 5, 5].all fun u => !Tryd.prog.wantsStandIn u) = true := by kernel_rfl
  exact (show Tryd.prog.wantsStandIn t = false by simpa using List.all_eq_true.1 hall t hm)

theorem clauseTurned_card : Rows.ClauseTurnedCardSaid :=
  Claim7.holds_tied_plain_at .later [] _ _ _ _ turnedSaid (fun _ h => by cases h) (by kernel_rfl) (fun _ h => by cases h) clauseTurned_row_tie rfl ⟨rfl, rfl⟩ (by kernel_rfl) rfl turnedPlain (by kernel_rfl)
#print axioms clauseTurned_card
end Go.Proofs.YtbjajipeiigodaaDoor
