/-
  ChangeParts, proved: for every list of what is told and numbers the call returns true and the arguments read as they did. No condition.
-/
import Derived.Test.YtnkjaocmfhjnoaaGreatD22
import Derived.Test.YtnkjaocmfhjnoaaGreatD10
import Derived.Test.YtnkjaocmfhjnoaaGreatD21
namespace Go.Proofs.YtnkjaocmfhjnoaaGreat
open Go Go.ChangeShapes Go.WideShapes Go.ChangeAt Go.RowKit Go.Deep
set_option maxRecDepth 100000 in
theorem lpartsContract {R : World → Value → Sym → List Nat → Prop} (HPC : SysD R) (H : Type) (enc : TypeId × Value → H) (W : World) (base : Nat) (args : Array Value) (ds gs : List (DataW H)) (before : List MemPlace)
    (hval : ∀ (j : Nat) t v, Tryz.f6.params[j]? = some t → args[j]? = some v → Value.okWide Tryz.prog W .any base t v)
    (hW : DataW.Whole enc Tryz.prog Tryz.f6.params.toList Rows.changePartsSpec.vars false W args.toList ds gs before) (_hL : laidMetH Tryz.prog Rows.changePartsRow.laid W) :
    Calls Tryz.prog 6 args W fun e W' => ∃ v, e = .returned v ∧ Rows.changePartsSpec.post enc Tryz.prog Tryz.f6 false true false false W args v W' := by
  have hW' := hW
  obtain ⟨p, q, hA0, hV, rfl, hfz, hnd⟩ := hW
  have hA : DataW.TrodAll enc Tryz.prog W 0 (fun _ => true) true Tryz.f6.params.toList args.toList ds p := hA0
  rw [Tryz.params6] at hA hval
  obtain ⟨v0, vs0, d0, ds0, p0, q0, hargs, rfl, rfl, t0, r0⟩ := trodAll_cons hA
  obtain ⟨v1, vs1, d1, ds1, p1, q1, rfl, rfl, rfl, t1, r1⟩ := trodAll_cons r0
  obtain ⟨v2, vs2, d2, ds2, p2, q2, rfl, rfl, rfl, t2, r2⟩ := trodAll_cons r1
  obtain ⟨v3, vs3, d3, ds3, p3, q3, rfl, rfl, rfl, t3, r3⟩ := trodAll_cons r2
  obtain ⟨v4, vs4, d4, ds4, p4, q4, rfl, rfl, rfl, t4, r4⟩ := trodAll_cons r3
  obtain ⟨v5, vs5, d5, ds5, p5, q5, rfl, rfl, rfl, t5, r5⟩ := trodAll_cons r4
  obtain ⟨rfl, rfl, rfl⟩ := trodAll_nil r5
  obtain rfl : args = #[v0, v1, v2, v3, v4, v5] := by cases args; simp_all
  obtain ⟨rfl, rfl⟩ := trodVars_none hV
  obtain ⟨x0, rfl, rfl, rfl, h0⟩ := open_int Tryz.underlying3 (hval 0 3 v0 rfl rfl) t0
  obtain ⟨x1, h1, hl1, hc1⟩ := read_raws (hval 1 22 v1 rfl rfl) t1
  obtain ⟨x2, rfl, rfl, rfl, h2⟩ := open_int Tryz.underlying5 (hval 2 5 v2 rfl rfl) t2
  obtain ⟨x3, rfl, rfl, rfl, h3⟩ := open_int Tryz.underlying61 (hval 3 61 v3 rfl rfl) t3
  obtain ⟨x4, rfl, rfl, rfl, h4⟩ := open_int Tryz.underlying61 (hval 4 61 v4 rfl rfl) t4
  obtain ⟨x5, rfl, rfl, rfl, h5⟩ := open_int Tryz.underlying5 (hval 5 5 v5 rfl rfl) t5
  clear hA0
  simp only [List.append_nil] at hW'
  refine (lparts_any HPC x0 v1 x1 x2 x3 x4 x5 W h1 hl1 (u8_wf h2) (u16_wf h3) (u16_wf h4) (u8_wf h5)).mono fun e W' ⟨he, hb⟩ => ?_
  subst he
  exact ⟨_, rfl, law_post hW' (trodAll_cons_mk (shut_bool Tryz.underlying4 _) trodAll_mk0) (trodAll_cons_mk (shut_int Tryz.underlying3 h0) (trodAll_cons_mk (shut_raws t1 hb) (trodAll_cons_mk (shut_int Tryz.underlying5 h2) (trodAll_cons_mk (shut_int Tryz.underlying61 h3) (trodAll_cons_mk (shut_int Tryz.underlying61 h4) (trodAll_cons_mk (shut_int Tryz.underlying5 h5) trodAll_mk0)))))) rfl hb⟩

theorem lpartsMet (os : Os) : laidMet Tryz.prog Rows.changePartsRow.laid ((laidWorld os).forCall (fun _ _ => 0) ⟨#[], #[.int .i64 0, .slice none 0 0, .int .u8 0, .int .u16 0, .int .u16 0, .int .u8 0], []⟩).memory :=
  laidMet_of_run' 8 (by kernel_rfl) (by kernel_rfl)
theorem lpartsReads (os : Os) {H : Type} (enc : TypeId × Value → H) : ∃ places, DataW.whole enc Tryz.prog ((laidWorld os).forCall (fun _ _ => 0) ⟨#[], #[.int .i64 0, .slice none 0 0, .int .u8 0, .int .u16 0, .int .u16 0, .int .u8 0], []⟩).memory Tryz.f6.params.toList Rows.changePartsSpec.vars false #[Value.int .i64 0, .slice none 0 0, .int .u8 0, .int .u16 0, .int .u16 0, .int .u8 0].toList 8 = some ([.lit (.int .i64 0), .nil, .lit (.int .u8 0), .lit (.int .u16 0), .lit (.int .u16 0), .lit (.int .u8 0)], [], places) :=
  ⟨[], by kernel_rfl⟩

set_option maxRecDepth 100000 in
theorem lpartsLifted {R : World → Value → Sym → List Nat → Prop} (HPC : SysD R) (os : Os) (started : os.Started) (H : Type) (enc : TypeId × Value → H) (F : Stop.Interp) :
    ReturnsInHanded {} Tryz.checked os 6 .any ((OpenSpec.ofChange Rows.changePartsSpec).preRow enc Tryz.prog Tryz.f6 Rows.changePartsRow.domain false Rows.changePartsRow.laid) (((OpenSpec.ofChange Rows.changePartsSpec).at F).post enc Tryz.prog Tryz.f6 false true false false) := by
  obtain ⟨places, hx⟩ := lpartsReads os enc
  refine returnsInHanded_of_row (C := Tryz.checked) (s := OpenSpec.ofChange Rows.changePartsSpec) ownKnobs started (by kernel_rfl) Tryz.func6
    (witness_row_at (enc := enc) (C := Tryz.checked) false (laidWorld os) #[.int .i64 0, .slice none 0 0, .int .u8 0, .int .u16 0, .int .u16 0, .int .u8 0] rfl (by kernel_rfl) (by kernel_rfl) (by kernel_rfl)
      (OpenSpec.preRow_of_cond 8 hx (by kernel_rfl) (fun k hk => by cases hk) (by kernel_rfl) (lpartsMet os))) ?_
  intro W base args ds gs before hval hW _ _ _ hL _ _
  exact lpartsContract HPC H enc W base args ds gs before hval hW hL

theorem lpartsOf {R : World → Value → Sym → List Nat → Prop} (HPC : SysD R) : Rows.ChangePartsSaid :=
  OpenClaim.holds_of_cond 6 Tryz.f6 rfl rfl rfl rfl rfl rfl rfl ⟨rfl, rfl, rfl, rfl, rfl⟩ rfl rfl rfl rfl rfl (by kernel_rfl) Tryz.func6 (by kernel_rfl)
    (of_decide_eq_true (by kernel_rfl)) (by unfold Func.isWrapper; first | (rw [if_pos (by decide +kernel)]; kernel_rfl) | (rw [if_neg (by decide +kernel)]; exact ⟨rfl, rfl⟩))
    (fun os started H enc _ F => by rw [OpenClaim.pre_eq_preRow]; exact lpartsLifted HPC os started H enc F)

theorem lpartsSaid : Rows.ChangePartsSaid := lpartsOf sysD

#print axioms lpartsSaid
end Go.Proofs.YtnkjaocmfhjnoaaGreat
