/-
  BuildRoom, proved: for every list of what is told and two numbers the call returns true and the arguments read as they did. No condition.
-/
import Derived.Test.YtehaohaphlmndaaRowB
import Derived.Test.YtehaohaphlmndaaBldOW
namespace Go.Proofs.Ytehaohaphlmndaa
open Go Go.ChangeShapes Go.WideShapes Go.ChangeAt Go.RowKit Go.Deep
set_option maxRecDepth 100000 in
theorem broomContract (H : Type) (enc : TypeId × Value → H) (W : World) (base : Nat) (args : Array Value) (ds gs : List (DataW H)) (before : List MemPlace)
    (hval : ∀ (j : Nat) t v, Try.f12.params[j]? = some t → args[j]? = some v → Value.okWide Try.prog W .any base t v)
    (hW : DataW.Whole enc Try.prog Try.f12.params.toList Rows.buildRoomSpec.vars false W args.toList ds gs before) (_hL : laidMetH Try.prog Rows.buildRoomRow.laid W) :
    Calls Try.prog 12 args W fun e W' => ∃ v, e = .returned v ∧ Rows.buildRoomSpec.post enc Try.prog Try.f12 false true false false W args v W' := by
  have hW' := hW
  obtain ⟨p, q, hA0, hV, rfl, hfz, hnd⟩ := hW
  have hA : DataW.TrodAll enc Try.prog W 0 (fun _ => true) true Try.f12.params.toList args.toList ds p := hA0
  rw [Try.params12] at hA hval
  obtain ⟨v0, vs0, d0, ds0, p0, q0, hargs, rfl, rfl, t0, r0⟩ := trodAll_cons hA
  obtain ⟨v1, vs1, d1, ds1, p1, q1, rfl, rfl, rfl, t1, r1⟩ := trodAll_cons r0
  obtain ⟨v2, vs2, d2, ds2, p2, q2, rfl, rfl, rfl, t2, r2⟩ := trodAll_cons r1
  obtain ⟨rfl, rfl, rfl⟩ := trodAll_nil r2
  obtain rfl : args = #[v0, v1, v2] := by cases args; simp_all
  obtain ⟨rfl, rfl⟩ := trodVars_none hV
  obtain ⟨x0, h0, hl0, -⟩ := read_raws (hval 0 76 v0 rfl rfl) t0
  obtain ⟨x1, rfl, rfl, rfl, h1⟩ := open_int Try.underlying5 (hval 1 5 v1 rfl rfl) t1
  obtain ⟨x2, rfl, rfl, rfl, h2⟩ := open_int Try.underlying5 (hval 2 5 v2 rfl rfl) t2
  clear hA0
  simp only [List.append_nil] at hW'
  refine (broom_any v0 x0 x1 x2 W (by obtain ⟨c, hc⟩ := byte_of h1; rw [hc]; exact (co_bd c).1) (by obtain ⟨c, hc⟩ := byte_of h1; rw [hc]; exact (co_bd c).2) (by obtain ⟨c, hc⟩ := byte_of h2; rw [hc]; exact (co_bd c).1) (by obtain ⟨c, hc⟩ := byte_of h2; rw [hc]; exact (co_bd c).2) h0 hl0).mono fun e W' ⟨he, hb⟩ => ?_
  subst he
  exact ⟨_, rfl, law_post hW' (trodAll_cons_mk (shut_bool Try.underlying4 _) trodAll_mk0) (trodAll_cons_mk (shut_raws t0 hb) (trodAll_cons_mk (shut_int Try.underlying5 h1) (trodAll_cons_mk (shut_int Try.underlying5 h2) trodAll_mk0))) rfl hb⟩

theorem broomMet (os : Os) : laidMet Try.prog Rows.buildRoomRow.laid ((laidWorld os).forCall (fun _ _ => 0) ⟨#[], #[.slice none 0 0, .int .u8 0, .int .u8 0], []⟩).memory :=
  laidMet_of_run' 8 (by kernel_rfl) (by kernel_rfl)
theorem broomReads (os : Os) {H : Type} (enc : TypeId × Value → H) : ∃ places, DataW.whole enc Try.prog ((laidWorld os).forCall (fun _ _ => 0) ⟨#[], #[.slice none 0 0, .int .u8 0, .int .u8 0], []⟩).memory Try.f12.params.toList Rows.buildRoomSpec.vars false #[Value.slice none 0 0, .int .u8 0, .int .u8 0].toList 8 = some ([.nil, .lit (.int .u8 0), .lit (.int .u8 0)], [], places) :=
  ⟨[], by kernel_rfl⟩

set_option maxRecDepth 100000 in
theorem broomLifted (os : Os) (started : os.Started) (H : Type) (enc : TypeId × Value → H) (F : Stop.Interp) :
    ReturnsInHanded {} Try.checked os 12 .any ((OpenSpec.ofChange Rows.buildRoomSpec).preRow enc Try.prog Try.f12 Rows.buildRoomRow.domain false Rows.buildRoomRow.laid) (((OpenSpec.ofChange Rows.buildRoomSpec).at F).post enc Try.prog Try.f12 false true false false) := by
  obtain ⟨places, hx⟩ := broomReads os enc
  refine returnsInHanded_of_row (C := Try.checked) (s := OpenSpec.ofChange Rows.buildRoomSpec) ownKnobs started (by kernel_rfl) Try.func12
    (witness_row_at (enc := enc) (C := Try.checked) false (laidWorld os) #[.slice none 0 0, .int .u8 0, .int .u8 0] rfl (by kernel_rfl) (by kernel_rfl) (by kernel_rfl)
      (OpenSpec.preRow_of_cond 8 hx (by kernel_rfl) (fun k hk => by cases hk) (by kernel_rfl) (broomMet os))) ?_
  intro W base args ds gs before hval hW _ _ _ hL _ _
  exact broomContract H enc W base args ds gs before hval hW hL

theorem broomSaid : Rows.BuildRoomSaid :=
  OpenClaim.holds_of_cond 12 Try.f12 rfl rfl rfl rfl rfl rfl rfl ⟨rfl, rfl, rfl, rfl, rfl⟩ rfl rfl rfl rfl rfl (by kernel_rfl) Try.func12 (by kernel_rfl)
    (of_decide_eq_true (by kernel_rfl)) (by unfold Func.isWrapper; first | (rw [if_pos (by decide +kernel)]; kernel_rfl) | (rw [if_neg (by decide +kernel)]; exact ⟨rfl, rfl⟩))
    (fun os started H enc _ F => by rw [OpenClaim.pre_eq_preRow]; exact broomLifted os started H enc F)

#print axioms broomSaid
end Go.Proofs.Ytehaohaphlmndaa
