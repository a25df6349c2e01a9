/-
  SysKeeps, proved: for every list of what is told, path, bytes and number the call returns true and the arguments read as they did. No condition.
-/
import Derived.Test.YtkmkfolpjlkfoaaGreatM24
import Derived.Test.YtkmkfolpjlkfoaaGreatWK
import Derived.Test.YtkmkfolpjlkfoaaGreatM23
namespace Go.Proofs.YtkmkfolpjlkfoaaGreat
open Go Go.ChangeShapes Go.WideShapes Go.ChangeAt Go.RowKit Go.Deep
set_option maxRecDepth 100000 in
theorem lkeepsContract {R : World → Value → Sym → List Nat → Prop} (HPC : SysC R) (H : Type) (enc : TypeId × Value → H) (W : World) (base : Nat) (args : Array Value) (ds gs : List (DataW H)) (before : List MemPlace)
    (hval : ∀ (j : Nat) t v, Tryz.f6.params[j]? = some t → args[j]? = some v → Value.okWide Tryz.prog W .any base t v)
    (hW : DataW.Whole enc Tryz.prog Tryz.f6.params.toList Rows.sysKeepsSpec.vars false W args.toList ds gs before) (_hL : laidMetH Tryz.prog Rows.sysKeepsRow.laid W) :
    Calls Tryz.prog 6 args W fun e W' => ∃ v, e = .returned v ∧ Rows.sysKeepsSpec.post enc Tryz.prog Tryz.f6 false true false false W args v W' := by
  have hW' := hW
  obtain ⟨p, q, hA0, hV, rfl, hfz, hnd⟩ := hW
  have hA : DataW.TrodAll enc Tryz.prog W 0 (fun _ => true) true Tryz.f6.params.toList args.toList ds p := hA0
  rw [Tryz.params6] at hA hval
  obtain ⟨v0, vs0, d0, ds0, p0, q0, hargs, rfl, rfl, t0, r0⟩ := trodAll_cons hA
  obtain ⟨v1, vs1, d1, ds1, p1, q1, rfl, rfl, rfl, t1, r1⟩ := trodAll_cons r0
  obtain ⟨v2, vs2, d2, ds2, p2, q2, rfl, rfl, rfl, t2, r2⟩ := trodAll_cons r1
  obtain ⟨v3, vs3, d3, ds3, p3, q3, rfl, rfl, rfl, t3, r3⟩ := trodAll_cons r2
  obtain ⟨v4, vs4, d4, ds4, p4, q4, rfl, rfl, rfl, t4, r4⟩ := trodAll_cons r3
  obtain ⟨rfl, rfl, rfl⟩ := trodAll_nil r4
  obtain rfl : args = #[v0, v1, v2, v3, v4] := by cases args; simp_all
  obtain ⟨rfl, rfl⟩ := trodVars_none hV
  obtain ⟨x0, rfl, rfl, rfl, h0⟩ := open_int Tryz.underlying3 (hval 0 3 v0 rfl rfl) t0
  obtain ⟨x1, h1, hl1, hc1⟩ := read_raws (hval 1 22 v1 rfl rfl) t1
  obtain ⟨x2, rfl, rfl, rfl, h2⟩ := ChangeMaps.open_string Tryz.underlying9 (hval 2 9 v2 rfl rfl) t2
  obtain ⟨x3, A3, k3, rfl, hk3, h3⟩ := read_bytesC (hval 3 46 v3 rfl rfl) t3
  obtain ⟨x4, rfl, rfl, rfl, h4⟩ := open_int Tryz.underlying5 (hval 4 5 v4 rfl rfl) t4
  clear hA0
  simp only [List.append_nil] at hW'
  refine (lkeeps_any HPC (awk17_any HPC) x0 v1 x1 x2 A3 k3 x3 x4 W h1 hl1 h3 (u8_wf h4)).mono fun e W' ⟨he, hb⟩ => ?_
  subst he
  exact ⟨_, rfl, law_post hW' (trodAll_cons_mk (shut_bool Tryz.underlying4 _) trodAll_mk0) (trodAll_cons_mk (shut_int Tryz.underlying3 h0) (trodAll_cons_mk (shut_raws t1 hb) (trodAll_cons_mk (ChangeMaps.shut_string Tryz.underlying9 h2) (trodAll_cons_mk (shut_bytes t3 hb) (trodAll_cons_mk (shut_int Tryz.underlying5 h4) trodAll_mk0))))) rfl hb⟩

theorem lkeepsMet (os : Os) : laidMet Tryz.prog Rows.sysKeepsRow.laid ((laidWorld os).forCall (fun _ _ => 0) ⟨#[], #[.int .i64 0, .slice none 0 0, .string ⟨#[]⟩, .slice none 0 0, .int .u8 0], []⟩).memory :=
  laidMet_of_run' 8 (by kernel_rfl) (by kernel_rfl)
theorem lkeepsReads (os : Os) {H : Type} (enc : TypeId × Value → H) : ∃ places, DataW.whole enc Tryz.prog ((laidWorld os).forCall (fun _ _ => 0) ⟨#[], #[.int .i64 0, .slice none 0 0, .string ⟨#[]⟩, .slice none 0 0, .int .u8 0], []⟩).memory Tryz.f6.params.toList Rows.sysKeepsSpec.vars false #[Value.int .i64 0, .slice none 0 0, .string ⟨#[]⟩, .slice none 0 0, .int .u8 0].toList 8 = some ([.lit (.int .i64 0), .nil, .lit (.string []), .nil, .lit (.int .u8 0)], [], places) :=
  ⟨[], by kernel_rfl⟩

set_option maxRecDepth 100000 in
theorem lkeepsLifted {R : World → Value → Sym → List Nat → Prop} (HPC : SysC R) (os : Os) (started : os.Started) (H : Type) (enc : TypeId × Value → H) (F : Stop.Interp) :
    ReturnsInHanded {} Tryz.checked os 6 .any ((OpenSpec.ofChange Rows.sysKeepsSpec).preRow enc Tryz.prog Tryz.f6 Rows.sysKeepsRow.domain false Rows.sysKeepsRow.laid) (((OpenSpec.ofChange Rows.sysKeepsSpec).at F).post enc Tryz.prog Tryz.f6 false true false false) := by
  obtain ⟨places, hx⟩ := lkeepsReads os enc
  refine returnsInHanded_of_row (C := Tryz.checked) (s := OpenSpec.ofChange Rows.sysKeepsSpec) ownKnobs started (by kernel_rfl) Tryz.func6
    (witness_row_at (enc := enc) (C := Tryz.checked) false (laidWorld os) #[.int .i64 0, .slice none 0 0, .string ⟨#[]⟩, .slice none 0 0, .int .u8 0] rfl (by kernel_rfl) (by kernel_rfl) (by kernel_rfl)
      (OpenSpec.preRow_of_cond 8 hx (by kernel_rfl) (fun k hk => by cases hk) (by kernel_rfl) (lkeepsMet os))) ?_
  intro W base args ds gs before hval hW _ _ _ hL _ _
  exact lkeepsContract HPC H enc W base args ds gs before hval hW hL

theorem lkeepsOf {R : World → Value → Sym → List Nat → Prop} (HPC : SysC R) : Rows.SysKeepsSaid :=
  OpenClaim.holds_of_cond 6 Tryz.f6 rfl rfl rfl rfl rfl rfl rfl ⟨rfl, rfl, rfl, rfl, rfl⟩ rfl rfl rfl rfl rfl (by kernel_rfl) Tryz.func6 (by kernel_rfl)
    (of_decide_eq_true (by kernel_rfl)) (by unfold Func.isWrapper; first | (rw [if_pos (by decide +kernel)]; kernel_rfl) | (rw [if_neg (by decide +kernel)]; exact ⟨rfl, rfl⟩))
    (fun os started H enc _ F => by rw [OpenClaim.pre_eq_preRow]; exact lkeepsLifted HPC os started H enc F)

theorem lkeepsSaid : Rows.SysKeepsSaid := lkeepsOf sysC

#print axioms lkeepsSaid
end Go.Proofs.YtkmkfolpjlkfoaaGreat
