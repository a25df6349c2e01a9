/-
  SysFails, proved: for every list of what is told, umask, who ask and calls of bulk at most 1048576 the call returns true and the arguments read as they did. No condition.
-/
import Derived.Test.YtkmkfolpjlkfoaaGreatM24
import Derived.Test.YtkmkfolpjlkfoaaGreatWF
import Derived.Test.YtkmkfolpjlkfoaaGreatM23
namespace Go.Proofs.YtkmkfolpjlkfoaaGreat
open Go Go.ChangeShapes Go.WideShapes Go.ChangeAt Go.RowKit Go.Deep
set_option maxRecDepth 100000 in
theorem lfailsContract {R : World → Value → Sym → List Nat → Prop} (HPC : SysC R) (H : Type) (enc : TypeId × Value → H) (W : World) (base : Nat) (args : Array Value) (ds gs : List (DataW H)) (before : List MemPlace)
    (hval : ∀ (j : Nat) t v, Tryz.f4.params[j]? = some t → args[j]? = some v → Value.okWide Tryz.prog W .any base t v)
    (hW : DataW.Whole enc Tryz.prog Tryz.f4.params.toList Rows.sysFailsSpec.vars false W args.toList ds gs before) (_hL : laidMetH Tryz.prog Rows.sysFailsUptoRow.laid W) (hk : Rows.uptoSmall H (ds ++ gs) = true) :
    Calls Tryz.prog 4 args W fun e W' => ∃ v, e = .returned v ∧ Rows.sysFailsSpec.post enc Tryz.prog Tryz.f4 false true false false W args v W' := by
  have hW' := hW
  obtain ⟨p, q, hA0, hV, rfl, hfz, hnd⟩ := hW
  have hA : DataW.TrodAll enc Tryz.prog W 0 (fun _ => true) true Tryz.f4.params.toList args.toList ds p := hA0
  rw [Tryz.params4] at hA hval
  obtain ⟨v0, vs0, d0, ds0, p0, q0, hargs, rfl, rfl, t0, r0⟩ := trodAll_cons hA
  obtain ⟨v1, vs1, d1, ds1, p1, q1, rfl, rfl, rfl, t1, r1⟩ := trodAll_cons r0
  obtain ⟨v2, vs2, d2, ds2, p2, q2, rfl, rfl, rfl, t2, r2⟩ := trodAll_cons r1
  obtain ⟨v3, vs3, d3, ds3, p3, q3, rfl, rfl, rfl, t3, r3⟩ := trodAll_cons r2
  obtain ⟨v4, vs4, d4, ds4, p4, q4, rfl, rfl, rfl, t4, r4⟩ := trodAll_cons r3
  obtain ⟨rfl, rfl, rfl⟩ := trodAll_nil r4
  obtain rfl : args = #[v0, v1, v2, v3, v4] := by cases args; simp_all
  obtain ⟨rfl, rfl⟩ := trodVars_none hV
  obtain ⟨x0, rfl, rfl, rfl, h0⟩ := open_int Tryz.underlying3 (hval 0 3 v0 rfl rfl) t0
  obtain ⟨x1, h1, hl1, hc1⟩ := read_raws (hval 1 22 v1 rfl rfl) t1
  obtain ⟨x2, rfl, rfl, rfl, h2⟩ := open_int Tryz.underlying3 (hval 2 3 v2 rfl rfl) t2
  obtain ⟨x3, h3, hl3, hg3⟩ := read_creds (hval 3 23 v3 rfl rfl) t3
  have hB3 : Rows.uptoBulk d3 ≤ 1048576 := Nat.le_trans (bulk_of_mem (by simp)) (bulk_small hk)
  obtain ⟨x4, h4, hl4⟩ := read_calls (hval 4 24 v4 rfl rfl) t4
  clear hA0
  simp only [List.append_nil] at hW'
  refine (lfails_any HPC (awk17_any HPC) x0 v1 x1 x2 v3 x3 v4 x4 W h1 hl1 h3 (fun c hc => Nat.le_trans (hg3 c hc) hB3) (Nat.le_trans hl3 hB3) h4 hl4).mono fun e W' ⟨he, hb⟩ => ?_
  subst he
  exact ⟨_, rfl, law_post hW' (trodAll_cons_mk (shut_bool Tryz.underlying4 _) trodAll_mk0) (trodAll_cons_mk (shut_int Tryz.underlying3 h0) (trodAll_cons_mk (shut_raws t1 hb) (trodAll_cons_mk (shut_int Tryz.underlying3 h2) (trodAll_cons_mk (shut_creds t3 hb) (trodAll_cons_mk (shut_calls t4 hb) trodAll_mk0))))) rfl hb⟩

theorem lfailsMet (os : Os) : laidMet Tryz.prog Rows.sysFailsUptoRow.laid ((laidWorld os).forCall (fun _ _ => 0) ⟨#[], #[.int .i64 0, .slice none 0 0, .int .i64 0, .slice none 0 0, .slice none 0 0], []⟩).memory :=
  laidMet_of_run' 8 (by kernel_rfl) (by kernel_rfl)
theorem lfailsReads (os : Os) {H : Type} (enc : TypeId × Value → H) : ∃ places, DataW.whole enc Tryz.prog ((laidWorld os).forCall (fun _ _ => 0) ⟨#[], #[.int .i64 0, .slice none 0 0, .int .i64 0, .slice none 0 0, .slice none 0 0], []⟩).memory Tryz.f4.params.toList Rows.sysFailsSpec.vars false #[Value.int .i64 0, .slice none 0 0, .int .i64 0, .slice none 0 0, .slice none 0 0].toList 8 = some ([.lit (.int .i64 0), .nil, .lit (.int .i64 0), .nil, .nil], [], places) :=
  ⟨[], by kernel_rfl⟩

set_option maxRecDepth 100000 in
theorem lfailsLifted {R : World → Value → Sym → List Nat → Prop} (HPC : SysC R) (os : Os) (started : os.Started) (H : Type) (enc : TypeId × Value → H) (F : Stop.Interp) :
    ReturnsInHanded {} Tryz.checked os 4 .any ((Rows.OpenSpec.upto Rows.sysFailsSpec).preRow enc Tryz.prog Tryz.f4 Rows.sysFailsUptoRow.domain false Rows.sysFailsUptoRow.laid) (((Rows.OpenSpec.upto Rows.sysFailsSpec).at F).post enc Tryz.prog Tryz.f4 false true false false) := by
  obtain ⟨places, hx⟩ := lfailsReads os enc
  refine returnsInHanded_of_row (C := Tryz.checked) (s := Rows.OpenSpec.upto Rows.sysFailsSpec) ownKnobs started (by kernel_rfl) Tryz.func4
    (witness_row_at (enc := enc) (C := Tryz.checked) false (laidWorld os) #[.int .i64 0, .slice none 0 0, .int .i64 0, .slice none 0 0, .slice none 0 0] rfl (by kernel_rfl) (by kernel_rfl) (by kernel_rfl)
      (OpenSpec.preRow_of_cond 8 hx (by kernel_rfl) (fun k hk => by cases hk; kernel_rfl) (by kernel_rfl) (lfailsMet os))) ?_
  intro W base args ds gs before hval hW _ hcond _ hL _ _
  exact lfailsContract HPC H enc W base args ds gs before hval hW hL (hcond _ rfl)

theorem lfailsOf {R : World → Value → Sym → List Nat → Prop} (HPC : SysC R) : Rows.SysFailsUptoSaid :=
  OpenClaim.holds_of_cond 4 Tryz.f4 rfl rfl rfl rfl rfl rfl rfl ⟨rfl, rfl, rfl, rfl, rfl⟩ rfl rfl rfl rfl rfl (by kernel_rfl) Tryz.func4 (by kernel_rfl)
    (of_decide_eq_true (by kernel_rfl)) (by unfold Func.isWrapper; first | (rw [if_pos (by decide +kernel)]; kernel_rfl) | (rw [if_neg (by decide +kernel)]; exact ⟨rfl, rfl⟩))
    (fun os started H enc _ F => by rw [OpenClaim.pre_eq_preRow]; exact lfailsLifted HPC os started H enc F)

theorem lfailsSaid : Rows.SysFailsUptoSaid := lfailsOf sysC

#print axioms lfailsSaid
end Go.Proofs.YtkmkfolpjlkfoaaGreat
