/-
  SysApart, proved: for every list of what is told, who ask and calls of bulk at most 1048576 the call returns true and the arguments read as they did. No condition.
-/
import Derived.Test.YtkmkfolpjlkfoaaGreatM24
import Derived.Test.YtkmkfolpjlkfoaaGreatWA2
import Derived.Test.YtkmkfolpjlkfoaaGreatM23
namespace Go.Proofs.YtkmkfolpjlkfoaaGreat
open Go Go.ChangeShapes Go.WideShapes Go.ChangeAt Go.RowKit Go.Deep
set_option maxRecDepth 100000 in
theorem lapartContract {R : World → Value → Sym → List Nat → Prop} (HPC : SysC R) (H : Type) (enc : TypeId × Value → H) (W : World) (base : Nat) (args : Array Value) (ds gs : List (DataW H)) (before : List MemPlace)
    (hval : ∀ (j : Nat) t v, Tryz.f7.params[j]? = some t → args[j]? = some v → Value.okWide Tryz.prog W .any base t v)
    (hW : DataW.Whole enc Tryz.prog Tryz.f7.params.toList Rows.sysApartSpec.vars false W args.toList ds gs before) (_hL : laidMetH Tryz.prog Rows.sysApartUptoRow.laid W) (hk : Rows.uptoSmall H (ds ++ gs) = true) :
    Calls Tryz.prog 7 args W fun e W' => ∃ v, e = .returned v ∧ Rows.sysApartSpec.post enc Tryz.prog Tryz.f7 false true false false W args v W' := by
  have hW' := hW
  obtain ⟨p, q, hA0, hV, rfl, hfz, hnd⟩ := hW
  have hA : DataW.TrodAll enc Tryz.prog W 0 (fun _ => true) true Tryz.f7.params.toList args.toList ds p := hA0
  rw [Tryz.params7] at hA hval
  obtain ⟨v0, vs0, d0, ds0, p0, q0, hargs, rfl, rfl, t0, r0⟩ := trodAll_cons hA
  obtain ⟨v1, vs1, d1, ds1, p1, q1, rfl, rfl, rfl, t1, r1⟩ := trodAll_cons r0
  obtain ⟨v2, vs2, d2, ds2, p2, q2, rfl, rfl, rfl, t2, r2⟩ := trodAll_cons r1
  obtain ⟨v3, vs3, d3, ds3, p3, q3, rfl, rfl, rfl, t3, r3⟩ := trodAll_cons r2
  obtain ⟨rfl, rfl, rfl⟩ := trodAll_nil r3
  obtain rfl : args = #[v0, v1, v2, v3] := by cases args; simp_all
  obtain ⟨rfl, rfl⟩ := trodVars_none hV
  obtain ⟨x0, rfl, rfl, rfl, h0⟩ := open_int Tryz.underlying3 (hval 0 3 v0 rfl rfl) t0
  obtain ⟨x1, h1, hl1, hc1⟩ := read_raws (hval 1 22 v1 rfl rfl) t1
  obtain ⟨x2, h2, hl2, hg2⟩ := read_creds (hval 2 23 v2 rfl rfl) t2
  have hB2 : Rows.uptoBulk d2 ≤ 1048576 := Nat.le_trans (bulk_of_mem (by simp)) (bulk_small hk)
  obtain ⟨x3, h3, hl3⟩ := read_calls (hval 3 24 v3 rfl rfl) t3
  clear hA0
  simp only [List.append_nil] at hW'
  refine (lapart_any HPC (awk17_any HPC) x0 v1 x1 v2 x2 v3 x3 W h1 hl1 h2 (fun c hc => Nat.le_trans (hg2 c hc) hB2) (Nat.le_trans hl2 hB2) h3 hl3).mono fun e W' ⟨he, hb⟩ => ?_
  subst he
  exact ⟨_, rfl, law_post hW' (trodAll_cons_mk (shut_bool Tryz.underlying4 _) trodAll_mk0) (trodAll_cons_mk (shut_int Tryz.underlying3 h0) (trodAll_cons_mk (shut_raws t1 hb) (trodAll_cons_mk (shut_creds t2 hb) (trodAll_cons_mk (shut_calls t3 hb) trodAll_mk0)))) rfl hb⟩

theorem lapartMet (os : Os) : laidMet Tryz.prog Rows.sysApartUptoRow.laid ((laidWorld os).forCall (fun _ _ => 0) ⟨#[], #[.int .i64 0, .slice none 0 0, .slice none 0 0, .slice none 0 0], []⟩).memory :=
  laidMet_of_run' 8 (by kernel_rfl) (by kernel_rfl)
theorem lapartReads (os : Os) {H : Type} (enc : TypeId × Value → H) : ∃ places, DataW.whole enc Tryz.prog ((laidWorld os).forCall (fun _ _ => 0) ⟨#[], #[.int .i64 0, .slice none 0 0, .slice none 0 0, .slice none 0 0], []⟩).memory Tryz.f7.params.toList Rows.sysApartSpec.vars false #[Value.int .i64 0, .slice none 0 0, .slice none 0 0, .slice none 0 0].toList 8 = some ([.lit (.int .i64 0), .nil, .nil, .nil], [], places) :=
  ⟨[], by kernel_rfl⟩

set_option maxRecDepth 100000 in
theorem lapartLifted {R : World → Value → Sym → List Nat → Prop} (HPC : SysC R) (os : Os) (started : os.Started) (H : Type) (enc : TypeId × Value → H) (F : Stop.Interp) :
    ReturnsInHanded {} Tryz.checked os 7 .any ((Rows.OpenSpec.upto Rows.sysApartSpec).preRow enc Tryz.prog Tryz.f7 Rows.sysApartUptoRow.domain false Rows.sysApartUptoRow.laid) (((Rows.OpenSpec.upto Rows.sysApartSpec).at F).post enc Tryz.prog Tryz.f7 false true false false) := by
  obtain ⟨places, hx⟩ := lapartReads os enc
  refine returnsInHanded_of_row (C := Tryz.checked) (s := Rows.OpenSpec.upto Rows.sysApartSpec) ownKnobs started (by kernel_rfl) Tryz.func7
    (witness_row_at (enc := enc) (C := Tryz.checked) false (laidWorld os) #[.int .i64 0, .slice none 0 0, .slice none 0 0, .slice none 0 0] rfl (by kernel_rfl) (by kernel_rfl) (by kernel_rfl)
      (OpenSpec.preRow_of_cond 8 hx (by kernel_rfl) (fun k hk => by cases hk; kernel_rfl) (by kernel_rfl) (lapartMet os))) ?_
  intro W base args ds gs before hval hW _ hcond _ hL _ _
  exact lapartContract HPC H enc W base args ds gs before hval hW hL (hcond _ rfl)

theorem lapartOf {R : World → Value → Sym → List Nat → Prop} (HPC : SysC R) : Rows.SysApartUptoSaid :=
  OpenClaim.holds_of_cond 7 Tryz.f7 rfl rfl rfl rfl rfl rfl rfl ⟨rfl, rfl, rfl, rfl, rfl⟩ rfl rfl rfl rfl rfl (by kernel_rfl) Tryz.func7 (by kernel_rfl)
    (of_decide_eq_true (by kernel_rfl)) (by unfold Func.isWrapper; first | (rw [if_pos (by decide +kernel)]; kernel_rfl) | (rw [if_neg (by decide +kernel)]; exact ⟨rfl, rfl⟩))
    (fun os started H enc _ F => by rw [OpenClaim.pre_eq_preRow]; exact lapartLifted HPC os started H enc F)

theorem lapartSaid : Rows.SysApartUptoSaid := lapartOf sysC

#print axioms lapartSaid
end Go.Proofs.YtkmkfolpjlkfoaaGreat
