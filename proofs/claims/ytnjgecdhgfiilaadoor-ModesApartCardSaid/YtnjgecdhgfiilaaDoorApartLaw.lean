/-
  ModesApart, proved: for every mode, class and bits the call returns true and the arguments read as they did; the package's table of signs starts as the program's text lays it (the card ties it).
-/
import Derived.Test.YtnjgecdhgfiilaaDoorRow
namespace Go.Proofs.YtnjgecdhgfiilaaDoor
open Go Go.ChangeShapes Go.WideShapes Go.ChangeAt Go.RowKit

theorem u8_wf {n : Int} (h : (Lit.int .u8 n).wf = true) : 0 ≤ n ∧ n ≤ 255 := by simpa [Lit.wf, IntKind.min, IntKind.max, IntKind.signed, IntKind.bits] using h
theorem u16_wf {n : Int} (h : (Lit.int .u16 n).wf = true) : 0 ≤ n ∧ n ≤ 65535 := by simpa [Lit.wf, IntKind.min, IntKind.max, IntKind.signed, IntKind.bits] using h

/-- What the mode with other bits has. -/
structure Apart (m c b X : Int) : Prop where
  lo : 0 ≤ X
  hi : X ≤ 4095
  same : (cls X c != b % 8) = false
  div : (X / 512 == m / 512) = true
  back : wit X c (cls m c) = m
theorem apart_of (m c b : Int) (h0 : 0 ≤ m) (h1 : m ≤ 4095) (hc : c = 0 ∨ c = 1 ∨ c = 2) : Apart m c b (wit m c b) := by
  rcases hc with rfl | rfl | rfl
  all_goals
    refine ⟨?_, ?_, ?_, ?_, ?_⟩
    all_goals simp [wit, cls]
    all_goals omega
theorem apart_other (m c b j : Int) (hc : c = 0 ∨ c = 1 ∨ c = 2) (hj : j = 0 ∨ j = 1 ∨ j = 2) (hn : j ≠ c) : (cls (wit m c b) j != cls m j) = false := by
  rcases hc with rfl | rfl | rfl <;> rcases hj with rfl | rfl | rfl
  all_goals first | exact absurd rfl hn | (simp [wit, cls]; done) | (simp [wit, cls]; omega)
theorem apart_sum (m : Int) (_h0 : 0 ≤ m) (_h1 : m ≤ 4095) : m = m / 512 * 512 + cls m 0 * 64 + cls m 1 * 8 + cls m 2 := by
  simp [cls]; omega

theorem apart_eq (m X : Int) (h : X = m) : (X == m) = true := by rw [h]; simp
set_option maxHeartbeats 4000000 in
theorem apartLaw (mode k b : Int) (w : World) (m0 : 0 ≤ mode) (m1 : mode ≤ 65535) (k0 : 0 ≤ k) (k1 : k ≤ 255) (b0 : 0 ≤ b) (b1 : b ≤ 255) (hS : SignsAt w) : Calls Tryd.prog 8 #[.int .u16 mode, .int .u8 k, .int .u8 b] w fun e w' => e = .returned (.bool true) ∧ Below w.heap.size w w' := by
  have HS := Lib.hid hS
  clear hS
  have n0 : 0 ≤ mode % 4096 := by omega
  have n1 : mode % 4096 ≤ 4095 := by omega
  obtain ⟨m, hm⟩ : ∃ m, mode % 4096 = m := ⟨_, rfl⟩
  rw [hm] at n0 n1
  have d0 := cls_bd m 0
  have d1 := cls_bd m 1
  have d2 := cls_bd m 2
  by_cases hk0 : k % 3 = 0
  · have A := apart_of m 0 b n0 n1 (by omega)
    have f1 := apart_other m 0 b 1 (by omega) (by omega) (by omega)
    have f2 := apart_other m 0 b 2 (by omega) (by omega) (by omega)
    have C1 := Lib.hid (fun w => with_any m 0 b w)
    obtain ⟨X, hX⟩ : ∃ X, wit m 0 b = X := ⟨_, rfl⟩
    rw [hX] at A f1 f2 C1
    have f0 := A.same
    have g := A.div
    have x0 := A.lo
    have x1 := A.hi
    have C2 := Lib.hid (fun w => with_any X 0 (cls m 0) w)
    rw [A.back] at C2
    have hsum := Lib.hid (apart_eq _ _ (apart_sum m n0 n1))
    clear hX A
    go_enter Tryd.func8, Tryd.ntmps8
    go_wp2_with fail
    refine (awake_any _ HS.out).mono ?_
    rintro e w1 ⟨rfl, hb1⟩
    have HB1 := Lib.hid hb1
    clear hb1
    go_wp2_with fail
    refine (C1.out _).mono ?_
    rintro e w2 ⟨rfl, n, rfl⟩
    go_wp2
    refine wp_loop_rounds 4 ?_
    rw [rounds_succ]
    go_wp2_with (go_at_call 17; refine (class_any _ _ _).mono ?_; rintro e w' ⟨rfl, rfl⟩)
    rw [rounds_succ]
    go_wp2_with (go_at_call 17; refine (class_any _ _ _).mono ?_; rintro e w' ⟨rfl, rfl⟩)
    rw [rounds_succ]
    go_wp2_with (go_at_call 17; refine (class_any _ _ _).mono ?_; rintro e w' ⟨rfl, rfl⟩)
    rw [rounds_succ]
    go_wp2_with (go_at_call 17; refine (class_any _ _ _).mono ?_; rintro e w' ⟨rfl, rfl⟩)
    refine (C2.out _).mono ?_
    rintro e w3 ⟨rfl, n', rfl⟩
    have hs := hsum.out
    go_wp2_with (go_at_call 17; refine (class_any _ _ _).mono ?_; rintro e w' ⟨rfl, rfl⟩)
    go_ret
    exact ⟨rfl, below_drewN HB1.out _⟩
  by_cases hk1 : k % 3 = 1
  · have A := apart_of m 1 b n0 n1 (by omega)
    have f0 := apart_other m 1 b 0 (by omega) (by omega) (by omega)
    have f2 := apart_other m 1 b 2 (by omega) (by omega) (by omega)
    have C1 := Lib.hid (fun w => with_any m 1 b w)
    obtain ⟨X, hX⟩ : ∃ X, wit m 1 b = X := ⟨_, rfl⟩
    rw [hX] at A f0 f2 C1
    have f1 := A.same
    have g := A.div
    have x0 := A.lo
    have x1 := A.hi
    have C2 := Lib.hid (fun w => with_any X 1 (cls m 1) w)
    rw [A.back] at C2
    have hsum := Lib.hid (apart_eq _ _ (apart_sum m n0 n1))
    clear hX A
    go_enter Tryd.func8, Tryd.ntmps8
    go_wp2_with fail
    refine (awake_any _ HS.out).mono ?_
    rintro e w1 ⟨rfl, hb1⟩
    have HB1 := Lib.hid hb1
    clear hb1
    go_wp2_with fail
    refine (C1.out _).mono ?_
    rintro e w2 ⟨rfl, n, rfl⟩
    go_wp2
    refine wp_loop_rounds 4 ?_
    rw [rounds_succ]
    go_wp2_with (go_at_call 17; refine (class_any _ _ _).mono ?_; rintro e w' ⟨rfl, rfl⟩)
    rw [rounds_succ]
    go_wp2_with (go_at_call 17; refine (class_any _ _ _).mono ?_; rintro e w' ⟨rfl, rfl⟩)
    rw [rounds_succ]
    go_wp2_with (go_at_call 17; refine (class_any _ _ _).mono ?_; rintro e w' ⟨rfl, rfl⟩)
    rw [rounds_succ]
    go_wp2_with (go_at_call 17; refine (class_any _ _ _).mono ?_; rintro e w' ⟨rfl, rfl⟩)
    refine (C2.out _).mono ?_
    rintro e w3 ⟨rfl, n', rfl⟩
    have hs := hsum.out
    go_wp2_with (go_at_call 17; refine (class_any _ _ _).mono ?_; rintro e w' ⟨rfl, rfl⟩)
    go_ret
    exact ⟨rfl, below_drewN HB1.out _⟩
  by_cases hk2 : k % 3 = 2
  · have A := apart_of m 2 b n0 n1 (by omega)
    have f0 := apart_other m 2 b 0 (by omega) (by omega) (by omega)
    have f1 := apart_other m 2 b 1 (by omega) (by omega) (by omega)
    have C1 := Lib.hid (fun w => with_any m 2 b w)
    obtain ⟨X, hX⟩ : ∃ X, wit m 2 b = X := ⟨_, rfl⟩
    rw [hX] at A f0 f1 C1
    have f2 := A.same
    have g := A.div
    have x0 := A.lo
    have x1 := A.hi
    have C2 := Lib.hid (fun w => with_any X 2 (cls m 2) w)
    rw [A.back] at C2
    have hsum := Lib.hid (apart_eq _ _ (apart_sum m n0 n1))
    clear hX A
    go_enter Tryd.func8, Tryd.ntmps8
    go_wp2_with fail
    refine (awake_any _ HS.out).mono ?_
    rintro e w1 ⟨rfl, hb1⟩
    have HB1 := Lib.hid hb1
    clear hb1
    go_wp2_with fail
    refine (C1.out _).mono ?_
    rintro e w2 ⟨rfl, n, rfl⟩
    go_wp2
    refine wp_loop_rounds 4 ?_
    rw [rounds_succ]
    go_wp2_with (go_at_call 17; refine (class_any _ _ _).mono ?_; rintro e w' ⟨rfl, rfl⟩)
    rw [rounds_succ]
    go_wp2_with (go_at_call 17; refine (class_any _ _ _).mono ?_; rintro e w' ⟨rfl, rfl⟩)
    rw [rounds_succ]
    go_wp2_with (go_at_call 17; refine (class_any _ _ _).mono ?_; rintro e w' ⟨rfl, rfl⟩)
    rw [rounds_succ]
    go_wp2_with (go_at_call 17; refine (class_any _ _ _).mono ?_; rintro e w' ⟨rfl, rfl⟩)
    refine (C2.out _).mono ?_
    rintro e w3 ⟨rfl, n', rfl⟩
    have hs := hsum.out
    go_wp2_with (go_at_call 17; refine (class_any _ _ _).mono ?_; rintro e w' ⟨rfl, rfl⟩)
    go_ret
    exact ⟨rfl, below_drewN HB1.out _⟩
  omega

theorem apartContract (H : Type) (enc : TypeId × Value → H) (W : World) (base : Nat) (args : Array Value) (ds gs : List (DataW H)) (before : List MemPlace)
    (hval : ∀ (j : Nat) t v, Tryd.f8.params[j]? = some t → args[j]? = some v → Value.okWide Tryd.prog W .any base t v)
    (hW : DataW.Whole enc Tryd.prog Tryd.f8.params.toList Rows.modesApartSpec.vars false W args.toList ds gs before) (hL : laidMetH Tryd.prog Rows.modesApartRow.laid W) :
    Calls Tryd.prog 8 args W fun e W' => ∃ v, e = .returned v ∧ Rows.modesApartSpec.post enc Tryd.prog Tryd.f8 false true false false W args v W' := by
  have hW' := hW
  obtain ⟨p, q, hA0, hV, rfl, hfz, hnd⟩ := hW
  have hA : DataW.TrodAll enc Tryd.prog W 0 (fun _ => true) true Tryd.f8.params.toList args.toList ds p := hA0
  rw [Tryd.params8] at hA hval
  obtain ⟨v0, vs0, d0, ds0, p0, q0, hargs, rfl, rfl, t0, r0⟩ := trodAll_cons hA
  obtain ⟨v1, vs1, d1, ds1, p1, q1, rfl, rfl, rfl, t1, r1⟩ := trodAll_cons r0
  obtain ⟨v2, vs2, d2, ds2, p2, q2, rfl, rfl, rfl, t2, r2⟩ := trodAll_cons r1
  obtain ⟨rfl, rfl, rfl⟩ := trodAll_nil r2
  obtain rfl : args = #[v0, v1, v2] := by cases args; simp_all
  obtain ⟨rfl, rfl⟩ := trodVars_none hV
  obtain ⟨x0, rfl, rfl, rfl, h0⟩ := open_int Tryd.underlying37 (hval 0 37 v0 rfl rfl) t0
  obtain ⟨x1, rfl, rfl, rfl, h1⟩ := open_int Tryd.underlying5 (hval 1 5 v1 rfl rfl) t1
  obtain ⟨x2, rfl, rfl, rfl, h2⟩ := open_int Tryd.underlying5 (hval 2 5 v2 rfl rfl) t2
  clear hA0
  simp only [List.append_nil] at hW'
  refine (apartLaw x0 x1 x2 W (u16_wf h0).1 (u16_wf h0).2 (u8_wf h1).1 (u8_wf h1).2 (u8_wf h2).1 (u8_wf h2).2 (signs_of hL)).mono fun e W' ⟨he, hb⟩ => ?_
  subst he
  exact ⟨_, rfl, law_post hW' (trodAll_cons_mk (shut_bool Tryd.underlying4 _) trodAll_mk0) (trodAll_cons_mk (shut_int Tryd.underlying37 h0) (trodAll_cons_mk (shut_int Tryd.underlying5 h1) (trodAll_cons_mk (shut_int Tryd.underlying5 h2) trodAll_mk0))) rfl hb⟩

theorem apartMet (os : Os) : laidMet Tryd.prog Rows.modesApartRow.laid ((laidWorld os).forCall (fun _ _ => 0) ⟨#[], #[.int .u16 0, .int .u8 0, .int .u8 0], []⟩).memory :=
  laidMet_of_run' 8 (by kernel_rfl) (by kernel_rfl)
theorem apartReads (os : Os) {H : Type} (enc : TypeId × Value → H) : ∃ places, DataW.whole enc Tryd.prog ((laidWorld os).forCall (fun _ _ => 0) ⟨#[], #[.int .u16 0, .int .u8 0, .int .u8 0], []⟩).memory Tryd.f8.params.toList Rows.modesApartSpec.vars false #[Value.int .u16 0, .int .u8 0, .int .u8 0].toList 8 = some ([.lit (.int .u16 0), .lit (.int .u8 0), .lit (.int .u8 0)], [], places) :=
  ⟨[], by kernel_rfl⟩

set_option maxRecDepth 100000 in
theorem apartLifted (os : Os) (started : os.Started) (H : Type) (enc : TypeId × Value → H) (F : Stop.Interp) :
    ReturnsInHanded {} Tryd.checked os 8 .any ((OpenSpec.ofChange Rows.modesApartSpec).preRow enc Tryd.prog Tryd.f8 Rows.modesApartRow.domain false Rows.modesApartRow.laid) (((OpenSpec.ofChange Rows.modesApartSpec).at F).post enc Tryd.prog Tryd.f8 false true false false) := by
  obtain ⟨places, hx⟩ := apartReads os enc
  refine returnsInHanded_of_row (C := Tryd.checked) (s := OpenSpec.ofChange Rows.modesApartSpec) ownKnobs started (by kernel_rfl) Tryd.func8
    (witness_row_at (enc := enc) (C := Tryd.checked) false (laidWorld os) #[.int .u16 0, .int .u8 0, .int .u8 0] rfl (by kernel_rfl) (by kernel_rfl) (by kernel_rfl)
      (OpenSpec.preRow_of_cond 8 hx (by kernel_rfl) (fun k hk => by cases hk) (by kernel_rfl) (apartMet os))) ?_
  intro W base args ds gs before hval hW _ _ _ hL _ _
  exact apartContract H enc W base args ds gs before hval hW hL

theorem apartSaid : Rows.ModesApartSaid :=
  OpenClaim.holds_of_cond 8 Tryd.f8 rfl rfl rfl rfl rfl rfl rfl ⟨rfl, rfl, rfl, rfl, rfl⟩ rfl rfl rfl rfl rfl (by kernel_rfl) Tryd.func8 (by kernel_rfl)
    (of_decide_eq_true (by kernel_rfl)) (by unfold Func.isWrapper; first | (rw [if_pos (by decide +kernel)]; kernel_rfl) | (rw [if_neg (by decide +kernel)]; exact ⟨rfl, rfl⟩))
    (fun os started H enc _ F => by rw [OpenClaim.pre_eq_preRow]; exact apartLifted os started H enc F)

/-- No parameter wants a stand-in; the program's own looks are off. -/
theorem apartPlain (f : FuncId) (fn : Func) (hf : Tryd.pinned.checked.prog.funcNamed Rows.modesApartRow.func = some f) (hfn : Tryd.pinned.checked.prog.funcs[f]? = some fn) :
    false = Tryd.pinned.checked.prog.looks [] ∧ ∀ (j : Nat) t, fn.params[j]? = some t → Tryd.pinned.checked.prog.wantsStandIn t = false := by
  obtain rfl : f = 8 := Option.some.inj ((show Tryd.prog.funcNamed Rows.modesApartRow.func = some 8 by kernel_rfl).symm.trans hf) |>.symm
  obtain rfl : fn = Tryd.f8 := (Option.some.inj (Tryd.func8.symm.trans hfn)).symm
  refine ⟨by kernel_rfl, fun j t ht => ?_⟩
  rw [Tryd.params8] at ht
  have hm : t ∈ [37, 5, 5] := by simpa using Array.mem_of_getElem? ht
  have hall : ([37, 5, 5].all fun u => !Tryd.prog.wantsStandIn u) = true := by kernel_rfl
  exact (show Tryd.prog.wantsStandIn t = false by simpa using List.all_eq_true.1 hall t hm)

theorem modesApart_card : Rows.ModesApartCardSaid :=
  Claim7.holds_tied_plain_at .later [] _ _ _ _ apartSaid (fun _ h => by cases h) (by kernel_rfl) (fun _ h => by cases h) modesApart_row_tie rfl ⟨rfl, rfl⟩ (by kernel_rfl) rfl apartPlain (by kernel_rfl)
#print axioms modesApart_card
end Go.Proofs.YtnjgecdhgfiilaaDoor
