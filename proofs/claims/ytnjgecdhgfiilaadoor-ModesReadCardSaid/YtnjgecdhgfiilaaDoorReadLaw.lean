/-
  ModesRead, proved: for every text the call returns true and the argument reads as it did; the package's table of signs starts as the program's text lays it (the card ties it).
-/
import Derived.Test.YtnjgecdhgfiilaaDoorRow
import Derived.Test.YtnjgecdhgfiilaaDoorMath
namespace Go.Proofs.YtnjgecdhgfiilaaDoor
open Go Go.ChangeShapes Go.WideShapes Go.ChangeAt Go.RowKit

theorem ten_of (s : ByteArray) (h : s.size = 10) : ∃ c0 c1 c2 c3 c4 c5 c6 c7 c8 c9 : UInt8, s = ⟨#[c0, c1, c2, c3, c4, c5, c6, c7, c8, c9]⟩ := by
  obtain ⟨⟨l⟩⟩ := s
  have hl : l.length = 10 := h
  match l, hl with
  | [c0, c1, c2, c3, c4, c5, c6, c7, c8, c9], _ => exact ⟨c0, c1, c2, c3, c4, c5, c6, c7, c8, c9, rfl⟩

/-- A text that is shown of a kind and a mode is read as they are. -/
theorem shown (k m : Int) (k0 : 0 ≤ k) (k1 : k ≤ 3) (m0 : 0 ≤ m) (m1 : m ≤ 4095) (c0 c1 c2 c3 c4 c5 c6 c7 c8 c9 : UInt8) (h : sh k m = ⟨#[c0, c1, c2, c3, c4, c5, c6, c7, c8, c9]⟩) :
    rdk c0 = k ∧ rdm c1 c2 c3 c4 c5 c6 c7 c8 c9 = m := by
  have hb := rdm_back m m0 m1
  have hk := rdk_back k k0 k1
  rw [sh_bytes] at h
  simp only [ByteArray.mk.injEq, Array.mk.injEq, List.cons.injEq, and_true] at h
  obtain ⟨e0, e1, e2, e3, e4, e5, e6, e7, e8, e9⟩ := h
  rw [e1, e2, e3, e4, e5, e6, e7, e8, e9] at hb
  rw [e0] at hk
  exact ⟨hk, hb⟩

theorem readLaw_long (s : ByteArray) (w : World) (hS : SignsAt w) (hl : (30 : Int) < s.size) : Calls Tryd.prog 4 #[.string s] w fun e w' => e = .returned (.bool true) ∧ Below w.heap.size w w' := by
  have HS := Lib.hid hS
  clear hS
  go_enter Tryd.func4, Tryd.ntmps4
  go_wp2_with fail
  refine (awake_any _ HS.out).mono ?_
  rintro e w1 ⟨rfl, hb⟩
  have B1 := Lib.hid hb
  clear hb
  go_wp2
  go_ret
  exact ⟨rfl, B1.out⟩
theorem readLaw_short (s : ByteArray) (w : World) (hS : SignsAt w) (hl : ¬ (30 : Int) < s.size) (h10 : ¬ s.size = 10) : Calls Tryd.prog 4 #[.string s] w fun e w' => e = .returned (.bool true) ∧ Below w.heap.size w w' := by
  have HS := Lib.hid hS
  have h1 : ((s.size : Int) == 10) = false := by rw [beq_eq_false_iff_ne]; omega
  have C := Lib.hid (fun w => read_short s w h10)
  clear hS h10
  go_enter Tryd.func4, Tryd.ntmps4
  go_wp2_with fail
  refine (awake_any _ HS.out).mono ?_
  rintro e w1 ⟨rfl, hb⟩
  have B1 := Lib.hid hb
  clear hb
  go_wp2_with fail
  refine (C.out _).mono ?_
  rintro e w2 ⟨rfl, rfl⟩
  go_wp2
  refine wp_loop_rounds 1 ?_
  rw [rounds_succ]
  go_wp2
  go_ret
  exact ⟨rfl, B1.out⟩
theorem readLaw_yes (c0 c1 c2 c3 c4 c5 c6 c7 c8 c9 : UInt8) (K : Int) (w : World) (hS : SignsAt w) (hk : rdk c0 = K) (k0 : 0 ≤ K) (k1 : K ≤ 3) (hb : sh K (rdm c1 c2 c3 c4 c5 c6 c7 c8 c9) = ⟨#[c0, c1, c2, c3, c4, c5, c6, c7, c8, c9]⟩) : Calls Tryd.prog 4 #[.string ⟨#[c0, c1, c2, c3, c4, c5, c6, c7, c8, c9]⟩] w fun e w' => e = .returned (.bool true) ∧ Below w.heap.size w w' := by
  have HS := Lib.hid hS
  have C := Lib.hid (fun w h => read_yes c0 c1 c2 c3 c4 c5 c6 c7 c8 c9 K w h hk k0 hb)
  have hM := rdm_bd c1 c2 c3 c4 c5 c6 c7 c8 c9
  have m0 := hM.1
  have m1 := hM.2
  have HB := Lib.hid (toList_eq (l := [c0, c1, c2, c3, c4, c5, c6, c7, c8, c9]) hb)
  clear hS hk hb hM
  go_enter Tryd.func4, Tryd.ntmps4
  go_wp2_with fail
  refine (awake_any _ HS.out).mono ?_
  rintro e w1 ⟨rfl, hb⟩
  have B1 := Lib.hid hb
  have S1 := Lib.hid (HS.out.below B1.out HS.out.1)
  clear hb
  go_wp2_with fail
  refine (C.out _ S1.out).mono ?_
  rintro e w2 ⟨rfl, hb⟩
  have B2 := Lib.hid (B1.out.trans (hb.mono B1.out.size))
  clear hb
  go_wp2_with fail
  refine (rshow_any _ _ _).mono ?_
  rintro e w3 ⟨rfl, rfl⟩
  have hb := HB.out
  go_wp2
  go_ret
  exact ⟨rfl, B2.out⟩
set_option maxRecDepth 100000 in
set_option maxHeartbeats 4000000 in
theorem readLaw_no (c0 c1 c2 c3 c4 c5 c6 c7 c8 c9 : UInt8) (w : World) (hS : SignsAt w) (C : ∀ w, SignsAt w → Calls Tryd.prog 12 #[.string ⟨#[c0, c1, c2, c3, c4, c5, c6, c7, c8, c9]⟩] w fun e w' => e = .returned (.tuple #[.int .i64 0, .int .i64 0, .bool false]) ∧ Below w.heap.size w w')
    (hn : ∀ k m : Int, 0 ≤ k → k ≤ 3 → 0 ≤ m → m ≤ 4095 → ¬ sh k m = ⟨#[c0, c1, c2, c3, c4, c5, c6, c7, c8, c9]⟩) : Calls Tryd.prog 4 #[.string ⟨#[c0, c1, c2, c3, c4, c5, c6, c7, c8, c9]⟩] w fun e w' => e = .returned (.bool true) ∧ Below w.heap.size w w' := by
  have HS := Lib.hid hS
  have HC := Lib.hid C
  have HN := Lib.hid hn
  clear hS C hn
  go_enter Tryd.func4, Tryd.ntmps4
  go_wp2_with fail
  refine (awake_any _ HS.out).mono ?_
  rintro e w1 ⟨rfl, hb⟩
  have B1 := Lib.hid hb
  have S1 := Lib.hid (HS.out.below B1.out HS.out.1)
  clear hb
  go_wp2_with fail
  refine (HC.out _ S1.out).mono ?_
  rintro e w2 ⟨rfl, hb⟩
  have B2 := Lib.hid (B1.out.trans (hb.mono B1.out.size))
  clear hb
  go_wp2
  go_loop [7] (fun i => ∃ k : Nat, k ≤ 4 ∧ i = .int .i64 k) (fun i => 4 - (intOf i).toNat)
  case atStart => exact ⟨0, by decide, rfl⟩
  case round =>
    obtain ⟨k, hk, rfl⟩ := hrel
    by_cases hlt : k < 4
    · go_wp2
      go_loop [8] (fun j => ∃ m : Nat, m ≤ 4096 ∧ j = .int .i64 m) (fun j => 4096 - (intOf j).toNat)
      case atStart => exact ⟨0, by decide, rfl⟩
      case round =>
        obtain ⟨m, hm, rfl⟩ := hrel
        by_cases hlm : m < 4096
        · have HF := Lib.hid (toList_ne (l := [c0, c1, c2, c3, c4, c5, c6, c7, c8, c9]) (HN.out k m (by omega) (by omega) (by omega) (by omega)))
          go_wp2_with fail
          refine (rshow_any _ _ _).mono ?_
          rintro e w3 ⟨rfl, rfl⟩
          have hf := HF.out
          go_wp2
          go_round
          case rel => exact ⟨m + 1, by omega, by go_num⟩
          case measure => simp [intOf]; omega
        · go_wp2
          go_round
          case rel => exact ⟨k + 1, by omega, by go_num⟩
          case measure => simp [intOf]; omega
    · go_wp2
      go_ret
      exact ⟨rfl, B2.out⟩

theorem readLaw (s : ByteArray) (w : World) (hS : SignsAt w) : Calls Tryd.prog 4 #[.string s] w fun e w' => e = .returned (.bool true) ∧ Below w.heap.size w w' := by
  by_cases hl : (30 : Int) < s.size
  · exact readLaw_long s w hS hl
  by_cases h10 : s.size = 10
  · obtain ⟨c0, c1, c2, c3, c4, c5, c6, c7, c8, c9, rfl⟩ := ten_of s h10
    rcases rdk_bd c0 with hk | ⟨k0, k1⟩
    · refine readLaw_no c0 c1 c2 c3 c4 c5 c6 c7 c8 c9 w hS (fun w h => read_none c0 c1 c2 c3 c4 c5 c6 c7 c8 c9 (-1) w h hk (by decide)) ?_
      intro k m a0 a1 b0 b1 h
      have := (shown k m a0 a1 b0 b1 _ _ _ _ _ _ _ _ _ _ h).1
      omega
    · by_cases hb : sh (rdk c0) (rdm c1 c2 c3 c4 c5 c6 c7 c8 c9) = ⟨#[c0, c1, c2, c3, c4, c5, c6, c7, c8, c9]⟩
      · exact readLaw_yes c0 c1 c2 c3 c4 c5 c6 c7 c8 c9 (rdk c0) w hS rfl k0 k1 hb
      · refine readLaw_no c0 c1 c2 c3 c4 c5 c6 c7 c8 c9 w hS (fun w h => read_no c0 c1 c2 c3 c4 c5 c6 c7 c8 c9 (rdk c0) w h rfl k0 hb) ?_
        intro k m a0 a1 b0 b1 h
        have e := shown k m a0 a1 b0 b1 _ _ _ _ _ _ _ _ _ _ h
        exact hb (by rw [e.1, e.2]; exact h)
  · exact readLaw_short s w hS hl h10

theorem readContract (H : Type) (enc : TypeId × Value → H) (W : World) (base : Nat) (args : Array Value) (ds gs : List (DataW H)) (before : List MemPlace)
    (hval : ∀ (j : Nat) t v, Tryd.f4.params[j]? = some t → args[j]? = some v → Value.okWide Tryd.prog W .any base t v)
    (hW : DataW.Whole enc Tryd.prog Tryd.f4.params.toList Rows.modesReadSpec.vars false W args.toList ds gs before) (hL : laidMetH Tryd.prog Rows.modesReadRow.laid W) :
    Calls Tryd.prog 4 args W fun e W' => ∃ v, e = .returned v ∧ Rows.modesReadSpec.post enc Tryd.prog Tryd.f4 false true false false W args v W' := by
  have hW' := hW
  obtain ⟨p, q, hA0, hV, rfl, hfz, hnd⟩ := hW
  have hA : DataW.TrodAll enc Tryd.prog W 0 (fun _ => true) true Tryd.f4.params.toList args.toList ds p := hA0
  rw [Tryd.params4] at hA hval
  obtain ⟨v0, vs0, d0, ds0, p0, q0, hargs, rfl, rfl, t0, r0⟩ := trodAll_cons hA
  obtain ⟨rfl, rfl, rfl⟩ := trodAll_nil r0
  obtain rfl : args = #[v0] := by cases args; simp_all
  obtain ⟨rfl, rfl⟩ := trodVars_none hV
  obtain ⟨x0, rfl, rfl, rfl, h0⟩ := ChangeMaps.open_string Tryd.underlying9 (hval 0 9 v0 rfl rfl) t0
  clear hA0
  simp only [List.append_nil] at hW'
  refine (readLaw x0 W (signs_of hL)).mono fun e W' ⟨he, hb⟩ => ?_
  subst he
  exact ⟨_, rfl, law_post hW' (trodAll_cons_mk (shut_bool Tryd.underlying4 _) trodAll_mk0) (trodAll_cons_mk (ChangeMaps.shut_string Tryd.underlying9 h0) trodAll_mk0) rfl hb⟩

theorem readMet (os : Os) : laidMet Tryd.prog Rows.modesReadRow.laid ((laidWorld os).forCall (fun _ _ => 0) ⟨#[], #[.string ⟨#[]⟩], []⟩).memory :=
  laidMet_of_run' 8 (by kernel_rfl) (by kernel_rfl)
theorem readReads (os : Os) {H : Type} (enc : TypeId × Value → H) : ∃ places, DataW.whole enc Tryd.prog ((laidWorld os).forCall (fun _ _ => 0) ⟨#[], #[.string ⟨#[]⟩], []⟩).memory Tryd.f4.params.toList Rows.modesReadSpec.vars false #[Value.string ⟨#[]⟩].toList 8 = some ([.lit (.string [])], [], places) :=
  ⟨[], by kernel_rfl⟩

set_option maxRecDepth 100000 in
theorem readLifted (os : Os) (started : os.Started) (H : Type) (enc : TypeId × Value → H) (F : Stop.Interp) :
    ReturnsInHanded {} Tryd.checked os 4 .any ((OpenSpec.ofChange Rows.modesReadSpec).preRow enc Tryd.prog Tryd.f4 Rows.modesReadRow.domain false Rows.modesReadRow.laid) (((OpenSpec.ofChange Rows.modesReadSpec).at F).post enc Tryd.prog Tryd.f4 false true false false) := by
  obtain ⟨places, hx⟩ := readReads os enc
  refine returnsInHanded_of_row (C := Tryd.checked) (s := OpenSpec.ofChange Rows.modesReadSpec) ownKnobs started (by kernel_rfl) Tryd.func4
    (witness_row_at (enc := enc) (C := Tryd.checked) false (laidWorld os) #[.string ⟨#[]⟩] rfl (by kernel_rfl) (by kernel_rfl) (by kernel_rfl)
      (OpenSpec.preRow_of_cond 8 hx (by kernel_rfl) (fun k hk => by cases hk) (by kernel_rfl) (readMet os))) ?_
  intro W base args ds gs before hval hW _ _ _ hL _ _
  exact readContract H enc W base args ds gs before hval hW hL

theorem readSaid : Rows.ModesReadSaid :=
  OpenClaim.holds_of_cond 4 Tryd.f4 rfl rfl rfl rfl rfl rfl rfl ⟨rfl, rfl, rfl, rfl, rfl⟩ rfl rfl rfl rfl rfl (by kernel_rfl) Tryd.func4 (by kernel_rfl)
    (of_decide_eq_true (by kernel_rfl)) (by unfold Func.isWrapper; first | (rw [if_pos (by decide +kernel)]; kernel_rfl) | (rw [if_neg (by decide +kernel)]; exact ⟨rfl, rfl⟩))
    (fun os started H enc _ F => by rw [OpenClaim.pre_eq_preRow]; exact readLifted os started H enc F)

/-- No parameter wants a stand-in; the program's own looks are off. -/
theorem readPlain (f : FuncId) (fn : Func) (hf : Tryd.pinned.checked.prog.funcNamed Rows.modesReadRow.func = some f) (hfn : Tryd.pinned.checked.prog.funcs[f]? = some fn) :
    false = Tryd.pinned.checked.prog.looks [] ∧ ∀ (j : Nat) t, fn.params[j]? = some t → Tryd.pinned.checked.prog.wantsStandIn t = false := by
  obtain rfl : f = 4 := Option.some.inj ((show Tryd.prog.funcNamed Rows.modesReadRow.func = some 4 by kernel_rfl).symm.trans hf) |>.symm
  obtain rfl : fn = Tryd.f4 := (Option.some.inj (Tryd.func4.symm.trans hfn)).symm
  refine ⟨by kernel_rfl, fun j t ht => ?_⟩
  rw [Tryd.params4] at ht
  have hm : t ∈ [9] := by simpa using Array.mem_of_getElem? ht
  have hall : ([9].all fun u => !Tryd.prog.wantsStandIn u) = true := by kernel_rfl
  exact (show Tryd.prog.wantsStandIn t = false by simpa using List.all_eq_true.1 hall t hm)

theorem modesRead_card : Rows.ModesReadCardSaid :=
  Claim7.holds_tied_plain_at .later [] _ _ _ _ readSaid (fun _ h => by cases h) (by kernel_rfl) (fun _ h => by cases h) modesRead_row_tie rfl ⟨rfl, rfl⟩ (by kernel_rfl) rfl readPlain (by kernel_rfl)
#print axioms modesRead_card
end Go.Proofs.YtnjgecdhgfiilaaDoor
