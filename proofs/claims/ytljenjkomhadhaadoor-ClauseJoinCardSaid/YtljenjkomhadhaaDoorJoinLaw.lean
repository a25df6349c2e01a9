/-
  ClauseJoin, proved: for every two texts the call returns true and the arguments read as they did; Go's two listed tables start as the program's text lays them (the card ties them).
-/
import Derived.Test.YtljenjkomhadhaaDoorRow
namespace Go.Proofs.YtljenjkomhadhaaDoor
open Go Go.ChangeShapes Go.WideShapes Go.ChangeAt Go.RowKit

theorem comma_data (s t : ByteArray) : (s ++ (⟨#[44]⟩ : ByteArray) ++ t).data.toList = s.data.toList ++ 44 :: t.data.toList := by
  rw [ByteArray.data_append, ByteArray.data_append]
  simp
theorem lens_of {s : ByteArray} {cs : List CC} (h : parseC s.data.toList = some cs) (hs : s.size ≤ 9000) : cs.length ≤ 9001 ∧ ∀ c ∈ cs, c.acts.length ≤ 10000 := by
  have h1 := allC_len h
  have h2 := pieces_count s.data.toList
  have h3 := allC_acts h (n := 9000) (fun p hp => by
    have := piece_len _ p hp
    simp at this
    omega)
  simp at h2
  exact ⟨by omega, fun c hc => Nat.le_trans (h3 c hc) (by decide)⟩
theorem cCells_one {l : List (CC × Value)} (h : ∀ p ∈ l, p.2.oneCell' = true) : ∀ u ∈ cCells l, u.oneCell' = true := by
  intro u hu
  unfold cCells at hu
  rw [List.mem_flatMap] at hu
  obtain ⟨p, hp, hu⟩ := hu
  exact cl_one _ _ (h p hp) u hu

set_option maxRecDepth 100000 in
set_option maxHeartbeats 4000000 in
theorem joinLaw (s t : ByteArray) (w : World) : Calls Tryd.prog 6 #[.string s, .string t] w fun e w' => e = .returned (.bool true) ∧ Below w.heap.size w w' := by
  by_cases h1 : (150 : Int) < s.size
  · go_enter Tryd.func6, Tryd.ntmps6
    go_wp2_with fail
    refine (awake_any _).mono ?_
    rintro e w1 ⟨rfl, hb1⟩
    go_wp2
    go_ret
    exact ⟨rfl, hb1⟩
  by_cases h2 : (150 : Int) < t.size
  · go_enter Tryd.func6, Tryd.ntmps6
    go_wp2_with fail
    refine (awake_any _).mono ?_
    rintro e w1 ⟨rfl, hb1⟩
    go_wp2
    go_ret
    exact ⟨rfl, hb1⟩
  have P1 := Lib.hid (fun w => parse_any s w (by omega))
  have P2 := Lib.hid (fun w => parse_any t w (by omega))
  have P3 := Lib.hid (fun w => parse_any (s ++ ⟨#[44]⟩ ++ t) w (by rw [ByteArray.size_append, ByteArray.size_append]; show _ + 1 + _ ≤ _; omega))
  have HM := Lib.hid (parseC_comma s.data.toList t.data.toList)
  rw [comma_data, HM.out] at P3
  cases hc1 : parseC s.data.toList with
  | none =>
    cases hc2 : parseC t.data.toList with
    | none =>
      rw [hc1] at P1 P3
      rw [hc2] at P2 P3
      simp only [Option.bind_none] at P3
      unfold ParsePost at P1 P2 P3
      simp only at P1 P2 P3
      clear hc1 hc2 HM
      go_enter Tryd.func6, Tryd.ntmps6
      go_wp2_with fail
      refine (awake_any _).mono ?_
      rintro e w1 ⟨rfl, hb1⟩
      have HB1 := Lib.hid hb1
      clear hb1
      go_wp2_with fail
      refine (P1.out _).mono ?_
      rintro e w2 ⟨v2, hb2, rfl, rfl⟩
      have HB2 := Lib.hid (HB1.out.trans (hb2.mono HB1.out.size))
      clear hb2
      go_wp2_with fail
      refine (P2.out _).mono ?_
      rintro e w3 ⟨v3, hb3, rfl, rfl⟩
      have HB3 := Lib.hid (HB2.out.trans (hb3.mono HB2.out.size))
      clear hb3
      go_wp2_with fail
      refine (P3.out _).mono ?_
      rintro e w4 ⟨v4, hb4, rfl, rfl⟩
      have HB4 := Lib.hid (HB3.out.trans (hb4.mono HB3.out.size))
      clear hb4
      go_wp2
      go_ret
      exact ⟨rfl, HB4.out⟩
    | some ys =>
      rw [hc1] at P1 P3
      rw [hc2] at P2 P3
      simp only [Option.bind_none] at P3
      unfold ParsePost at P1 P2 P3
      simp only at P1 P2 P3
      clear hc1 hc2 HM
      go_enter Tryd.func6, Tryd.ntmps6
      go_wp2_with fail
      refine (awake_any _).mono ?_
      rintro e w1 ⟨rfl, hb1⟩
      have HB1 := Lib.hid hb1
      clear hb1
      go_wp2_with fail
      refine (P1.out _).mono ?_
      rintro e w2 ⟨v2, hb2, rfl, rfl⟩
      have HB2 := Lib.hid (HB1.out.trans (hb2.mono HB1.out.size))
      clear hb2
      go_wp2_with fail
      refine (P2.out _).mono ?_
      rintro e w3 ⟨v3, hb3, -, rfl⟩
      have HB3 := Lib.hid (HB2.out.trans (hb3.mono HB2.out.size))
      clear hb3
      go_wp2_with fail
      refine (P3.out _).mono ?_
      rintro e w4 ⟨v4, hb4, rfl, rfl⟩
      have HB4 := Lib.hid (HB3.out.trans (hb4.mono HB3.out.size))
      clear hb4
      go_wp2
      go_ret
      exact ⟨rfl, HB4.out⟩
  | some xs =>
    cases hc2 : parseC t.data.toList with
    | none =>
      rw [hc1] at P1 P3
      rw [hc2] at P2 P3
      simp only [Option.bind_some, Option.map_none] at P3
      unfold ParsePost at P1 P2 P3
      simp only at P1 P2 P3
      clear hc1 hc2 HM
      go_enter Tryd.func6, Tryd.ntmps6
      go_wp2_with fail
      refine (awake_any _).mono ?_
      rintro e w1 ⟨rfl, hb1⟩
      have HB1 := Lib.hid hb1
      clear hb1
      go_wp2_with fail
      refine (P1.out _).mono ?_
      rintro e w2 ⟨v2, hb2, -, rfl⟩
      have HB2 := Lib.hid (HB1.out.trans (hb2.mono HB1.out.size))
      clear hb2
      go_wp2_with fail
      refine (P2.out _).mono ?_
      rintro e w3 ⟨v3, hb3, rfl, rfl⟩
      have HB3 := Lib.hid (HB2.out.trans (hb3.mono HB2.out.size))
      clear hb3
      go_wp2_with fail
      refine (P3.out _).mono ?_
      rintro e w4 ⟨v4, hb4, rfl, rfl⟩
      have HB4 := Lib.hid (HB3.out.trans (hb4.mono HB3.out.size))
      clear hb4
      go_wp2
      go_ret
      exact ⟨rfl, HB4.out⟩
    | some ys =>
      have hx := lens_of hc1 (by omega)
      have hy := lens_of hc2 (by omega)
      have hxn := parseC_ne hc1
      have hyn := parseC_ne hc2
      have hx1 : xs.length ≤ 151 := by
        have h1 := allC_len hc1
        have h2 := pieces_count s.data.toList
        simp at h2
        omega
      have hy1 : ys.length ≤ 151 := by
        have h1 := allC_len hc2
        have h2 := pieces_count t.data.toList
        simp at h2
        omega
      rw [hc1] at P1 P3
      rw [hc2] at P2 P3
      simp only [Option.bind_some, Option.map_some] at P3
      unfold ParsePost at P1 P2 P3
      simp only at P1 P2 P3
      have HLB := Lib.hid (show ∀ c ∈ xs ++ ys, c.acts.length ≤ 10000 by
        intro c hc
        rcases List.mem_append.1 hc with hc | hc
        · exact hx.2 c hc
        · exact hy.2 c hc)
      clear hc1 hc2 HM hx hy
      go_enter Tryd.func6, Tryd.ntmps6
      go_wp2_with fail
      refine (awake_any _).mono ?_
      rintro e w1 ⟨rfl, hb1⟩
      have HB1 := Lib.hid hb1
      clear hb1
      go_wp2_with fail
      refine (P1.out _).mono ?_
      rintro e w2 ⟨v2, hb2, ho2, rfl⟩
      have HB2 := Lib.hid (HB1.out.trans (hb2.mono HB1.out.size))
      have HO2 := Lib.hid ho2
      clear hb2 ho2
      go_wp2_with fail
      refine (P2.out _).mono ?_
      rintro e w3 ⟨v3, hb3, ho3, rfl⟩
      have HB3 := Lib.hid (HB2.out.trans (hb3.mono HB2.out.size))
      have HO2b := Lib.hid (HO2.out.below hb3)
      have HO3 := Lib.hid ho3
      clear hb3 ho3
      go_wp2_with fail
      refine (P3.out _).mono ?_
      rintro e w4 ⟨v4, hb4, ho4, rfl⟩
      have HB4 := Lib.hid (HB3.out.trans (hb4.mono HB3.out.size))
      have HX := Lib.hid (HO2b.out.below hb4)
      have HY := Lib.hid (HO3.out.below hb4)
      have HZ := Lib.hid ho4
      clear hb4 ho4
      obtain ⟨lx, Bx, hlx, hox, hax⟩ := HX.out
      obtain ⟨ly, By, hly, hoy, hay⟩ := HY.out
      have nx : lx.length = xs.length := by rw [← hlx, List.length_map]
      have ny : ly.length = ys.length := by rw [← hly, List.length_map]
      have px : 0 < lx.length := by rw [nx]; exact List.length_pos_iff.2 hxn
      have py : 0 < ly.length := by rw [ny]; exact List.length_pos_iff.2 hyn
      obtain ⟨gx, cx, hvx, -, -⟩ := hox.form px
      obtain ⟨gy, cy, hvy, -, -⟩ := hoy.form py
      subst hvx hvy
      have HOX := Lib.hid hox
      have HOY := Lib.hid hoy
      have HAX := Lib.hid hax
      have HAY := Lib.hid hay
      have HLX := Lib.hid hlx
      have HLY := Lib.hid hly
      have bx : lx.length ≤ 151 := by omega
      have byy : ly.length ≤ 151 := by omega
      clear hox hoy hax hay hlx hly nx ny
      obtain ⟨ic, hi0, hi1, hi2, hi3⟩ := info_parts info_cl
      have HI0 := Lib.hid hi0
      have HI1 := Lib.hid hi1
      have HI2 := Lib.hid hi2
      have HI3 := Lib.hid hi3
      clear hi0 hi1 hi2 hi3
      go_wp2_with (first
        | (at_builtin; refine wpList_append_own _ rfl (.tmp 55) (.tmp 56) _ rfl w4.heap.size 34 ic _ 2 32 Tryd.underlying23 HI0.out HI1.out HI2.out HI3.out rfl (by decide) (.slice none 0 0) 0 [] rfl (World.ownsRow_nil _ _ _ _) ⟨gx, 0, none⟩ lx.length cx (cCells lx) rfl (cCells_len lx) (World.ownsRow.cells HOX.out (g := gx) rfl) (cCells_one (fun p hp => (HAX.out p hp).2)) (by unfold maxLen; omega) (by omega) (Nat.le_refl _) ?_; intro v5 w5 ho5 hg5 _; have HB5 := Lib.hid ((Below.refl w4.heap.size w4).grown hg5 (Nat.le_refl _) (by simp [Value.ownBlock])); have HO5 := Lib.hid ho5; have HOY5 := Lib.hid (HOY.out.kept (grown_of_below HB5.out none) (.inr (by simp [Value.ownBlock]))); clear ho5 hg5)
        | (at_builtin; refine wpList_append_own _ rfl (.tmp 58) (.tmp 59) _ rfl w4.heap.size 34 ic _ 2 32 Tryd.underlying23 HI0.out HI1.out HI2.out HI3.out rfl (by decide) v5 _ _ rfl HO5.out ⟨gy, 0, none⟩ ly.length cy (cCells ly) rfl (cCells_len ly) (World.ownsRow.cells HOY5.out (g := gy) rfl) (cCells_one (fun p hp => (HAY.out p hp).2)) (by unfold maxLen; omega) (by omega) HB5.out.size ?_; intro v6 w6 ho6 hg6 _; have HB6 := Lib.hid (HB5.out.grown hg6 HB5.out.size (fun k hk => (HO5.out.lt k hk).1)); have HO6 := Lib.hid ho6; clear ho6 hg6))
      have HCL := Lib.hid (show ClsR w6 v6 (xs ++ ys) by
        have h1 := HO6.out
        have e1 : [] ++ cCells lx ++ cCells ly = cCells (lx ++ ly) := by simp [cCells]
        have e2 : 0 + lx.length + ly.length = (lx ++ ly).length := by rw [List.length_append, Nat.zero_add]
        rw [e1, e2] at h1
        have h2 := ClsR.of_own h1 (fun p hp => by
          rcases List.mem_append.1 hp with hp | hp
          · exact (HAX.out p hp).1.below HB6.out
          · exact (HAY.out p hp).1.below HB6.out)
        rw [List.map_append, HLX.out, HLY.out] at h2
        exact h2)
      have HZ6 := Lib.hid (HZ.out.below HB6.out).cls
      have hlen : (xs ++ ys).length ≤ 1000 := by rw [List.length_append]; omega
      refine (model_any v6 (xs ++ ys) w6 HCL.out hlen HLB.out).mono ?_
      rintro e w7 ⟨v7, rfl, hc7, hb7⟩
      have HC7 := Lib.hid hc7
      have HB7 := Lib.hid hb7
      clear hc7 hb7
      go_wp2_with fail
      refine (same_any v4 v7 (xs ++ ys) w7 (HZ6.out.below HB7.out) HC7.out hlen HLB.out).mono ?_
      rintro e w8 ⟨rfl, hb8⟩
      have HB8 := Lib.hid hb8
      clear hb8
      go_wp2
      go_ret
      have b6 := HB4.out.trans (HB6.out.mono HB4.out.size)
      have b7 := b6.trans (HB7.out.mono b6.size)
      exact ⟨rfl, b7.trans (HB8.out.mono b7.size)⟩
theorem joinContract (H : Type) (enc : TypeId × Value → H) (W : World) (base : Nat) (args : Array Value) (ds gs : List (DataW H)) (before : List MemPlace)
    (hval : ∀ (j : Nat) t v, Tryd.f6.params[j]? = some t → args[j]? = some v → Value.okWide Tryd.prog W .any base t v)
    (hW : DataW.Whole enc Tryd.prog Tryd.f6.params.toList Rows.clauseJoinSpec.vars false W args.toList ds gs before) (_hL : laidMetH Tryd.prog Rows.clauseJoinRow.laid W) :
    Calls Tryd.prog 6 args W fun e W' => ∃ v, e = .returned v ∧ Rows.clauseJoinSpec.post enc Tryd.prog Tryd.f6 false true false false W args v W' := by
  have hW' := hW
  obtain ⟨p, q, hA0, hV, rfl, hfz, hnd⟩ := hW
  have hA : DataW.TrodAll enc Tryd.prog W 0 (fun _ => true) true Tryd.f6.params.toList args.toList ds p := hA0
  rw [Tryd.params6] at hA hval
  obtain ⟨v0, vs0, d0, ds0, p0, q0, hargs, rfl, rfl, t0, r0⟩ := trodAll_cons hA
  obtain ⟨v1, vs1, d1, ds1, p1, q1, rfl, rfl, rfl, t1, r1⟩ := trodAll_cons r0
  obtain ⟨rfl, rfl, rfl⟩ := trodAll_nil r1
  obtain rfl : args = #[v0, v1] := by cases args; simp_all
  obtain ⟨rfl, rfl⟩ := trodVars_none hV
  obtain ⟨x0, rfl, rfl, rfl, h0⟩ := ChangeMaps.open_string Tryd.underlying9 (hval 0 9 v0 rfl rfl) t0
  obtain ⟨x1, rfl, rfl, rfl, h1⟩ := ChangeMaps.open_string Tryd.underlying9 (hval 1 9 v1 rfl rfl) t1
  clear hA0
  simp only [List.append_nil] at hW'
  refine (joinLaw x0 x1 W).mono fun e W' ⟨he, hb⟩ => ?_
  subst he
  exact ⟨_, rfl, law_post hW' (trodAll_cons_mk (shut_bool Tryd.underlying4 _) trodAll_mk0) (trodAll_cons_mk (ChangeMaps.shut_string Tryd.underlying9 h0) (trodAll_cons_mk (ChangeMaps.shut_string Tryd.underlying9 h1) trodAll_mk0)) rfl hb⟩

theorem joinMet (os : Os) : laidMet Tryd.prog Rows.clauseJoinRow.laid ((laidWorld os).forCall (fun _ _ => 0) ⟨#[], #[.string ⟨#[]⟩, .string ⟨#[]⟩], []⟩).memory :=
  laidMet_of_run' 8 (by kernel_rfl) (by kernel_rfl)
theorem joinReads (os : Os) {H : Type} (enc : TypeId × Value → H) : ∃ places, DataW.whole enc Tryd.prog ((laidWorld os).forCall (fun _ _ => 0) ⟨#[], #[.string ⟨#[]⟩, .string ⟨#[]⟩], []⟩).memory Tryd.f6.params.toList Rows.clauseJoinSpec.vars false #[Value.string ⟨#[]⟩, .string ⟨#[]⟩].toList 8 = some ([.lit (.string []), .lit (.string [])], [], places) :=
  ⟨[], by kernel_rfl⟩

set_option maxRecDepth 100000 in
theorem joinLifted (os : Os) (started : os.Started) (H : Type) (enc : TypeId × Value → H) (F : Stop.Interp) :
    ReturnsInHanded {} Tryd.checked os 6 .any ((OpenSpec.ofChange Rows.clauseJoinSpec).preRow enc Tryd.prog Tryd.f6 Rows.clauseJoinRow.domain false Rows.clauseJoinRow.laid) (((OpenSpec.ofChange Rows.clauseJoinSpec).at F).post enc Tryd.prog Tryd.f6 false true false false) := by
  obtain ⟨places, hx⟩ := joinReads os enc
  refine returnsInHanded_of_row (C := Tryd.checked) (s := OpenSpec.ofChange Rows.clauseJoinSpec) ownKnobs started (by kernel_rfl) Tryd.func6
    (witness_row_at (enc := enc) (C := Tryd.checked) false (laidWorld os) #[.string ⟨#[]⟩, .string ⟨#[]⟩] rfl (by kernel_rfl) (by kernel_rfl) (by kernel_rfl)
      (OpenSpec.preRow_of_cond 8 hx (by kernel_rfl) (fun k hk => by cases hk) (by kernel_rfl) (joinMet os))) ?_
  intro W base args ds gs before hval hW _ _ _ hL _ _
  exact joinContract H enc W base args ds gs before hval hW hL

theorem joinSaid : Rows.ClauseJoinSaid :=
  OpenClaim.holds_of_cond 6 Tryd.f6 rfl rfl rfl rfl rfl rfl rfl ⟨rfl, rfl, rfl, rfl, rfl⟩ rfl rfl rfl rfl rfl (by kernel_rfl) Tryd.func6 (by kernel_rfl)
    (of_decide_eq_true (by kernel_rfl)) (by unfold Func.isWrapper; first | (rw [if_pos (by decide +kernel)]; kernel_rfl) | (rw [if_neg (by decide +kernel)]; exact ⟨rfl, rfl⟩))
    (fun os started H enc _ F => by rw [OpenClaim.pre_eq_preRow]; exact joinLifted os started H enc F)

/-- No parameter wants a stand-in; the program's own looks are off. -/
theorem joinPlain (f : FuncId) (fn : Func) (hf : Tryd.pinned.checked.prog.funcNamed Rows.clauseJoinRow.func = some f) (hfn : Tryd.pinned.checked.prog.funcs[f]? = some fn) :
    false = Tryd.pinned.checked.prog.looks [] ∧ ∀ (j : Nat) t, fn.params[j]? = some t → Tryd.pinned.checked.prog.wantsStandIn t = false := by
  obtain rfl : f = 6 := Option.some.inj ((show Tryd.prog.funcNamed Rows.clauseJoinRow.func = some 6 by kernel_rfl).symm.trans hf) |>.symm
  obtain rfl : fn = Tryd.f6 := (Option.some.inj (Tryd.func6.symm.trans hfn)).symm
  refine ⟨by kernel_rfl, fun j t ht => ?_⟩
  rw [Tryd.params6] at ht
  have hm : t ∈ [9, 9] := by simpa using Array.mem_of_getElem? ht
  have hall : ([9, 9].all fun u => !Tryd.prog.wantsStandIn u) = true := by kernel_rfl
  exact (show Tryd.prog.wantsStandIn t = false by simpa using List.all_eq_true.1 hall t hm)

theorem clauseJoin_card : Rows.ClauseJoinCardSaid :=
  Claim7.holds_tied_plain_at .later [] _ _ _ _ joinSaid (fun _ h => by cases h) (by kernel_rfl) (fun _ h => by cases h) clauseJoin_row_tie rfl ⟨rfl, rfl⟩ (by kernel_rfl) rfl joinPlain (by kernel_rfl)
#print axioms clauseJoin_card
end Go.Proofs.YtljenjkomhadhaaDoor
