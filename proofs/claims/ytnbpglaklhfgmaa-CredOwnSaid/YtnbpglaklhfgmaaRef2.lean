/-
  The document's own MayOwn, Mode, Written and Sticky answer what the program's do. The condition: no more groups than a million.
-/
import Derived.Test.YtnbpglaklhfgmaaRef
import Derived.Test.YtnbpglaklhfgmaaDrop
namespace Go.Proofs.Ytnbpglaklhfgmaa
open Go Go.RowKit

theorem clr_at : ∀ a b : Fin 64, bits .andNot .i64 (((a.val * 64 + b.val : Nat) : Int)) 1024 = clr ((a.val * 64 + b.val : Nat) : Int) 1024 ∧ bits .andNot .i64 (((a.val * 64 + b.val : Nat) : Int)) 2048 = clr ((a.val * 64 + b.val : Nat) : Int) 2048 := by decide +kernel
theorem clr_own (m : Int) (h0 : 0 ≤ m) (h1 : m < 4096) : bits .andNot .i64 m 1024 = clr m 1024 ∧ bits .andNot .i64 m 2048 = clr m 2048 := by
  have h := clr_at ⟨(m / 64).toNat, by omega⟩ ⟨(m % 64).toNat, by omega⟩
  simp only [show (((m / 64).toNat * 64 + (m % 64).toNat : Nat) : Int) = m by omega] at h
  exact h
theorem rmayOwn_any (u g : Int) (A : Option Addr) (n c : Nat) (gs : List Int) (x y tu tg : Int) (w : World) (h : IntsR w (.slice A n c) gs) (hn : gs.length ≤ 1000000) :
    Calls Try.prog 19 #[.agg #[.int .i64 u, .int .i64 g, .slice A n c], .int .i64 x, .int .i64 y, .int .i64 tu, .int .i64 tg] w fun e w' => e = .returned (.bool (mayOwn u g gs x y tu tg)) ∧ Below w.heap.size w w' := by
  have hb : Below w.heap.size w (w.alloc (.cells #[.int .i64 u, .int .i64 g, .slice A n c] 26)) := ba _ _
  have HM := Lib.hid (rmember_any u g A n c gs tg _ (h.below hb) hn)
  have HB := Lib.hid hb
  clear h hb
  unfold mayOwn
  obtain ⟨R, hR⟩ : ∃ R, (tg == g || gs.contains tg) = R := ⟨_, rfl⟩
  rw [hR] at HM ⊢
  clear hR
  by_cases hu : u = 0
  · subst hu
    go_enter Try.func19, Try.ntmps19
    go_wp2
    go_ret
    exact ⟨rfl, HB.out⟩
  have hu' : (u == 0) = false := by simpa using hu
  rw [hu']
  by_cases hx : x = u
  · subst hx
    have hx' : (x == x) = true := by simp
    rw [hx']
    by_cases ht : 0 ≤ tu ∧ ¬ tu = x
    · obtain ⟨t0, t1⟩ := ht
      have t1' : (tu == x) = false := by simpa using t1
      have HQ := Lib.hid (show decide (tu < 0) = false by simpa using t0)
      rw [t1', HQ.out]
      go_enter Try.func19, Try.ntmps19
      go_wp2
      go_ret
      exact ⟨rfl, HB.out⟩
    · have HQ := Lib.hid (show (tu == x || decide (tu < 0)) = true by
        by_cases t0 : tu < 0
        · simp [t0]
        · simp [show tu = x by omega])
      rw [HQ.out]
      have ht2 : tu < 0 ∨ 0 ≤ tu ∧ tu = x := by omega
      clear ht
      rcases ht2 with t0 | ⟨t0, rfl⟩
      all_goals
        by_cases q0 : tg < 0
        · have HV := Lib.hid (show (false || (true && true && (tg == y || decide (tg < 0) || R))) = true by simp [q0])
          rw [HV.out]
          go_enter Try.func19, Try.ntmps19
          go_wp2
          go_ret
          exact ⟨rfl, HB.out⟩
        by_cases q1 : tg = y
        · subst q1
          have HV := Lib.hid (show (false || (true && true && (tg == tg || decide (tg < 0) || R))) = true by simp)
          rw [HV.out]
          go_enter Try.func19, Try.ntmps19
          go_wp2
          go_ret
          exact ⟨rfl, HB.out⟩
        have q1' : (tg == y) = false := by simpa using q1
        have HV := Lib.hid (show (false || (true && true && (tg == y || decide (tg < 0) || R))) = R by simp [q0, q1])
        rw [HV.out]
        clear q1
        go_enter Try.func19, Try.ntmps19
        go_wp2_with fail
        refine HM.out.mono ?_
        rintro e w2 ⟨rfl, hb2⟩
        have HB2 := Lib.hid (bt hb2 HB.out)
        clear hb2
        go_wp2
        go_ret
        exact ⟨rfl, HB2.out⟩
  · have hx' : (u != x) = true := by rw [bne, bcomm]; simpa using hx
    have HV := Lib.hid (show (x == u) = false by simpa using hx)
    rw [HV.out]
    clear hx
    go_enter Try.func19, Try.ntmps19
    go_wp2
    go_ret
    exact ⟨rfl, HB.out⟩

theorem rmode_any (u g : Int) (A : Option Addr) (n c : Nat) (gs : List Int) (kind y m : Int) (w : World) (h : IntsR w (.slice A n c) gs) (hn : gs.length ≤ 1000000) :
    Calls Try.prog 23 #[.agg #[.int .i64 u, .int .i64 g, .slice A n c], .int .i64 kind, .int .i64 y, .int .i64 m] w fun e w' => e = .returned (.int .i64 (modeM u g gs kind y m)) ∧ Below w.heap.size w w' := by
  have hb : Below w.heap.size w (w.alloc (.cells #[.int .i64 u, .int .i64 g, .slice A n c] 26)) := ba _ _
  have HM := Lib.hid (rmember_any u g A n c gs y _ (h.below hb) hn)
  have HB := Lib.hid hb
  clear h hb
  unfold modeM
  obtain ⟨R, hR⟩ : ∃ R, (y == g || gs.contains y) = R := ⟨_, rfl⟩
  rw [hR] at HM ⊢
  clear hR
  have HL := Lib.hid (fun w => low_any m w)
  have hm0 : 0 ≤ m % 4096 := by omega
  have hm1 : m % 4096 < 4096 := by omega
  generalize m % 4096 = M at HL hm0 hm1 ⊢
  have HC := Lib.hid (clr_own M hm0 hm1).1
  have HW := Lib.hid (fun w => without_any M 10 1024 w hm0 hm1 (by simp))
  by_cases hu : u = 0
  · subst hu
    go_enter Try.func23, Try.ntmps23
    go_wp2_with fail
    refine (HL.out _).mono ?_
    rintro e w2 ⟨rfl, rfl⟩
    go_wp2
    go_ret
    exact ⟨rfl, HB.out⟩
  have hu' : (u == 0) = false := by simpa using hu
  rw [hu']
  clear hu
  by_cases hk : kind = 1
  · subst hk
    cases R with
    | true =>
      go_enter Try.func23, Try.ntmps23
      go_wp2_with fail
      refine (HL.out _).mono ?_
      rintro e w2 ⟨rfl, rfl⟩
      go_wp2_with fail
      refine HM.out.mono ?_
      rintro e w2 ⟨rfl, hb2⟩
      have HB2 := Lib.hid (bt hb2 HB.out)
      clear hb2
      go_wp2
      go_ret
      exact ⟨rfl, HB2.out⟩
    | false =>
      go_enter Try.func23, Try.ntmps23
      go_wp2_with fail
      refine (HL.out _).mono ?_
      rintro e w2 ⟨rfl, rfl⟩
      go_wp2_with fail
      refine HM.out.mono ?_
      rintro e w2 ⟨rfl, hb2⟩
      have HB2 := Lib.hid (bt hb2 HB.out)
      clear hb2
      go_wp2_with fail
      refine (HW.out _).mono ?_
      rintro e w3 ⟨rfl, rfl⟩
      go_wp2
      go_ret
      exact ⟨ret_int (by rw [← HC.out]; rfl), HB2.out⟩
  · have hk' : (kind != 1) = true := by simpa using hk
    rw [hk']
    clear hk
    go_enter Try.func23, Try.ntmps23
    go_wp2_with fail
    refine (HL.out _).mono ?_
    rintro e w2 ⟨rfl, rfl⟩
    go_wp2
    go_ret
    exact ⟨rfl, HB.out⟩

theorem rwritten_any (u g : Int) (A : Option Addr) (n c : Nat) (kind m : Int) (w : World) :
    Calls Try.prog 25 #[.agg #[.int .i64 u, .int .i64 g, .slice A n c], .int .i64 kind, .int .i64 m] w fun e w' => e = .returned (.int .i64 (writM u kind m)) ∧ Below w.heap.size w w' := by
  have HB := Lib.hid (ba w (.cells #[.int .i64 u, .int .i64 g, .slice A n c] 26))
  unfold writM
  have HL := Lib.hid (fun w => low_any m w)
  have HG := Lib.hid (show bits .and .i64 (cls m 1) 1 = m % 4096 / 8 % 2 by rw [and1]; simp [cls]; omega)
  rw [HG.out]
  have hm0 : 0 ≤ m % 4096 := by omega
  have hm1 : m % 4096 < 4096 := by omega
  generalize m % 4096 = M at HL hm0 hm1 ⊢
  have hN0 : 0 ≤ clr M 2048 := by unfold clr; omega
  have hN1 : clr M 2048 < 4096 := by unfold clr; omega
  have HC := Lib.hid (clr_own M hm0 hm1).2
  have HD := Lib.hid (clr_own _ hN0 hN1).1
  have HW := Lib.hid (fun w => without_any M 11 2048 w hm0 hm1 (by simp))
  have HX := Lib.hid (fun w => without_any _ 10 1024 w hN0 hN1 (by simp))
  have HK := Lib.hid (fun w => rclass_any (clr M 2048) 1 w)
  rw [show cls (clr M 2048) 1 = M / 8 % 8 by simp [cls, clr]; omega] at HK
  generalize clr M 2048 = N at HC HD HW HX HK hN0 hN1
  by_cases hu : u = 0
  · subst hu
    go_enter Try.func25, Try.ntmps25
    go_wp2_with fail
    refine (HL.out _).mono ?_
    rintro e w2 ⟨rfl, rfl⟩
    go_wp2
    go_ret
    exact ⟨rfl, HB.out⟩
  have hu' : (u == 0) = false := by simpa using hu
  rw [hu']
  clear hu
  by_cases hk : kind = 1
  · subst hk
    by_cases hx : M / 8 % 2 = 1
    · have hx' : M / 8 % 8 % 2 = 1 := by omega
      have HV := Lib.hid (show (M / 8 % 2 != 0) = true by rw [hx]; rfl)
      rw [HV.out]
      clear hx
      have hq0 : 0 ≤ M / 8 % 8 := by omega
      have hq1 : M / 8 % 8 < 8 := by omega
      generalize M / 8 % 8 = q at HK hx' hq0 hq1
      go_enter Try.func25, Try.ntmps25
      go_wp2_with fail
      refine (HL.out _).mono ?_
      rintro e w2 ⟨rfl, rfl⟩
      go_wp2_with fail
      refine (HW.out _).mono ?_
      rintro e w3 ⟨rfl, rfl⟩
      go_wp2_with fail
      refine (HK.out _).mono ?_
      rintro e w3 ⟨rfl, rfl⟩
      go_wp2_with fail
      refine (HX.out _).mono ?_
      rintro e w3 ⟨rfl, rfl⟩
      go_wp2
      go_ret
      exact ⟨ret_int (by rw [← HD.out, ← HC.out]; rfl), HB.out⟩
    · have hx' : M / 8 % 8 % 2 = 0 := by omega
      have HV := Lib.hid (show (M / 8 % 2 != 0) = false by rw [show M / 8 % 2 = 0 by omega]; rfl)
      rw [HV.out]
      clear hx
      have hq0 : 0 ≤ M / 8 % 8 := by omega
      have hq1 : M / 8 % 8 < 8 := by omega
      generalize M / 8 % 8 = q at HK hx' hq0 hq1
      go_enter Try.func25, Try.ntmps25
      go_wp2_with fail
      refine (HL.out _).mono ?_
      rintro e w2 ⟨rfl, rfl⟩
      go_wp2_with fail
      refine (HW.out _).mono ?_
      rintro e w3 ⟨rfl, rfl⟩
      go_wp2_with fail
      refine (HK.out _).mono ?_
      rintro e w3 ⟨rfl, rfl⟩
      go_wp2
      go_ret
      exact ⟨ret_int (by rw [← HC.out]; rfl), HB.out⟩
  · have hk' : (kind != 1) = true := by simpa using hk
    rw [hk']
    clear hk
    go_enter Try.func25, Try.ntmps25
    go_wp2_with fail
    refine (HL.out _).mono ?_
    rintro e w2 ⟨rfl, rfl⟩
    go_wp2
    go_ret
    exact ⟨rfl, HB.out⟩

theorem rsticky_any (u g : Int) (A : Option Addr) (n c : Nat) (m d x : Int) (w : World) :
    Calls Try.prog 21 #[.agg #[.int .i64 u, .int .i64 g, .slice A n c], .int .i64 m, .int .i64 d, .int .i64 x] w fun e w' => e = .returned (.bool (u == 0 || bits .and .i64 m 512 == 0 || d == u || x == u)) ∧ Below w.heap.size w w' := by
  have HB := Lib.hid (ba w (.cells #[.int .i64 u, .int .i64 g, .slice A n c] 26))
  have HL := Lib.hid (fun w => low_any m w)
  have hm1 : (m % 4096).toNat < 4096 := by omega
  have HT := Lib.hid (fun w => rbit_any (m % 4096).toNat 9 w (by omega) (by decide))
  have HV := Lib.hid (show (bits .and .i64 m 512 == 0) = !(m % 4096).toNat.testBit 9 by
    rw [and512, Nat.testBit_eq_decide_div_mod_eq]
    by_cases hq : m / 512 % 2 = 0
    · rw [hq, decide_eq_false (by omega)]; rfl
    · rw [show m / 512 % 2 = 1 by omega, decide_eq_true (by omega)]; rfl)
  rw [HV.out]
  rw [show m % 4096 = ((m % 4096).toNat : Int) by omega] at HL
  generalize (m % 4096).toNat = M at HL hm1 HT ⊢
  obtain ⟨T, hT⟩ : ∃ T, M.testBit 9 = T := ⟨_, rfl⟩
  rw [hT] at HT ⊢
  clear hT HV
  by_cases hu : u = 0
  · subst hu
    go_enter Try.func21, Try.ntmps21
    go_wp2
    go_ret
    exact ⟨rfl, HB.out⟩
  have hu' : (u == 0) = false := by simpa using hu
  rw [hu']
  clear hu
  cases T with
  | false =>
    go_enter Try.func21, Try.ntmps21
    go_wp2_with fail
    refine (HL.out _).mono ?_
    rintro e w2 ⟨rfl, rfl⟩
    go_wp2_with fail
    refine (HT.out _).mono ?_
    rintro e w2 ⟨rfl, rfl⟩
    go_wp2
    go_ret
    exact ⟨rfl, HB.out⟩
  | true =>
    rw [bcomm d u, bcomm x u]
    by_cases hd : u = d
    · subst hd
      have HE := Lib.hid (show (u == u) = true by simp)
      rw [HE.out]
      go_enter Try.func21, Try.ntmps21
      go_wp2_with fail
      refine (HL.out _).mono ?_
      rintro e w2 ⟨rfl, rfl⟩
      go_wp2_with fail
      refine (HT.out _).mono ?_
      rintro e w2 ⟨rfl, rfl⟩
      go_wp2
      go_ret
      exact ⟨rfl, HB.out⟩
    · have hd' : (u == d) = false := by simpa using hd
      rw [hd']
      clear hd
      go_enter Try.func21, Try.ntmps21
      go_wp2_with fail
      refine (HL.out _).mono ?_
      rintro e w2 ⟨rfl, rfl⟩
      go_wp2_with fail
      refine (HT.out _).mono ?_
      rintro e w2 ⟨rfl, rfl⟩
      go_wp2
      go_ret
      exact ⟨rfl, HB.out⟩
end Go.Proofs.Ytnbpglaklhfgmaa
