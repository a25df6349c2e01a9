/-
  What the reference's Bit, class, has and in answer.
-/
import Derived.Test.YtbjajipeiigodaaDoorRRight
import Derived.Test.YtbjajipeiigodaaDoorApl2
namespace Go.Proofs.YtbjajipeiigodaaDoor
open Go Go.RowKit

set_option maxHeartbeats 1000000 in
theorem rbit_any (n i : Nat) (w : World) (hn : n ≤ 1000000) (hi : i ≤ 100) : Calls Tryd.prog 66 #[.int .i64 (n : Int), .int .i64 (i : Int)] w fun e w' => e = .returned (.bool (n.testBit i)) ∧ w = w' := by
  obtain ⟨R, hR⟩ : ∃ R, n.testBit i = R := ⟨_, rfl⟩
  have HR := Lib.hid hR
  rw [hR]
  clear hR
  go_enter Tryd.func66, Tryd.ntmps66
  go_wp2
  go_loop [0, 5] (fun x k => ∃ (j y : Nat), j ≤ i ∧ k = .int .i64 j ∧ x = .int .i64 (y : Int) ∧ y = n / 2 ^ j) (fun _ k => i - (intOf k).toNat)
  case atStart => exact ⟨0, n, Nat.zero_le _, rfl, rfl, by simp⟩
  case round =>
    obtain ⟨j, y, hj, rfl, rfl, hy⟩ := hrel
    have HY := Lib.hid hy
    have y1 : y ≤ 1000000 := by rw [hy]; exact Nat.le_trans (Nat.div_le_self _ _) hn
    clear hy
    by_cases hlt : j < i
    · have HN := Lib.hid (show y / 2 = n / 2 ^ (j + 1) by rw [HY.out, Nat.div_div_eq_div_mul, Nat.pow_succ])
      go_wp2
      go_round
      case rel => exact ⟨j + 1, y / 2, by omega, by go_num, by go_num, HN.out⟩
      case measure => simp [intOf]; omega
    · have HF := Lib.hid (show R = decide ((y : Int) % 2 = 1) by
        rw [← HR.out, Nat.testBit_eq_decide_div_mod_eq, HY.out, show j = i by omega]
        congr 1
        rw [eq_iff_iff]
        omega)
      go_wp2
      go_ret
      exact ⟨ret_bool (by rw [HF.out]; rfl), rfl⟩
theorem rclass_of (i : Nat) (w : World) (hi : i < 12) : Calls Tryd.prog 77 #[.int .i64 (i : Int)] w fun e w' => e = .returned (.int .i64 (clI i : Nat)) ∧ w = w' := by
  by_cases h1 : i < 3
  · have HE := Lib.hid (show clI i = 2 by rw [clI, if_pos h1])
    have h1' : (i : Int) < 3 := by omega
    go_enter Tryd.func77, Tryd.ntmps77
    go_wp2
    go_ret
    exact ⟨ret_int (by rw [HE.out]; rfl), rfl⟩
  by_cases h2 : i < 6
  · have HE := Lib.hid (show clI i = 1 by rw [clI, if_neg h1, if_pos h2])
    have h1' : ¬ (i : Int) < 3 := by omega
    have h2' : (i : Int) < 6 := by omega
    go_enter Tryd.func77, Tryd.ntmps77
    go_wp2
    go_ret
    exact ⟨ret_int (by rw [HE.out]; rfl), rfl⟩
  by_cases h3 : i < 9
  · have HE := Lib.hid (show clI i = 0 by rw [clI, if_neg h1, if_neg h2, if_pos h3])
    have h1' : ¬ (i : Int) < 3 := by omega
    have h2' : ¬ (i : Int) < 6 := by omega
    have h3' : (i : Int) < 9 := by omega
    go_enter Tryd.func77, Tryd.ntmps77
    go_wp2
    go_ret
    exact ⟨ret_int (by rw [HE.out]; rfl), rfl⟩
  · have HE := Lib.hid (show ((clI i : Nat) : Int) = 14 - i by rw [clI, if_neg h1, if_neg h2, if_neg h3]; omega)
    have h1' : ¬ (i : Int) < 3 := by omega
    have h2' : ¬ (i : Int) < 6 := by omega
    have h3' : ¬ (i : Int) < 9 := by omega
    go_enter Tryd.func77, Tryd.ntmps77
    go_wp2
    go_ret
    exact ⟨ret_int (by rw [HE.out]), rfl⟩
theorem rhas_any (who i : Nat) (u : Int) (w : World) (hw : who < 8) (hi : i < 12) : Calls Tryd.prog 67 #[.int .i64 (who : Int), .int .i64 u, .int .i64 (i : Int)] w fun e w' => e = .returned (.bool (hasB who (u % 4096).toNat i)) ∧ w = w' := by
  by_cases h0 : who = 0
  · subst h0
    by_cases h8 : 8 < i
    · have HE := Lib.hid (show hasB 0 (u % 4096).toNat i = true by rw [hasB, if_pos rfl]; simp [h8])
      have h8' : (8 : Int) < i := by omega
      go_enter Tryd.func67, Tryd.ntmps67
      go_wp2
      go_ret
      exact ⟨ret_bool HE.out.symm, rfl⟩
    · have h8' : ¬ (8 : Int) < i := by omega
      have HL := Lib.hid (fun w => low_any u w)
      rw [show u % 4096 = ((u % 4096).toNat : Int) by omega] at HL
      have HBT := Lib.hid (fun w => rbit_any (u % 4096).toNat i w (by omega) (by omega))
      have HE := Lib.hid (show hasB 0 (u % 4096).toNat i = !(u % 4096).toNat.testBit i by rw [hasB, if_pos rfl]; simp [h8])
      obtain ⟨b, hb⟩ : ∃ b, (u % 4096).toNat.testBit i = b := ⟨_, rfl⟩
      rw [hb] at HBT HE
      generalize (u % 4096).toNat = um at HL HBT HE hb ⊢
      clear hb
      cases b
      all_goals
        go_enter Tryd.func67, Tryd.ntmps67
        go_wp2_with fail
        refine (HL.out _).mono ?_
        rintro e w1 ⟨rfl, rfl⟩
        go_wp2_with fail
        refine (HBT.out _).mono ?_
        rintro e w2 ⟨rfl, rfl⟩
        go_wp2
        go_ret
        exact ⟨ret_bool (by rw [HE.out]; rfl), rfl⟩
  · have h0' : ((who : Int) == 0) = false := by rw [beq_eq_false_iff_ne]; omega
    have HC := Lib.hid (fun w => rclass_of i w hi)
    have HBT := Lib.hid (fun w => rbit_any who (clI i % 3) w (by omega) (by omega))
    have HE := Lib.hid (show hasB who (u % 4096).toNat i = who.testBit (clI i % 3) by rw [hasB, if_neg h0])
    generalize clI i = k at HC HBT HE
    rw [show ((k % 3 : Nat) : Int) = (k : Int) % 3 by omega] at HBT
    clear h0
    go_enter Tryd.func67, Tryd.ntmps67
    go_wp2_with fail
    refine (HC.out _).mono ?_
    rintro e w1 ⟨rfl, rfl⟩
    go_wp2_with fail
    refine (HBT.out _).mono ?_
    rintro e w2 ⟨rfl, rfl⟩
    go_wp2
    go_ret
    exact ⟨ret_bool HE.out.symm, rfl⟩
end Go.Proofs.YtbjajipeiigodaaDoor
