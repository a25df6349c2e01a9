/-
  What the functions of package modes that only compute with numbers answer (isClass, shift, Class, With), and those of the reference (rest, Low, Class), for every number. No condition.
-/
import Derived.Test.YtnbpglaklhfgmaaLeaf
import Derived.Test.YtnbpglaklhfgmaaNum
import Derived.WalkKit
import Derived.Lib.Hide
import Derived.Deep.QuietTactic
import Derived.BigQuiet
namespace Go.Proofs.Ytnbpglaklhfgmaa
open Go Go.RowKit

/-- Class k's three bits. -/
def cls (m k : Int) : Int := if k = 0 then m / 64 % 8 else if k = 1 then m / 8 % 8 else if k = 2 then m % 8 else 0
/-- The mode whose class k has other bits. -/
def wit (m k b : Int) : Int := if k = 0 then m % 4096 - m / 64 % 8 * 64 + b % 8 * 64 else if k = 1 then m % 4096 - m / 8 % 8 * 8 + b % 8 * 8 else if k = 2 then m % 4096 - m % 8 + b % 8 else m % 4096

theorem cls_bd (m k : Int) : 0 ≤ cls m k ∧ cls m k ≤ 7 := by unfold cls; repeat' split
                                                             all_goals omega

theorem isClass_yes (k : Int) (w : World) (h0 : 0 ≤ k) (h1 : k < 3) : Calls Try.prog 36 #[.int .i64 k] w fun e w' => e = .returned (.bool true) ∧ w = w' := by
  go_enter Try.func36, Try.ntmps36
  go_wp2
  go_ret
  exact ⟨rfl, rfl⟩
theorem isClass_no (k : Int) (w : World) (h : k < 0 ∨ 3 ≤ k) : Calls Try.prog 36 #[.int .i64 k] w fun e w' => e = .returned (.bool false) ∧ w = w' := by
  rcases h with h | h
  · have h1 : ¬ 0 ≤ k := by omega
    go_enter Try.func36, Try.ntmps36
    go_wp2
    go_ret
    exact ⟨rfl, rfl⟩
  · have h1 : ¬ k < 3 := by omega
    have h2 : 0 ≤ k := by omega
    go_enter Try.func36, Try.ntmps36
    go_wp2
    go_ret
    exact ⟨rfl, rfl⟩
theorem shift_any (k : Int) (w : World) (h0 : 0 ≤ k) (h1 : k < 3) : Calls Try.prog 37 #[.int .i64 k] w fun e w' => e = .returned (.int .i64 (3 * (2 - k))) ∧ w = w' := by
  go_enter Try.func37, Try.ntmps37
  go_wp2
  go_ret
  exact ⟨rfl, rfl⟩

theorem class_no (m k : Int) (w : World) (h : k < 0 ∨ 3 ≤ k) : Calls Try.prog 27 #[.int .i64 m, .int .i64 k] w fun e w' => e = .returned (.int .i64 0) ∧ w = w' := by
  go_enter Try.func27, Try.ntmps27
  go_wp2_with (go_at_call 36; refine (isClass_no _ _ h).mono ?_; rintro e w' ⟨rfl, rfl⟩)
  go_ret
  exact ⟨rfl, rfl⟩
theorem class_yes (m k : Int) (w : World) (h0 : 0 ≤ k) (h1 : k < 3) : Calls Try.prog 27 #[.int .i64 m, .int .i64 k] w fun e w' => e = .returned (.int .i64 (cls m k)) ∧ w = w' := by
  obtain rfl | rfl | rfl : k = 0 ∨ k = 1 ∨ k = 2 := by omega
  all_goals
    go_enter Try.func27, Try.ntmps27
    go_wp2_with (first | (go_at_call 36; refine (isClass_yes _ _ (by omega) (by omega)).mono ?_; rintro e w' ⟨rfl, rfl⟩) | (go_at_call 37; refine (shift_any _ _ (by omega) (by omega)).mono ?_; rintro e w' ⟨rfl, rfl⟩))
    go_ret
    exact ⟨ret_int (by simp [and7, cls]), rfl⟩
theorem class_any (m k : Int) (w : World) : Calls Try.prog 27 #[.int .i64 m, .int .i64 k] w fun e w' => e = .returned (.int .i64 (cls m k)) ∧ w = w' := by
  by_cases h : 0 ≤ k ∧ k < 3
  · exact class_yes m k w h.1 h.2
  · have e : cls m k = 0 := by unfold cls; rw [if_neg (by omega), if_neg (by omega), if_neg (by omega)]
    rw [e]
    exact class_no m k w (by omega)

theorem with_no (m k b : Int) (w : World) (h : k < 0 ∨ 3 ≤ k) : Calls Try.prog 26 #[.int .i64 m, .int .i64 k, .int .i64 b] w fun e w' => e = .returned (.int .i64 (m % 4096)) ∧ w = w' := by
  go_enter Try.func26, Try.ntmps26
  go_wp2_with (go_at_call 36; refine (isClass_no _ _ h).mono ?_; rintro e w' ⟨rfl, rfl⟩)
  go_ret
  exact ⟨ret_int (and4095 m), rfl⟩
theorem wrap_in (n : Int) (h0 : -9223372036854775808 ≤ n) (h1 : n ≤ 9223372036854775807) : wrap64 n = n := by unfold wrap64; omega
theorem wit0 (m b : Int) : bits .or .i64 (bits .andNot .i64 (bits .and .i64 m 4095) 448) (wrap64 (bits .and .i64 b 7 * 64)) = wit m 0 b := by
  rw [and4095, and7, (clear_own _ (by omega) (by omega)).1, wrap_in _ (by omega) (by omega), put_high _ _ (by omega) (by omega) (by omega) (by omega) (by omega)]
  simp [wit]
  omega
theorem wit1 (m b : Int) : bits .or .i64 (bits .andNot .i64 (bits .and .i64 m 4095) 56) (wrap64 (bits .and .i64 b 7 * 8)) = wit m 1 b := by
  rw [and4095, and7, (clear_own _ (by omega) (by omega)).2.1, wrap_in _ (by omega) (by omega), put_own _ _ (by omega) (by omega) (by omega) (by omega) (by omega)]
  simp [wit]
  omega
theorem wit2 (m b : Int) : bits .or .i64 (bits .andNot .i64 (bits .and .i64 m 4095) 7) (wrap64 (bits .and .i64 b 7)) = wit m 2 b := by
  rw [and4095, and7, (clear_own _ (by omega) (by omega)).2.2, wrap_in _ (by omega) (by omega), put_low _ _ (by omega) (by omega) (by omega) (by omega) (by omega)]
  simp [wit]
theorem with_yes (m k b : Int) (w : World) (h0 : 0 ≤ k) (h1 : k < 3) : Calls Try.prog 26 #[.int .i64 m, .int .i64 k, .int .i64 b] w fun e w' => e = .returned (.int .i64 (wit m k b)) ∧ ∃ n, w' = w.drewN n := by
  obtain rfl | rfl | rfl : k = 0 ∨ k = 1 ∨ k = 2 := by omega
  all_goals
    go_enter Try.func26, Try.ntmps26
    go_wp2_with (go_at_call 36; refine (isClass_yes _ _ (by omega) (by omega)).mono ?_; rintro e w' ⟨rfl, rfl⟩)
    go_quiet ((go_at_call 37; refine Calls.quiet_of_same ((shift_any _ _ (by omega) (by omega)).mono fun _ _ h => ⟨h.1, h.2.symm⟩)))
    go_wp2
    go_ret
    exact ⟨ret_int (by first | exact wit0 m b | exact wit1 m b | exact wit2 m b), _, rfl⟩
theorem with_any (m k b : Int) (w : World) : Calls Try.prog 26 #[.int .i64 m, .int .i64 k, .int .i64 b] w fun e w' => e = .returned (.int .i64 (wit m k b)) ∧ ∃ n, w' = w.drewN n := by
  by_cases h : 0 ≤ k ∧ k < 3
  · exact with_yes m k b w h.1 h.2
  · have e : wit m k b = m % 4096 := by unfold wit; rw [if_neg (by omega), if_neg (by omega), if_neg (by omega)]
    rw [e]
    exact (with_no m k b w (by omega)).mono fun _ _ h => ⟨h.1, 0, h.2.symm⟩

theorem tmod_of (n b : Int) : (0 ≤ n ∧ n.tmod b = n % b) ∨ (n < 0 ∧ n.tmod b = -((-n) % b)) := by
  by_cases h : 0 ≤ n
  · exact .inl ⟨h, Int.tmod_eq_emod_of_nonneg h⟩
  · refine .inr ⟨by omega, ?_⟩
    have : n = -(-n) := by omega
    conv => lhs; rw [this]
    rw [Int.neg_tmod, Int.tmod_eq_emod_of_nonneg (by omega)]
theorem rest_neg (n b : Int) (hb : b = 8 ∨ b = 4096) (h : n.tmod b < 0) : wrap64 (n.tmod b + b) = n % b := by
  have := tmod_of n b
  unfold wrap64
  rcases hb with rfl | rfl
  · omega
  · omega
theorem rest_pos (n b : Int) (hb : b = 8 ∨ b = 4096) (h : 0 ≤ n.tmod b) : n.tmod b = n % b := by
  have := tmod_of n b
  rcases hb with rfl | rfl
  · omega
  · omega
theorem rest_any (n b : Int) (w : World) (h0 : b = 8 ∨ b = 4096) : Calls Try.prog 40 #[.int .i64 n, .int .i64 b] w fun e w' => e = .returned (.int .i64 (n % b)) ∧ w = w' := by
  by_cases hn : n.tmod b < 0
  · rcases h0 with rfl | rfl
    all_goals
      go_enter Try.func40, Try.ntmps40
      go_wp2
      go_ret
      exact ⟨ret_int (rest_neg n _ (by omega) hn), rfl⟩
  · rcases h0 with rfl | rfl
    all_goals
      go_enter Try.func40, Try.ntmps40
      go_wp2
      go_ret
      exact ⟨ret_int (rest_pos n _ (by omega) hn), rfl⟩
theorem low_any (n : Int) (w : World) : Calls Try.prog 33 #[.int .i64 n] w fun e w' => e = .returned (.int .i64 (n % 4096)) ∧ w = w' := by
  go_enter Try.func33, Try.ntmps33
  go_wp2_with (go_at_call 40; refine (rest_any _ _ _ (by omega)).mono ?_; rintro e w' ⟨rfl, rfl⟩)
  go_ret
  exact ⟨rfl, rfl⟩
theorem rclass_any (m k : Int) (w : World) : Calls Try.prog 31 #[.int .i64 m, .int .i64 k] w fun e w' => e = .returned (.int .i64 (cls m k)) ∧ w = w' := by
  have hb0 : 0 ≤ m % 4096 := by omega
  have hb1 : m % 4096 ≤ 4095 := by omega
  by_cases k0 : k = 0
  · subst k0
    go_enter Try.func31, Try.ntmps31
    go_wp2_with (go_at_call 33; refine (low_any _ _).mono ?_; rintro e w' ⟨rfl, rfl⟩)
    go_ret
    exact ⟨ret_int (by simp [cls]; omega), rfl⟩
  by_cases k1 : k = 1
  · subst k1
    go_enter Try.func31, Try.ntmps31
    go_wp2_with (go_at_call 33; refine (low_any _ _).mono ?_; rintro e w' ⟨rfl, rfl⟩)
    go_ret
    exact ⟨ret_int (by simp [cls]; omega), rfl⟩
  by_cases k2 : k = 2
  · subst k2
    go_enter Try.func31, Try.ntmps31
    go_wp2_with (go_at_call 33; refine (low_any _ _).mono ?_; rintro e w' ⟨rfl, rfl⟩)
    go_ret
    exact ⟨ret_int (by simp [cls]), rfl⟩
  · have e : Hid (cls m k = 0) := Lib.hid (by unfold cls; rw [if_neg k0, if_neg k1, if_neg k2])
    go_enter Try.func31, Try.ntmps31
    go_wp2_with (go_at_call 33; refine (low_any _ _).mono ?_; rintro e w' ⟨rfl, rfl⟩)
    go_ret
    exact ⟨ret_int e.out.symm, rfl⟩
end Go.Proofs.Ytnbpglaklhfgmaa
