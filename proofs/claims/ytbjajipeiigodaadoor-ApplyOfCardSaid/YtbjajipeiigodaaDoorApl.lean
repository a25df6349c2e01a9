/-
  What the small functions of package apply answer: the bits of an act, those that a Who has, and what one act that may be makes of a mode.
-/
import Derived.Test.YtbjajipeiigodaaDoorMInts
import Derived.Test.YtbjajipeiigodaaDoorBit
import Derived.Test.YtbjajipeiigodaaDoorMem
namespace Go.Proofs.YtbjajipeiigodaaDoor
open Go Go.RowKit

theorem wit3 (b : Int) : wit (wit (wit 0 0 b) 1 b) 2 b = b % 8 * 73 := by
  simp [wit]
  omega
set_option maxHeartbeats 1000000 in
theorem inAll_any (b : Int) (w : World) : Calls Tryd.prog 73 #[.int .i64 b] w fun e w' => e = .returned (.int .i64 (b % 8 * 73)) ∧ ∃ n, w' = w.drewN n := by
  obtain ⟨R, hR⟩ : ∃ R, b % 8 * 73 = R := ⟨_, rfl⟩
  have HR := Lib.hid ((wit3 b).trans hR)
  rw [hR]
  clear hR
  go_enter Tryd.func73, Tryd.ntmps73
  go_wp2
  refine wp_loop_rounds 4 ?_
  rw [rounds_succ]
  go_wp2_with fail
  refine (with_any _ _ _ _).mono ?_
  rintro e w1 ⟨rfl, n1, rfl⟩
  go_wp2_with fail
  rw [rounds_succ]
  go_wp2_with fail
  refine (with_any _ _ _ _).mono ?_
  rintro e w1 ⟨rfl, n2, rfl⟩
  go_wp2_with fail
  rw [rounds_succ]
  go_wp2_with fail
  refine (with_any _ _ _ _).mono ?_
  rintro e w1 ⟨rfl, n3, rfl⟩
  go_wp2_with fail
  rw [rounds_succ]
  go_wp2
  go_ret
  exact ⟨ret_int HR.out, _, rfl⟩

theorem anyX_at : ∀ a b : Fin 64, (bits .and .i64 ((a.val * 64 + b.val : Nat) : Int) 73 != 0) = anyX (a.val * 64 + b.val) := by decide +kernel
theorem anyX_of (m : Nat) (hm : m < 4096) : (bits .and .i64 (m : Int) 73 != 0) = anyX m := by
  have h := anyX_at ⟨m / 64, by omega⟩ ⟨m % 64, by omega⟩
  simp only at h
  rwa [show m / 64 * 64 + m % 64 = m by omega] at h
theorem anyHasX_any (m : Nat) (w : World) (hm : m < 4096) : Calls Tryd.prog 75 #[.int .i64 (m : Int)] w fun e w' => e = .returned (.bool (anyX m)) ∧ ∃ n, w' = w.drewN n := by
  have HA := Lib.hid (anyX_of m hm)
  have HI := Lib.hid (fun w => inAll_any 1 w)
  rw [show ((1 : Int) % 8 * 73) = 73 from rfl] at HI
  go_enter Tryd.func75, Tryd.ntmps75
  go_wp2_with fail
  refine (HI.out _).mono ?_
  rintro e w1 ⟨rfl, n1, rfl⟩
  go_wp2
  go_ret
  exact ⟨ret_bool (by rw [← HA.out]), _, rfl⟩

set_option maxHeartbeats 4000000 in
theorem whoClears_any (who : Nat) (w : World) (hw : who < 8) : Calls Tryd.prog 65 #[.int .i64 (who : Int)] w fun e w' => e = .returned (.int .i64 (whoN who : Nat)) ∧ ∃ n, w' = w.drewN n := by
  have HW0 := Lib.hid (fun w => with_any 2048 0 7 w)
  have HW1 := Lib.hid (fun w => with_any 1024 1 7 w)
  have HW2 := Lib.hid (fun w => with_any 512 2 7 w)
  rw [show wit 2048 0 7 = 2496 from rfl] at HW0
  rw [show wit 1024 1 7 = 1080 from rfl] at HW1
  rw [show wit 512 2 7 = 519 from rfl] at HW2
  obtain rfl | rfl | rfl | rfl | rfl | rfl | rfl | rfl : who = 0 ∨ who = 1 ∨ who = 2 ∨ who = 3 ∨ who = 4 ∨ who = 5 ∨ who = 6 ∨ who = 7 := by omega
  · go_enter Tryd.func65, Tryd.ntmps65
    go_wp2
    go_ret
    exact ⟨rfl, 0, rfl⟩
  all_goals
    go_enter Tryd.func65, Tryd.ntmps65
    go_wp2
    refine wp_loop_rounds 4 ?_
    rw [rounds_succ]
    go_wp2_with (first | (refine (HW0.out _).mono ?_; rintro e w1 ⟨rfl, n1, rfl⟩) | fail)
    rw [rounds_succ]
    go_wp2_with (first | (refine (HW1.out _).mono ?_; rintro e w1 ⟨rfl, n2, rfl⟩) | fail)
    rw [rounds_succ]
    go_wp2_with (first | (refine (HW2.out _).mono ?_; rintro e w1 ⟨rfl, n3, rfl⟩) | fail)
    rw [rounds_succ]
    go_wp2
    go_ret
    exact ⟨ret_int (by decide +kernel), _, rfl⟩
end Go.Proofs.YtbjajipeiigodaaDoor
