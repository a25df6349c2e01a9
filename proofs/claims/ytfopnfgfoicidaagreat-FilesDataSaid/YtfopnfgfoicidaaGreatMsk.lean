/-
  The reference's nine bits without a umask's. No condition.
-/
import Derived.Test.YtfopnfgfoicidaaGreatPlM
import Derived.Test.YtfopnfgfoicidaaGreatCD
namespace Go.Proofs.YtfopnfgfoicidaaGreat
open Go Go.RowKit
set_option maxRecDepth 100000

attribute [local go_sem] cell_off4 cell_blk4
theorem low_bit (n : Int) (i : Nat) (w : World) (hi : i ≤ 100) : Calls Tryz.prog 55 #[.int .i64 (n % 4096), .int .i64 (i : Int)] w fun e w' => e = .returned (.bool ((n % 4096).toNat.testBit i)) ∧ w = w' := by
  have h := rbit_any (n % 4096).toNat i w (by omega) hi
  rw [show (((n % 4096).toNat : Nat) : Int) = n % 4096 from by omega] at h
  exact h
set_option maxHeartbeats 4000000 in
theorem rmask_any (mode umask : Int) (w : World) : Calls Tryz.prog 60 #[.int .i64 mode, .int .i64 umask] w fun e w' => e = .returned (.int .i64 (mskM mode umask)) ∧ Below w.heap.size w w' := by
  have HL1 := Lib.hid (low_any mode)
  have HL2 := Lib.hid (low_any umask)
  have HB := Lib.hid (fun (i : Nat) (W : World) (h : i ≤ 100) => low_bit mode i W h)
  have HB2 := Lib.hid (fun (i : Nat) (W : World) (h : i ≤ 100) => low_bit umask i W h)
  have HE := Lib.hid (show mskM mode umask = ((ofB (mskF mode umask) 9 : Nat) : Int) from rfl)
  go_enter Tryz.func60, Tryz.ntmps60
  go_wp2
  go_loopg [5, 6, 7] 9 (fun g s5 s6 s7 wr => ∃ k : Nat, s7 = .int .i64 (k : Int) ∧ k ≤ 9 ∧ s5 = .int .i64 ((ofB (mskF mode umask) k : Nat) : Int) ∧ s6 = .int .i64 ((2 ^ k : Nat) : Int) ∧ g = 9 - k ∧ Below w.heap.size w wr)
  case atStart => exact ⟨0, rfl, by decide, rfl, rfl, rfl, Below.refl _ _⟩
  case round =>
    obtain ⟨k, rfl, hk, rfl, rfl, rfl, hbr⟩ := hrel
    have HBR := Lib.hid hbr
    clear hbr
    by_cases hlt : k < 9
    · have hlt' : (k : Int) < 9 := by omega
      have hN : ofB (mskF mode umask) k < 2 ^ k := ofB_lt _ _
      have hp : 2 ^ k ≤ 256 := by
        have := Nat.pow_le_pow_right (show 0 < 2 by decide) (show k ≤ 8 by omega)
        omega
      obtain ⟨N, hNe⟩ : ∃ N, ofB (mskF mode umask) k = N := ⟨_, rfl⟩
      obtain ⟨p, hpe⟩ : ∃ p, 2 ^ k = p := ⟨_, rfl⟩
      have HS := Lib.hid (show ofB (mskF mode umask) (k + 1) = N + if ((mode % 4096).toNat.testBit k && !(umask % 4096).toNat.testBit k) = true then p else 0 from by rw [ofB, hNe, hpe]; rfl)
      have HP2 := Lib.hid (show 2 ^ (k + 1) = p * 2 from by rw [Nat.pow_succ, hpe])
      rw [hNe, hpe] at hN
      rw [hpe] at hp
      rw [hNe, hpe]
      clear hNe hpe
      have HK := Lib.hid (HB.out k wr (by omega))
      have HK2 := Lib.hid (HB2.out k wr (by omega))
      obtain ⟨a, ha⟩ : ∃ a, (mode % 4096).toNat.testBit k = a := ⟨_, rfl⟩
      obtain ⟨b, hb⟩ : ∃ b, (umask % 4096).toNat.testBit k = b := ⟨_, rfl⟩
      rw [ha] at HK HS
      rw [hb] at HK2 HS
      clear ha hb
      go_wp2_with fail
      refine (HL1.out wr).mono ?_
      rintro e w2 ⟨rfl, rfl⟩
      go_wp2_with fail
      refine HK.out.mono ?_
      rintro e w2 ⟨rfl, rfl⟩
      cases a with
      | false =>
        go_wp2
        go_roundg (9 - (k + 1))
        case measure => omega
        case rel => exact ⟨k + 1, by go_num, by omega, by rw [HS.out]; simp, by rw [HP2.out]; go_num, rfl, HBR.out⟩
      | true =>
        go_wp2_with fail
        refine (HL2.out wr).mono ?_
        rintro e w2 ⟨rfl, rfl⟩
        go_wp2_with fail
        refine HK2.out.mono ?_
        rintro e w2 ⟨rfl, rfl⟩
        cases b with
        | false =>
          go_wp2
          go_roundg (9 - (k + 1))
          case measure => omega
          case rel => exact ⟨k + 1, by go_num, by omega, by rw [HS.out]; go_num, by rw [HP2.out]; go_num, rfl, HBR.out⟩
        | true =>
          go_wp2
          go_roundg (9 - (k + 1))
          case measure => omega
          case rel => exact ⟨k + 1, by go_num, by omega, by rw [HS.out]; simp, by rw [HP2.out]; go_num, rfl, HBR.out⟩
    · have hlt' : ¬ (k : Int) < 9 := by omega
      obtain rfl : k = 9 := by omega
      rw [← HE.out]
      go_wp2
      go_ret
      exact ⟨rfl, HBR.out⟩
end Go.Proofs.YtfopnfgfoicidaaGreat
