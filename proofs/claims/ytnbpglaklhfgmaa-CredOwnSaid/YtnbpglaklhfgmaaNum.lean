/-
  Plain facts on the bits of 64-bit numbers that the walks of package modes leave: masks, single bits, and the joining of parts that share no bit. No condition.
-/
import Derived.Laws.BitsLemmas
namespace Go.Proofs.Ytnbpglaklhfgmaa
open Go

theorem and_mask (n : Int) (j : Nat) (m : Int) (hm : (BitVec.ofInt 64 m).toNat = 2 ^ j - 1) (hj : j ≤ 62) : bits .and .i64 n m = n % 2 ^ j := by
  have key : (BitVec.ofInt 64 n &&& BitVec.ofInt 64 m).toNat = (n % ((2 ^ 64 : Nat) : Int)).toNat % 2 ^ j := by
    rw [BitVec.toNat_and, BitVec.toNat_ofInt, hm, Nat.and_two_pow_sub_one_eq_mod]
  show IntKind.i64.wrap ((BitVec.ofInt 64 n &&& BitVec.ofInt 64 m).toNat : Nat) = n % 2 ^ j
  rw [key, IntKind.wrap_i64]
  have hp : (2 : Nat) ^ j ≤ 2 ^ 62 := Nat.pow_le_pow_right (by decide) hj
  have hlt : (n % ((2 ^ 64 : Nat) : Int)).toNat % 2 ^ j < 2 ^ j := Nat.mod_lt _ (Nat.two_pow_pos j)
  have h0 : 0 ≤ n % ((2 ^ 64 : Nat) : Int) := Int.emod_nonneg _ (by decide)
  have hc : (((n % ((2 ^ 64 : Nat) : Int)).toNat % 2 ^ j : Nat) : Int) = n % 2 ^ j := by
    rw [Int.natCast_emod, Int.toNat_of_nonneg h0, Int.natCast_pow]
    have hd : ((2 : Int) ^ j) ∣ ((2 ^ 64 : Nat) : Int) := by
      refine ⟨(2 : Int) ^ (64 - j), ?_⟩
      rw [← Int.pow_add, show j + (64 - j) = 64 by omega]
      rfl
    exact Int.emod_emod_of_dvd n hd
  rw [← hc]
  generalize (n % ((2 ^ 64 : Nat) : Int)).toNat % 2 ^ j = x at hlt
  omega

theorem and1 (n : Int) : bits .and .i64 n 1 = n % 2 := and_mask n 1 1 (by decide) (by decide)
theorem and7 (n : Int) : bits .and .i64 n 7 = n % 8 := and_mask n 3 7 (by decide) (by decide)
theorem and4095 (n : Int) : bits .and .i64 n 4095 = n % 4096 := and_mask n 12 4095 (by decide) (by decide)

theorem nat_and_bit (X j : Nat) : X &&& 2 ^ j = X / 2 ^ j % 2 * 2 ^ j := by
  apply Nat.eq_of_testBit_eq
  intro i
  rw [Nat.testBit_and, Nat.testBit_two_pow, Nat.testBit_mul_two_pow]
  by_cases h : j = i
  · subst h
    simp [Nat.testBit_eq_decide_div_mod_eq]
  · by_cases h2 : j ≤ i
    · have : (X / 2 ^ j % 2).testBit (i - j) = false := by
        apply Nat.testBit_lt_two_pow
        have h3 : X / 2 ^ j % 2 < 2 := Nat.mod_lt _ (by decide)
        have h4 : 2 ^ 1 ≤ 2 ^ (i - j) := Nat.pow_le_pow_right (by decide) (by omega)
        omega
      simp [h, this]
    · simp [h, h2]

/-- One bit of a number. -/
theorem and_bit (n : Int) (j : Nat) (m : Int) (hm : (BitVec.ofInt 64 m).toNat = 2 ^ j) (hj : j ≤ 61) : bits .and .i64 n m = n / 2 ^ j % 2 * 2 ^ j := by
  have key : (BitVec.ofInt 64 n &&& BitVec.ofInt 64 m).toNat = (n % ((2 ^ 64 : Nat) : Int)).toNat / 2 ^ j % 2 * 2 ^ j := by
    rw [BitVec.toNat_and, BitVec.toNat_ofInt, hm]
    exact nat_and_bit _ j
  show IntKind.i64.wrap ((BitVec.ofInt 64 n &&& BitVec.ofInt 64 m).toNat : Nat) = n / 2 ^ j % 2 * 2 ^ j
  rw [key, IntKind.wrap_i64]
  have h0 : 0 ≤ n % ((2 ^ 64 : Nat) : Int) := Int.emod_nonneg _ (by decide)
  have hp : (2 : Nat) ^ j ≤ 2 ^ 61 := Nat.pow_le_pow_right (by decide) hj
  have hpp : (0 : Int) < 2 ^ j := Int.pow_pos (by decide)
  have hc : (((n % ((2 ^ 64 : Nat) : Int)).toNat / 2 ^ j % 2 : Nat) : Int) = n / 2 ^ j % 2 := by
    rw [Int.natCast_emod, Int.natCast_ediv, Int.toNat_of_nonneg h0, Int.natCast_pow]
    show n % ((2 ^ 64 : Nat) : Int) / 2 ^ j % 2 = n / 2 ^ j % 2
    have e : ((2 ^ 64 : Nat) : Int) = 2 ^ j * (2 * 2 ^ (63 - j)) := by
      rw [show (2 : Int) * 2 ^ (63 - j) = 2 ^ (64 - j) by rw [show 64 - j = (63 - j) + 1 by omega, Int.pow_succ, Int.mul_comm], ← Int.pow_add, show j + (64 - j) = 64 by omega]
      rfl
    have hdm := Int.mul_ediv_add_emod n ((2 ^ 64 : Nat) : Int)
    have hn : n = n % ((2 ^ 64 : Nat) : Int) + 2 ^ j * (2 * 2 ^ (63 - j) * (n / ((2 ^ 64 : Nat) : Int))) := by
      rw [← Int.mul_assoc, ← e]; omega
    conv => rhs; rw [hn]
    rw [Int.add_mul_ediv_left _ _ (Int.ne_of_gt hpp), Int.mul_assoc 2, Int.add_mul_emod_self_left]
  have hlt : (n % ((2 ^ 64 : Nat) : Int)).toNat / 2 ^ j % 2 < 2 := Nat.mod_lt _ (by decide)
  rw [← hc]
  generalize (n % ((2 ^ 64 : Nat) : Int)).toNat / 2 ^ j % 2 = x at hlt
  have hxx : ((x * 2 ^ j : Nat) : Int) = (x : Int) * 2 ^ j := by rw [Int.natCast_mul, Int.natCast_pow]; rfl
  rw [← hxx]
  have : x * 2 ^ j ≤ 1 * 2 ^ 61 := Nat.mul_le_mul (by omega) hp
  generalize x * 2 ^ j = y at this
  omega

theorem and4 (n : Int) : bits .and .i64 n 4 = n / 4 % 2 * 4 := and_bit n 2 4 (by decide) (by decide)
theorem and2 (n : Int) : bits .and .i64 n 2 = n / 2 % 2 * 2 := and_bit n 1 2 (by decide) (by decide)
theorem and2048 (n : Int) : bits .and .i64 n 2048 = n / 2048 % 2 * 2048 := and_bit n 11 2048 (by decide) (by decide)
theorem and1024 (n : Int) : bits .and .i64 n 1024 = n / 1024 % 2 * 1024 := and_bit n 10 1024 (by decide) (by decide)
theorem and512 (n : Int) : bits .and .i64 n 512 = n / 512 % 2 * 512 := and_bit n 9 512 (by decide) (by decide)

theorem wraps_i64 (n : Int) (h₀ : 0 ≤ n) (h₁ : n < 2 ^ 62) : IntKind.i64.wrap n = n := by rw [IntKind.wrap_i64]; omega

/-- Two parts that share no bit, the one above the other. -/
theorem or_join (i : Nat) (x y : Int) (hx₀ : 0 ≤ x) (hx : x % 2 ^ i = 0) (hx₁ : x < 2 ^ 62) (hy₀ : 0 ≤ y) (hy : y < 2 ^ i) (hy₁ : y < 2 ^ 62) : bits .or .i64 x y = x + y :=
  bits_join .i64 62 (by decide) wraps_i64 i x y hx₀ hx hx₁ hy₀ hy hy₁

theorem clear_at : ∀ a b : Fin 64, bits .andNot .i64 (((a.val * 64 + b.val : Nat) : Int)) 448 = ((a.val * 64 + b.val : Nat) : Int) - ((a.val * 64 + b.val : Nat) : Int) / 64 % 8 * 64 ∧ bits .andNot .i64 (((a.val * 64 + b.val : Nat) : Int)) 56 = ((a.val * 64 + b.val : Nat) : Int) - ((a.val * 64 + b.val : Nat) : Int) / 8 % 8 * 8 ∧ bits .andNot .i64 (((a.val * 64 + b.val : Nat) : Int)) 7 = ((a.val * 64 + b.val : Nat) : Int) - ((a.val * 64 + b.val : Nat) : Int) % 8 := by decide +kernel
theorem clear_own (m : Int) (h0 : 0 ≤ m) (h1 : m < 4096) : bits .andNot .i64 m 448 = m - m / 64 % 8 * 64 ∧ bits .andNot .i64 m 56 = m - m / 8 % 8 * 8 ∧ bits .andNot .i64 m 7 = m - m % 8 := by
  have h := clear_at ⟨(m / 64).toNat, by omega⟩ ⟨(m % 64).toNat, by omega⟩
  have e : (((m / 64).toNat * 64 + (m % 64).toNat : Nat) : Int) = m := by omega
  simp only [e] at h
  exact h
/-- A part that is put between two others. -/
theorem put_at : ∀ a : Fin 64, ∀ c : Fin 8, ∀ b : Fin 8, bits .or .i64 (((a.val * 64 + c.val : Nat) : Int)) (((b.val * 8 : Nat) : Int)) = ((a.val * 64 + c.val : Nat) : Int) + ((b.val * 8 : Nat) : Int) := by decide +kernel
theorem put_own (m b : Int) (h0 : 0 ≤ m) (h1 : m < 4096) (hm : m / 8 % 8 = 0) (b0 : 0 ≤ b) (b1 : b < 8) : bits .or .i64 m (b * 8) = m + b * 8 := by
  have h := put_at ⟨(m / 64).toNat, by omega⟩ ⟨(m % 64).toNat, by omega⟩ ⟨b.toNat, by omega⟩
  have e : (((m / 64).toNat * 64 + (m % 64).toNat : Nat) : Int) = m := by omega
  have e2 : (((b.toNat * 8 : Nat)) : Int) = b * 8 := by omega
  simp only [e, e2] at h
  exact h
theorem put_low (m b : Int) (h0 : 0 ≤ m) (h1 : m < 4096) (hm : m % 8 = 0) (b0 : 0 ≤ b) (b1 : b < 8) : bits .or .i64 m b = m + b :=
  or_join 3 m b h0 hm (by omega) b0 b1 (by omega)
theorem put_at_high : ∀ a : Fin 8, ∀ c : Fin 64, ∀ b : Fin 8, bits .or .i64 (((a.val * 512 + c.val : Nat) : Int)) (((b.val * 64 : Nat) : Int)) = ((a.val * 512 + c.val : Nat) : Int) + ((b.val * 64 : Nat) : Int) := by decide +kernel
theorem put_high (m b : Int) (h0 : 0 ≤ m) (h1 : m < 4096) (hm : m / 64 % 8 = 0) (b0 : 0 ≤ b) (b1 : b < 8) : bits .or .i64 m (b * 64) = m + b * 64 := by
  have h := put_at_high ⟨(m / 512).toNat, by omega⟩ ⟨(m % 512).toNat, by omega⟩ ⟨b.toNat, by omega⟩
  have e : (((m / 512).toNat * 512 + (m % 512).toNat : Nat) : Int) = m := by omega
  have e2 : (((b.toNat * 64 : Nat)) : Int) = b * 64 := by omega
  simp only [e, e2] at h
  exact h

end Go.Proofs.Ytnbpglaklhfgmaa
