/-
  The bits of what is made, as the program has them; plain mathematics. The conditions are said at each.
-/
import Derived.Test.YtfopnfgfoicidaaGreatPlN
import Derived.Test.YtfopnfgfoicidaaGreatCC
namespace Go.Proofs.YtfopnfgfoicidaaGreat
open Go Go.RowKit
set_option maxRecDepth 100000

theorem and511 (n : Int) : bits .and .i64 n 511 = n % 512 := and_mask n 9 511 (by decide) (by decide)
/-- A mode's nine bits, without a umask's, as the program has them. -/
theorem msk_bits (mode umask : Int) : bits .andNot .i64 (bits .and .i64 mode 511) umask = mskM mode umask := by
  rw [and511]
  obtain ⟨A, hA⟩ : ∃ A, (BitVec.ofInt 64 (mode % 512) &&& ~~~(BitVec.ofInt 64 umask)).toNat = A := ⟨_, rfl⟩
  have hx : (BitVec.ofInt 64 (mode % 512)).toNat = (mode % 512).toNat := by
    rw [BitVec.toNat_ofInt]
    omega
  have hbit : ∀ i, i < 64 → A.testBit i = ((mode % 512).toNat.testBit i && !((umask % ((2 ^ 64 : Nat) : Int)).toNat.testBit i)) := fun i hi => by
    rw [← hA, BitVec.testBit_toNat, BitVec.getLsbD_and, BitVec.getLsbD_not, ← BitVec.testBit_toNat, ← BitVec.testBit_toNat, hx, BitVec.toNat_ofInt]
    simp [hi]
  have hlt : A < 2 ^ 9 := by
    have h1 : A ≤ (mode % 512).toNat := by
      rw [← hA, BitVec.toNat_and, hx]
      exact Nat.and_le_left
    omega
  have he : A = ofB (mskF mode umask) 9 := eq_ofB A 9 _ hlt (fun i hi => by
    rw [hbit i (by omega)]
    have e1 : (mode % 512).toNat = (mode % 4096).toNat % 2 ^ 9 := by omega
    have e2 : (umask % 4096).toNat = (umask % ((2 ^ 64 : Nat) : Int)).toNat % 2 ^ 12 := by omega
    unfold mskF
    rw [e1, e2, Nat.testBit_mod_two_pow, Nat.testBit_mod_two_pow]
    simp [hi, show i < 12 by omega])
  show IntKind.i64.wrap (((BitVec.ofInt 64 (mode % 512) &&& ~~~(BitVec.ofInt 64 umask)).toNat : Nat) : Int) = _
  rw [hA, he]
  exact wraps_i64 _ (by omega) (by have := ofB_lt (mskF mode umask) 9; omega)
theorem orI_comm (a b : Int) (ha : 0 ≤ a ∧ a < 2 ^ 62) (hb : 0 ≤ b ∧ b < 2 ^ 62) : bits .or .i64 a b = bits .or .i64 b a := by
  have h := (bits_nat .i64 62 (by decide) wraps_i64 a.toNat b.toNat (by omega) (by omega)).2
  have h2 := (bits_nat .i64 62 (by decide) wraps_i64 b.toNat a.toNat (by omega) (by omega)).2
  rw [show ((a.toNat : Nat) : Int) = a by omega, show ((b.toNat : Nat) : Int) = b by omega] at h h2
  rw [h, h2, Nat.or_comm]
theorem or_zero {a : Int} (h0 : 0 ≤ a) (h1 : a < 2 ^ 20) : bits .or .i64 0 a = a := by
  rw [or_join 20 0 a (by decide) (by decide) (by decide) h0 (by omega) (by omega), Int.zero_add]
/-- All bits of some numbers. -/
def sumB (l : List Int) : Int := l.foldl (fun a b => bits .or .i64 a b) 0
theorem sum_wx : sumB [2, 1] = 3 := by decide +kernel
theorem bit9 (m : Int) : m / 512 % 2 = if (m % 4096).toNat.testBit 9 = true then 1 else 0 := by
  rw [Nat.testBit_eq_decide_div_mod_eq]
  simp only [decide_eq_true_eq]
  split <;> omega
theorem bit10 {m : Int} (h : 0 ≤ m) : m / 1024 % 2 = if m.toNat.testBit 10 = true then 1 else 0 := by
  rw [Nat.testBit_eq_decide_div_mod_eq]
  simp only [decide_eq_true_eq]
  split <;> omega
theorem sum_mk {mode umask : Int} {n : Nd} (h : 0 ≤ n.mode) : sumB [mskM mode umask, bits .and .i64 mode 512, bits .and .i64 n.mode 1024] = if sgB n = true then mkM mode umask + 1024 else mkM mode umask := by
  have hm := msk_bd mode umask
  have e1 : bits .or .i64 0 (mskM mode umask) = mskM mode umask := or_zero hm.1 (by omega)
  have e2 : bits .or .i64 (mskM mode umask) (bits .and .i64 mode 512) = mkM mode umask := by
    rw [and512, orI_comm _ _ ⟨hm.1, by omega⟩ ⟨by omega, by omega⟩, or_join 9 _ _ (by omega) (by omega) (by omega) hm.1 (by omega) (by omega), bit9]
    unfold mkM
    split <;> omega
  have hk := mk_bd mode umask
  show bits .or .i64 (bits .or .i64 (bits .or .i64 0 (mskM mode umask)) (bits .and .i64 mode 512)) (bits .and .i64 n.mode 1024) = _
  rw [e1, e2, and1024, orI_comm _ _ ⟨hk.1, by omega⟩ ⟨by omega, by omega⟩, or_join 10 _ _ (by omega) (by omega) (by omega) hk.1 (by omega) (by omega), bit10 h]
  unfold sgB
  split <;> omega
theorem sg_bits {n : Nd} (h : 0 ≤ n.mode) : (bits .and .i64 n.mode 1024 != 0) = sgB n := by
  rw [and1024, bit10 h]
  unfold sgB
  cases n.mode.toNat.testBit 10 <;> rfl
end Go.Proofs.YtfopnfgfoicidaaGreat
