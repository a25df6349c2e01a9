/-
  cred.Can, and the reference's. The conditions are said at each.
-/
import Derived.Test.YtfopnfgfoicidaaGreatBC
import Derived.Laws.BitsLemmas
import Derived.WalkKit
import Derived.Lib.Hide
import Derived.Deep.QuietTactic
import Derived.BigQuiet
import Derived.Deep.LoopGhost
import Derived.Deep.RegionHeld3
import Derived.StillTailTactics
namespace Go.Proofs.YtfopnfgfoicidaaGreat
open Go

theorem and_mask (n : Int) (j : Nat) (m : Int) (hm : (BitVec.ofInt 64 m).toNat = 2 ^ j - 1) (hj : j ≤ 62) : bits .and .i64 n m = n % 2 ^ j := by
  have key : (BitVec.ofInt 64 n &&& BitVec.ofInt 64 m).toNat = (n % ((2 ^ 64 : Nat) : Int)).toNat % 2 ^ j := by
    rw [BitVec.toNat_and, BitVec.toNat_ofInt, hm, Nat.and_two_pow_sub_one_eq_mod]
  show IntKind.i64.wrap ((BitVec.ofInt 64 n &&& BitVec.ofInt 64 m).toNat : Nat) = n % 2 ^ j
  rw [key, IntKind.wrap_i64]
  have hp : (2 : Nat) ^ j ≤ 2 ^ 62 := Nat.pow_le_pow_right (by decide) hj
  have hlt : (n % ((2 ^ 64 : Nat) : Int)).toNat % 2 ^ j < 2 ^ j := Nat.mod_lt _ (Nat.two_pow_pos j)
  have h0 : 0 ≤ n % ((2 ^ 64 : Nat) : Int) := Int.emod_nonneg _ (by decide)
  have hc : (((n % ((2 ^ 64 : Nat) : Int)).toNat % 2 ^ j : Nat) : Int) = n % 2 ^ j := by
    rw [Int.natCast_emod, Int.toNat_of_nonneg h0, Int.natCast_pow]
    have hd : ((2 : Int) ^ j) ∣ ((2 ^ 64 : Nat) : Int) := by
      refine ⟨(2 : Int) ^ (64 - j), ?_⟩
      rw [← Int.pow_add, show j + (64 - j) = 64 by omega]
      rfl
    exact Int.emod_emod_of_dvd n hd
  rw [← hc]
  generalize (n % ((2 ^ 64 : Nat) : Int)).toNat % 2 ^ j = x at hlt
  omega

theorem and1 (n : Int) : bits .and .i64 n 1 = n % 2 := and_mask n 1 1 (by decide) (by decide)
theorem and7 (n : Int) : bits .and .i64 n 7 = n % 8 := and_mask n 3 7 (by decide) (by decide)
theorem and4095 (n : Int) : bits .and .i64 n 4095 = n % 4096 := and_mask n 12 4095 (by decide) (by decide)

theorem nat_and_bit (X j : Nat) : X &&& 2 ^ j = X / 2 ^ j % 2 * 2 ^ j := by
  apply Nat.eq_of_testBit_eq
  intro i
  rw [Nat.testBit_and, Nat.testBit_two_pow, Nat.testBit_mul_two_pow]
  by_cases h : j = i
  · subst h
    simp [Nat.testBit_eq_decide_div_mod_eq]
  · by_cases h2 : j ≤ i
    · have : (X / 2 ^ j % 2).testBit (i - j) = false := by
        apply Nat.testBit_lt_two_pow
        have h3 : X / 2 ^ j % 2 < 2 := Nat.mod_lt _ (by decide)
        have h4 : 2 ^ 1 ≤ 2 ^ (i - j) := Nat.pow_le_pow_right (by decide) (by omega)
        omega
      simp [h, this]
    · simp [h, h2]

/-- One bit of a number. -/
theorem and_bit (n : Int) (j : Nat) (m : Int) (hm : (BitVec.ofInt 64 m).toNat = 2 ^ j) (hj : j ≤ 61) : bits .and .i64 n m = n / 2 ^ j % 2 * 2 ^ j := by
  have key : (BitVec.ofInt 64 n &&& BitVec.ofInt 64 m).toNat = (n % ((2 ^ 64 : Nat) : Int)).toNat / 2 ^ j % 2 * 2 ^ j := by
    rw [BitVec.toNat_and, BitVec.toNat_ofInt, hm]
    exact nat_and_bit _ j
  show IntKind.i64.wrap ((BitVec.ofInt 64 n &&& BitVec.ofInt 64 m).toNat : Nat) = n / 2 ^ j % 2 * 2 ^ j
  rw [key, IntKind.wrap_i64]
  have h0 : 0 ≤ n % ((2 ^ 64 : Nat) : Int) := Int.emod_nonneg _ (by decide)
  have hp : (2 : Nat) ^ j ≤ 2 ^ 61 := Nat.pow_le_pow_right (by decide) hj
  have hpp : (0 : Int) < 2 ^ j := Int.pow_pos (by decide)
  have hc : (((n % ((2 ^ 64 : Nat) : Int)).toNat / 2 ^ j % 2 : Nat) : Int) = n / 2 ^ j % 2 := by
    rw [Int.natCast_emod, Int.natCast_ediv, Int.toNat_of_nonneg h0, Int.natCast_pow]
    show n % ((2 ^ 64 : Nat) : Int) / 2 ^ j % 2 = n / 2 ^ j % 2
    have e : ((2 ^ 64 : Nat) : Int) = 2 ^ j * (2 * 2 ^ (63 - j)) := by
      rw [show (2 : Int) * 2 ^ (63 - j) = 2 ^ (64 - j) by rw [show 64 - j = (63 - j) + 1 by omega, Int.pow_succ, Int.mul_comm], ← Int.pow_add, show j + (64 - j) = 64 by omega]
      rfl
    have hdm := Int.mul_ediv_add_emod n ((2 ^ 64 : Nat) : Int)
    have hn : n = n % ((2 ^ 64 : Nat) : Int) + 2 ^ j * (2 * 2 ^ (63 - j) * (n / ((2 ^ 64 : Nat) : Int))) := by
      rw [← Int.mul_assoc, ← e]; omega
    conv => rhs; rw [hn]
    rw [Int.add_mul_ediv_left _ _ (Int.ne_of_gt hpp), Int.mul_assoc 2, Int.add_mul_emod_self_left]
  have hlt : (n % ((2 ^ 64 : Nat) : Int)).toNat / 2 ^ j % 2 < 2 := Nat.mod_lt _ (by decide)
  rw [← hc]
  generalize (n % ((2 ^ 64 : Nat) : Int)).toNat / 2 ^ j % 2 = x at hlt
  have hxx : ((x * 2 ^ j : Nat) : Int) = (x : Int) * 2 ^ j := by rw [Int.natCast_mul, Int.natCast_pow]; rfl
  rw [← hxx]
  have : x * 2 ^ j ≤ 1 * 2 ^ 61 := Nat.mul_le_mul (by omega) hp
  generalize x * 2 ^ j = y at this
  omega

theorem and4 (n : Int) : bits .and .i64 n 4 = n / 4 % 2 * 4 := and_bit n 2 4 (by decide) (by decide)
theorem and2 (n : Int) : bits .and .i64 n 2 = n / 2 % 2 * 2 := and_bit n 1 2 (by decide) (by decide)
theorem and2048 (n : Int) : bits .and .i64 n 2048 = n / 2048 % 2 * 2048 := and_bit n 11 2048 (by decide) (by decide)
theorem and1024 (n : Int) : bits .and .i64 n 1024 = n / 1024 % 2 * 1024 := and_bit n 10 1024 (by decide) (by decide)
theorem and512 (n : Int) : bits .and .i64 n 512 = n / 512 % 2 * 512 := and_bit n 9 512 (by decide) (by decide)

theorem wraps_i64 (n : Int) (h₀ : 0 ≤ n) (h₁ : n < 2 ^ 62) : IntKind.i64.wrap n = n := by rw [IntKind.wrap_i64]; omega

/-- Two parts that share no bit, the one above the other. -/
theorem or_join (i : Nat) (x y : Int) (hx₀ : 0 ≤ x) (hx : x % 2 ^ i = 0) (hx₁ : x < 2 ^ 62) (hy₀ : 0 ≤ y) (hy : y < 2 ^ i) (hy₁ : y < 2 ^ 62) : bits .or .i64 x y = x + y :=
  bits_join .i64 62 (by decide) wraps_i64 i x y hx₀ hx hx₁ hy₀ hy hy₁

theorem clear_at : ∀ a b : Fin 64, bits .andNot .i64 (((a.val * 64 + b.val : Nat) : Int)) 448 = ((a.val * 64 + b.val : Nat) : Int) - ((a.val * 64 + b.val : Nat) : Int) / 64 % 8 * 64 ∧ bits .andNot .i64 (((a.val * 64 + b.val : Nat) : Int)) 56 = ((a.val * 64 + b.val : Nat) : Int) - ((a.val * 64 + b.val : Nat) : Int) / 8 % 8 * 8 ∧ bits .andNot .i64 (((a.val * 64 + b.val : Nat) : Int)) 7 = ((a.val * 64 + b.val : Nat) : Int) - ((a.val * 64 + b.val : Nat) : Int) % 8 := by decide +kernel
theorem clear_own (m : Int) (h0 : 0 ≤ m) (h1 : m < 4096) : bits .andNot .i64 m 448 = m - m / 64 % 8 * 64 ∧ bits .andNot .i64 m 56 = m - m / 8 % 8 * 8 ∧ bits .andNot .i64 m 7 = m - m % 8 := by
  have h := clear_at ⟨(m / 64).toNat, by omega⟩ ⟨(m % 64).toNat, by omega⟩
  have e : (((m / 64).toNat * 64 + (m % 64).toNat : Nat) : Int) = m := by omega
  simp only [e] at h
  exact h
/-- A part that is put between two others. -/
theorem put_at : ∀ a : Fin 64, ∀ c : Fin 8, ∀ b : Fin 8, bits .or .i64 (((a.val * 64 + c.val : Nat) : Int)) (((b.val * 8 : Nat) : Int)) = ((a.val * 64 + c.val : Nat) : Int) + ((b.val * 8 : Nat) : Int) := by decide +kernel
theorem put_own (m b : Int) (h0 : 0 ≤ m) (h1 : m < 4096) (hm : m / 8 % 8 = 0) (b0 : 0 ≤ b) (b1 : b < 8) : bits .or .i64 m (b * 8) = m + b * 8 := by
  have h := put_at ⟨(m / 64).toNat, by omega⟩ ⟨(m % 64).toNat, by omega⟩ ⟨b.toNat, by omega⟩
  have e : (((m / 64).toNat * 64 + (m % 64).toNat : Nat) : Int) = m := by omega
  have e2 : (((b.toNat * 8 : Nat)) : Int) = b * 8 := by omega
  simp only [e, e2] at h
  exact h
theorem put_low (m b : Int) (h0 : 0 ≤ m) (h1 : m < 4096) (hm : m % 8 = 0) (b0 : 0 ≤ b) (b1 : b < 8) : bits .or .i64 m b = m + b :=
  or_join 3 m b h0 hm (by omega) b0 b1 (by omega)
theorem put_at_high : ∀ a : Fin 8, ∀ c : Fin 64, ∀ b : Fin 8, bits .or .i64 (((a.val * 512 + c.val : Nat) : Int)) (((b.val * 64 : Nat) : Int)) = ((a.val * 512 + c.val : Nat) : Int) + ((b.val * 64 : Nat) : Int) := by decide +kernel
theorem put_high (m b : Int) (h0 : 0 ≤ m) (h1 : m < 4096) (hm : m / 64 % 8 = 0) (b0 : 0 ≤ b) (b1 : b < 8) : bits .or .i64 m (b * 64) = m + b * 64 := by
  have h := put_at_high ⟨(m / 512).toNat, by omega⟩ ⟨(m % 512).toNat, by omega⟩ ⟨b.toNat, by omega⟩
  have e : (((m / 512).toNat * 512 + (m % 512).toNat : Nat) : Int) = m := by omega
  have e2 : (((b.toNat * 64 : Nat)) : Int) = b * 64 := by omega
  simp only [e, e2] at h
  exact h

end Go.Proofs.YtfopnfgfoicidaaGreat
namespace Go.Proofs.YtfopnfgfoicidaaGreat
open Go Go.RowKit
set_option maxRecDepth 100000

/-- Class k's three bits. -/
def cls (m k : Int) : Int := if k = 0 then m / 64 % 8 else if k = 1 then m / 8 % 8 else if k = 2 then m % 8 else 0
theorem cls_bd (m k : Int) : 0 ≤ cls m k ∧ cls m k ≤ 7 := by unfold cls; repeat' split
                                                             all_goals omega

theorem isClass_yes (k : Int) (w : World) (h0 : 0 ≤ k) (h1 : k < 3) : Calls Tryz.prog 130 #[.int .i64 k] w fun e w' => e = .returned (.bool true) ∧ w = w' := by
  go_enter Tryz.func130, Tryz.ntmps130
  go_wp2
  go_ret
  exact ⟨rfl, rfl⟩
theorem isClass_no (k : Int) (w : World) (h : k < 0 ∨ 3 ≤ k) : Calls Tryz.prog 130 #[.int .i64 k] w fun e w' => e = .returned (.bool false) ∧ w = w' := by
  rcases h with h | h
  · have h1 : ¬ 0 ≤ k := by omega
    go_enter Tryz.func130, Tryz.ntmps130
    go_wp2
    go_ret
    exact ⟨rfl, rfl⟩
  · have h1 : ¬ k < 3 := by omega
    have h2 : 0 ≤ k := by omega
    go_enter Tryz.func130, Tryz.ntmps130
    go_wp2
    go_ret
    exact ⟨rfl, rfl⟩
theorem shift_any (k : Int) (w : World) (h0 : 0 ≤ k) (h1 : k < 3) : Calls Tryz.prog 131 #[.int .i64 k] w fun e w' => e = .returned (.int .i64 (3 * (2 - k))) ∧ w = w' := by
  go_enter Tryz.func131, Tryz.ntmps131
  go_wp2
  go_ret
  exact ⟨rfl, rfl⟩

theorem class_no (m k : Int) (w : World) (h : k < 0 ∨ 3 ≤ k) : Calls Tryz.prog 108 #[.int .i64 m, .int .i64 k] w fun e w' => e = .returned (.int .i64 0) ∧ w = w' := by
  go_enter Tryz.func108, Tryz.ntmps108
  go_wp2_with (go_at_call 130; refine (isClass_no _ _ h).mono ?_; rintro e w' ⟨rfl, rfl⟩)
  go_ret
  exact ⟨rfl, rfl⟩
theorem class_yes (m k : Int) (w : World) (h0 : 0 ≤ k) (h1 : k < 3) : Calls Tryz.prog 108 #[.int .i64 m, .int .i64 k] w fun e w' => e = .returned (.int .i64 (cls m k)) ∧ w = w' := by
  obtain rfl | rfl | rfl : k = 0 ∨ k = 1 ∨ k = 2 := by omega
  all_goals
    go_enter Tryz.func108, Tryz.ntmps108
    go_wp2_with (first | (go_at_call 130; refine (isClass_yes _ _ (by omega) (by omega)).mono ?_; rintro e w' ⟨rfl, rfl⟩) | (go_at_call 131; refine (shift_any _ _ (by omega) (by omega)).mono ?_; rintro e w' ⟨rfl, rfl⟩))
    go_ret
    exact ⟨ret_int (by simp [and7, cls]), rfl⟩
theorem class_any (m k : Int) (w : World) : Calls Tryz.prog 108 #[.int .i64 m, .int .i64 k] w fun e w' => e = .returned (.int .i64 (cls m k)) ∧ w = w' := by
  by_cases h : 0 ≤ k ∧ k < 3
  · exact class_yes m k w h.1 h.2
  · have e : cls m k = 0 := by unfold cls; rw [if_neg (by omega), if_neg (by omega), if_neg (by omega)]
    rw [e]
    exact class_no m k w (by omega)

theorem wrap_in (n : Int) (h0 : -9223372036854775808 ≤ n) (h1 : n ≤ 9223372036854775807) : wrap64 n = n := by unfold wrap64; omega
theorem tmod_of (n b : Int) : (0 ≤ n ∧ n.tmod b = n % b) ∨ (n < 0 ∧ n.tmod b = -((-n) % b)) := by
  by_cases h : 0 ≤ n
  · exact .inl ⟨h, Int.tmod_eq_emod_of_nonneg h⟩
  · refine .inr ⟨by omega, ?_⟩
    have : n = -(-n) := by omega
    conv => lhs; rw [this]
    rw [Int.neg_tmod, Int.tmod_eq_emod_of_nonneg (by omega)]
theorem rest_neg (n b : Int) (hb : b = 8 ∨ b = 4096) (h : n.tmod b < 0) : wrap64 (n.tmod b + b) = n % b := by
  have := tmod_of n b
  unfold wrap64
  rcases hb with rfl | rfl
  · omega
  · omega
theorem rest_pos (n b : Int) (hb : b = 8 ∨ b = 4096) (h : 0 ≤ n.tmod b) : n.tmod b = n % b := by
  have := tmod_of n b
  rcases hb with rfl | rfl
  · omega
  · omega
end Go.Proofs.YtfopnfgfoicidaaGreat
namespace Go.Proofs.YtfopnfgfoicidaaGreat
open Go Go.RowKit
set_option maxRecDepth 100000

/-- A slice reads as a list of bools. -/
def BoolsR (w : World) (v : Value) (bs : List Bool) : Prop :=
  ∃ (A : Option Addr) (c : Nat), v = .slice A bs.length c ∧ ∀ (k : Nat) (b : Bool), bs[k]? = some b → ∃ ad, A = some ad ∧ w.cell? (ad.add k) = some (.bool b)
theorem has_at {α : Type} [BEq α] [LawfulBEq α] {l : List α} {k : Nat} {x : α} (h : l[k]? = some x) : l.contains x = true := by simpa using List.mem_of_getElem? h
theorem ghas_next {α : Type} [BEq α] [LawfulBEq α] {l : List α} {k : Nat} {x y : α} (h : l[k]? = some y) (hn : (l.take k).contains x = false) (hy : ¬ x = y) : (l.take (k + 1)).contains x = false := by
  rw [take_snoc' h, List.contains_append, hn]
  simpa using hy

theorem idxB (v : Value) (l : List Bool) (x : Bool) (w : World) (h : BoolsR w v l) (hn : l.length ≤ 1000000) :
    Calls Tryz.prog 149 #[v, .bool x] w fun e w' => ∃ i : Int, e = .returned (.int .i64 i) ∧ -1 ≤ i ∧ i ≤ 1000000 ∧ decide (0 ≤ i) = l.contains x ∧ w = w' := by
  obtain ⟨A, c, rfl, hc⟩ := h
  have HC := Lib.hid hc
  clear hc
  go_enter Tryz.func149, Tryz.ntmps149
  go_wp2
  go_loopg [8] l.length (fun g s8 wr => ∃ k : Nat, s8 = .int .i64 k ∧ k ≤ l.length ∧ g = l.length - k ∧ (l.take k).contains x = false ∧ w = wr)
  case atStart => exact ⟨0, rfl, Nat.zero_le _, rfl, rfl, rfl⟩
  case round =>
    obtain ⟨k, rfl, hk, rfl, hno, rfl⟩ := hrel
    have HNO := Lib.hid hno
    clear hno
    by_cases hlt : k < l.length
    · obtain ⟨y, hy⟩ : ∃ y, l[k]? = some y := ⟨_, List.getElem?_eq_getElem hlt⟩
      obtain ⟨ad, rfl, c0⟩ := HC.out k y hy
      have HY := Lib.hid hy
      clear hy
      by_cases hxy : x = y
      · subst hxy
        go_wp2
        go_ret
        exact ⟨_, rfl, by omega, by omega, by rw [has_at HY.out]; simp, rfl⟩
      · have hne : (x == y) = false := by simpa using hxy
        have HN := Lib.hid hxy
        clear hxy
        go_wp2
        go_roundg (l.length - (k + 1))
        case measure => omega
        case rel => exact ⟨k + 1, by go_num, by omega, rfl, ghas_next HY.out HNO.out HN.out, rfl⟩
    · have hke : k = l.length := by omega
      subst hke
      have HF := Lib.hid (show l.contains x = false by have := HNO.out; rwa [List.take_length] at this)
      go_wp2
      go_ret
      exact ⟨_, rfl, by omega, by omega, by rw [HF.out]; rfl, rfl⟩

theorem idxI (v : Value) (l : List Int) (x : Int) (w : World) (h : IntsR w v l) (hn : l.length ≤ 1000000) :
    Calls Tryz.prog 156 #[v, .int .i64 x] w fun e w' => ∃ i : Int, e = .returned (.int .i64 i) ∧ -1 ≤ i ∧ i ≤ 1000000 ∧ decide (0 ≤ i) = l.contains x ∧ w = w' := by
  obtain ⟨A, c, rfl, hc⟩ := h
  have HC := Lib.hid hc
  clear hc
  go_enter Tryz.func156, Tryz.ntmps156
  go_wp2
  go_loopg [8] l.length (fun g s8 wr => ∃ k : Nat, s8 = .int .i64 k ∧ k ≤ l.length ∧ g = l.length - k ∧ (l.take k).contains x = false ∧ w = wr)
  case atStart => exact ⟨0, rfl, Nat.zero_le _, rfl, rfl, rfl⟩
  case round =>
    obtain ⟨k, rfl, hk, rfl, hno, rfl⟩ := hrel
    have HNO := Lib.hid hno
    clear hno
    by_cases hlt : k < l.length
    · obtain ⟨y, hy⟩ : ∃ y, l[k]? = some y := ⟨_, List.getElem?_eq_getElem hlt⟩
      obtain ⟨ad, rfl, c0⟩ := HC.out k y hy
      have HY := Lib.hid hy
      clear hy
      by_cases hxy : x = y
      · subst hxy
        go_wp2
        go_ret
        exact ⟨_, rfl, by omega, by omega, by rw [has_at HY.out]; simp, rfl⟩
      · have hne : (x == y) = false := by simpa using hxy
        have HN := Lib.hid hxy
        clear hxy
        go_wp2
        go_roundg (l.length - (k + 1))
        case measure => omega
        case rel => exact ⟨k + 1, by go_num, by omega, rfl, ghas_next HY.out HNO.out HN.out, rfl⟩
    · have hke : k = l.length := by omega
      subst hke
      have HF := Lib.hid (show l.contains x = false by have := HNO.out; rwa [List.take_length] at this)
      go_wp2
      go_ret
      exact ⟨_, rfl, by omega, by omega, by rw [HF.out]; rfl, rfl⟩

theorem conB (v : Value) (l : List Bool) (x : Bool) (w : World) (h : BoolsR w v l) (hn : l.length ≤ 1000000) :
    Calls Tryz.prog 129 #[v, .bool x] w fun e w' => e = .returned (.bool (l.contains x)) ∧ w = w' := by
  have H := Lib.hid (idxB v l x w h hn)
  obtain ⟨R, hR⟩ : ∃ R, l.contains x = R := ⟨_, rfl⟩
  rw [hR] at H ⊢
  clear hR
  obtain ⟨A, c, rfl, -⟩ := h
  go_enter Tryz.func129, Tryz.ntmps129
  go_wp2_with fail
  refine H.out.mono ?_
  rintro e w' ⟨i, rfl, h0, h1, hi, rfl⟩
  by_cases hp : 0 ≤ i
  · have HI := Lib.hid hi
    clear hi
    go_wp2
    go_ret
    exact ⟨ret_bool (by first | exact HI.out | (rw [← HI.out]; simp [hp])), rfl⟩
  · have HI := Lib.hid hi
    clear hi
    go_wp2
    go_ret
    exact ⟨ret_bool (by first | exact HI.out | (rw [← HI.out]; simp [hp])), rfl⟩

theorem conI (v : Value) (l : List Int) (x : Int) (w : World) (h : IntsR w v l) (hn : l.length ≤ 1000000) :
    Calls Tryz.prog 153 #[v, .int .i64 x] w fun e w' => e = .returned (.bool (l.contains x)) ∧ w = w' := by
  have H := Lib.hid (idxI v l x w h hn)
  obtain ⟨R, hR⟩ : ∃ R, l.contains x = R := ⟨_, rfl⟩
  rw [hR] at H ⊢
  clear hR
  obtain ⟨A, c, rfl, -⟩ := h
  go_enter Tryz.func153, Tryz.ntmps153
  go_wp2_with fail
  refine H.out.mono ?_
  rintro e w' ⟨i, rfl, h0, h1, hi, rfl⟩
  by_cases hp : 0 ≤ i
  · have HI := Lib.hid hi
    clear hi
    go_wp2
    go_ret
    exact ⟨ret_bool (by first | exact HI.out | (rw [← HI.out]; simp [hp])), rfl⟩
  · have HI := Lib.hid hi
    clear hi
    go_wp2
    go_ret
    exact ⟨ret_bool (by first | exact HI.out | (rw [← HI.out]; simp [hp])), rfl⟩

theorem anyOf_any (v : Value) (l : List Bool) (w : World) (h : BoolsR w v l) (hn : l.length ≤ 1000000) :
    Calls Tryz.prog 106 #[v] w fun e w' => e = .returned (.bool (l.contains true)) ∧ w = w' := by
  have H := Lib.hid (conB v l true w h hn)
  obtain ⟨R, hR⟩ : ∃ R, l.contains true = R := ⟨_, rfl⟩
  rw [hR] at H ⊢
  clear hR
  obtain ⟨A, c, rfl, -⟩ := h
  go_enter Tryz.func106, Tryz.ntmps106
  go_wp2_with fail
  refine H.out.mono ?_
  rintro e w' ⟨rfl, rfl⟩
  go_wp2
  go_ret
  exact ⟨rfl, rfl⟩
end Go.Proofs.YtfopnfgfoicidaaGreat
namespace Go.Proofs.YtfopnfgfoicidaaGreat
open Go Go.RowKit
set_option maxRecDepth 100000

theorem isRoot_any (u g : Int) (A : Option Addr) (n c : Nat) (w : World) :
    Calls Tryz.prog 107 #[.agg #[.int .i64 u, .int .i64 g, .slice A n c]] w fun e w' => e = .returned (.bool (u == 0)) ∧ Below w.heap.size w w' := by
  go_enter Tryz.func107, Tryz.ntmps107
  go_wp2
  go_ret
  exact ⟨rfl, (Below.refl _ _).alloc (Nat.le_refl _) _⟩
theorem bools2 (W : World) (a b : Bool) : BoolsR (W.alloc (.cells #[.bool a, .bool b] 4)) (.slice (some ⟨W.heap.size, 0, none⟩) 2 2) [a, b] := by
  refine ⟨_, _, rfl, fun k x hk => ⟨_, rfl, ?_⟩⟩
  match k, hk with
  | 0, hk => simp at hk; subst hk; simp [Addr.add]
  | 1, hk => simp at hk; subst hk; simp [Addr.add]
theorem bools3 (W : World) (a b c : Bool) : BoolsR (W.alloc (.cells #[.bool a, .bool b, .bool c] 4)) (.slice (some ⟨W.heap.size, 0, none⟩) 3 3) [a, b, c] := by
  refine ⟨_, _, rfl, fun k x hk => ⟨_, rfl, ?_⟩⟩
  match k, hk with
  | 0, hk => simp at hk; subst hk; simp [Addr.add]
  | 1, hk => simp at hk; subst hk; simp [Addr.add]
  | 2, hk => simp at hk; subst hk; simp [Addr.add]
theorem bools4 (W : World) (a b c d : Bool) : BoolsR (W.alloc (.cells #[.bool a, .bool b, .bool c, .bool d] 4)) (.slice (some ⟨W.heap.size, 0, none⟩) 4 4) [a, b, c, d] := by
  refine ⟨_, _, rfl, fun k x hk => ⟨_, rfl, ?_⟩⟩
  match k, hk with
  | 0, hk => simp at hk; subst hk; simp [Addr.add]
  | 1, hk => simp at hk; subst hk; simp [Addr.add]
  | 2, hk => simp at hk; subst hk; simp [Addr.add]
  | 3, hk => simp at hk; subst hk; simp [Addr.add]
theorem anyOf2 (W : World) (a b : Bool) : Calls Tryz.prog 106 #[.slice (some ⟨W.heap.size, 0, none⟩) 2 2] (W.alloc (.cells #[.bool a, .bool b] 4)) fun e w' => e = .returned (.bool (a || b)) ∧ W.alloc (.cells #[.bool a, .bool b] 4) = w' :=
  (anyOf_any _ _ _ (bools2 W a b) (by simp)).mono fun _ _ h => ⟨h.1.trans (ret_bool (by cases a <;> cases b <;> rfl)), h.2⟩
theorem anyOf3 (W : World) (a b c : Bool) : Calls Tryz.prog 106 #[.slice (some ⟨W.heap.size, 0, none⟩) 3 3] (W.alloc (.cells #[.bool a, .bool b, .bool c] 4)) fun e w' => e = .returned (.bool (a || b || c)) ∧ W.alloc (.cells #[.bool a, .bool b, .bool c] 4) = w' :=
  (anyOf_any _ _ _ (bools3 W a b c) (by simp)).mono fun _ _ h => ⟨h.1.trans (ret_bool (by cases a <;> cases b <;> cases c <;> rfl)), h.2⟩
theorem anyOf4 (W : World) (a b c d : Bool) : Calls Tryz.prog 106 #[.slice (some ⟨W.heap.size, 0, none⟩) 4 4] (W.alloc (.cells #[.bool a, .bool b, .bool c, .bool d] 4)) fun e w' => e = .returned (.bool (a || b || c || d)) ∧ W.alloc (.cells #[.bool a, .bool b, .bool c, .bool d] 4) = w' :=
  (anyOf_any _ _ _ (bools4 W a b c d) (by simp)).mono fun _ _ h => ⟨h.1.trans (ret_bool (by cases a <;> cases b <;> cases c <;> cases d <;> rfl)), h.2⟩
theorem member_any (u g : Int) (A : Option Addr) (n c : Nat) (gs : List Int) (x : Int) (w : World) (h : IntsR w (.slice A n c) gs) (hn : gs.length ≤ 1000000) :
    Calls Tryz.prog 147 #[.agg #[.int .i64 u, .int .i64 g, .slice A n c], .int .i64 x] w fun e w' => e = .returned (.bool (x == g || gs.contains x)) ∧ Below w.heap.size w w' := by
  have HG := Lib.hid (fun w' hb => conI _ gs x w' (h.below hb) hn)
  clear h
  obtain ⟨R, hR⟩ : ∃ R, gs.contains x = R := ⟨_, rfl⟩
  rw [hR] at HG ⊢
  clear hR
  go_enter Tryz.func147, Tryz.ntmps147
  go_wp2_with fail
  have k1 : (w.alloc (.cells #[.int .i64 u, .int .i64 g, .slice A n c] 25)).cell? ⟨w.heap.size, 1, none⟩ = some (.int .i64 g) := by simp
  have k2 : (w.alloc (.cells #[.int .i64 u, .int .i64 g, .slice A n c] 25)).cell? ⟨w.heap.size, 2, none⟩ = some (.slice A n c) := by simp
  have hb : Below w.heap.size w (w.alloc (.cells #[.int .i64 u, .int .i64 g, .slice A n c] 25)) := (Below.refl _ _).alloc (Nat.le_refl _) _
  generalize w.alloc (.cells #[.int .i64 u, .int .i64 g, .slice A n c] 25) = W1 at k1 k2 hb ⊢
  have HB := Lib.hid hb
  clear hb
  go_still_tail 8, (by kernel_rfl)
  still_call ((HG.out _ (by exact HB.out.drew)).mono fun _ _ h => ⟨h.1, h.2.symm⟩)
  repeat still_step
  refine wpStill_nil ?_
  change wpList _ _ _ _ _ (World.drew _)
  have HB2 := Lib.hid HB.out.drew
  generalize W1.drew = W2 at HB2 ⊢
  go_wp2_with fail
  refine (anyOf2 _ _ _).mono ?_
  rintro e w2 ⟨rfl, rfl⟩
  go_wp2
  go_ret
  exact ⟨rfl, HB2.out.alloc HB2.out.size _⟩
theorem class_of (u g : Int) (A : Option Addr) (n c : Nat) (gs : List Int) (x y : Int) (w : World) (h : IntsR w (.slice A n c) gs) (hn : gs.length ≤ 1000000) :
    Calls Tryz.prog 125 #[.agg #[.int .i64 u, .int .i64 g, .slice A n c], .int .i64 x, .int .i64 y] w fun e w' => e = .returned (.int .i64 (if x = u then 0 else if (y == g || gs.contains y) = true then 1 else 2)) ∧ Below w.heap.size w w' := by
  have hb : Below w.heap.size w (w.alloc (.cells #[.int .i64 u, .int .i64 g, .slice A n c] 25)) := (Below.refl _ _).alloc (Nat.le_refl _) _
  have HM := Lib.hid (member_any u g A n c gs y _ (h.below hb) hn)
  have HB := Lib.hid hb
  clear h hb
  obtain ⟨R, hR⟩ : ∃ R, (y == g || gs.contains y) = R := ⟨_, rfl⟩
  rw [hR] at HM ⊢
  clear hR
  by_cases hx : x = u
  · subst hx
    rw [if_pos rfl]
    go_enter Tryz.func125, Tryz.ntmps125
    go_wp2
    go_ret
    exact ⟨rfl, HB.out⟩
  · rw [if_neg hx]
    have hx' : (x == u) = false := by simpa using hx
    clear hx
    cases R with
    | true =>
      go_enter Tryz.func125, Tryz.ntmps125
      go_wp2_with fail
      refine HM.out.mono ?_
      rintro e w2 ⟨rfl, hb2⟩
      have HB2 := Lib.hid hb2
      clear hb2
      go_wp2
      go_ret
      exact ⟨rfl, bt HB2.out HB.out⟩
    | false =>
      go_enter Tryz.func125, Tryz.ntmps125
      go_wp2_with fail
      refine HM.out.mono ?_
      rintro e w2 ⟨rfl, hb2⟩
      have HB2 := Lib.hid hb2
      clear hb2
      go_wp2
      go_ret
      exact ⟨rfl, bt HB2.out HB.out⟩
end Go.Proofs.YtfopnfgfoicidaaGreat
namespace Go.Proofs.YtfopnfgfoicidaaGreat
open Go Go.RowKit
set_option maxRecDepth 100000

/-- Which class counts. -/
def clsOf (u g : Int) (gs : List Int) (x y : Int) : Int := if x = u then 0 else if (y == g || gs.contains y) = true then 1 else 2
/-- A class lets what is wanted. -/
def lets (want b : Int) : Bool := bits .andNot .i64 (bits .and .i64 want 7) b == 0

theorem can_any (u g : Int) (A : Option Addr) (n c : Nat) (gs : List Int) (x y m want : Int) (w : World) (h : IntsR w (.slice A n c) gs) (hn : gs.length ≤ 1000000) :
    Calls Tryz.prog 98 #[.agg #[.int .i64 u, .int .i64 g, .slice A n c], .int .i64 x, .int .i64 y, .int .i64 m, .int .i64 want] w fun e w' => e = .returned (.bool (u == 0 || lets want (cls m (clsOf u g gs x y)))) ∧ Below w.heap.size w w' := by
  have HM := Lib.hid (fun w' hb => class_of u g A n c gs x y w' (h.below hb) hn)
  clear h
  unfold clsOf
  obtain ⟨R, hR⟩ : ∃ R, (if x = u then 0 else if (y == g || gs.contains y) = true then 1 else 2 : Int) = R := ⟨_, rfl⟩
  rw [hR] at HM ⊢
  clear hR
  unfold lets
  go_enter Tryz.func98, Tryz.ntmps98
  have HB := Lib.hid (ba w (.cells #[.int .i64 u, .int .i64 g, .slice A n c] 25))
  go_wp2_with fail
  refine (HM.out _ HB.out).mono ?_
  rintro e w2 ⟨rfl, hb2⟩
  have k0 : w2.cell? ⟨w.heap.size, 0, none⟩ = some (.int .i64 u) := bc hb2 (by simp)
  have k1 : w2.cell? ⟨w.heap.size, 1, none⟩ = some (.int .i64 g) := bc hb2 (by simp)
  have k2 : w2.cell? ⟨w.heap.size, 2, none⟩ = some (.slice A n c) := bc hb2 (by simp)
  have HB2 := Lib.hid (bt hb2 HB.out)
  clear hb2 HB
  go_wp2_with fail
  refine (class_any _ _ _).mono ?_
  rintro e w3 ⟨rfl, rfl⟩
  go_wp2_with fail
  refine (isRoot_any _ _ _ _ _ _).mono ?_
  rintro e w3 ⟨rfl, hb3⟩
  have HB3 := Lib.hid (bt hb3 HB2.out)
  clear hb3
  go_wp2_with fail
  refine (anyOf2 _ _ _).mono ?_
  rintro e w4 ⟨rfl, rfl⟩
  go_wp2
  go_ret
  exact ⟨rfl, HB3.out.alloc HB3.out.size _⟩

end Go.Proofs.YtfopnfgfoicidaaGreat
namespace Go.Proofs.YtfopnfgfoicidaaGreat
open Go Go.RowKit
set_option maxRecDepth 100000

/-- The mode whose class k has other bits. -/
def wit (m k b : Int) : Int := if k = 0 then m % 4096 - m / 64 % 8 * 64 + b % 8 * 64 else if k = 1 then m % 4096 - m / 8 % 8 * 8 + b % 8 * 8 else if k = 2 then m % 4096 - m % 8 + b % 8 else m % 4096

theorem wit0 (m b : Int) : bits .or .i64 (bits .andNot .i64 (bits .and .i64 m 4095) 448) (wrap64 (bits .and .i64 b 7 * 64)) = wit m 0 b := by
  rw [and4095, and7, (clear_own _ (by omega) (by omega)).1, wrap_in _ (by omega) (by omega), put_high _ _ (by omega) (by omega) (by omega) (by omega) (by omega)]
  simp [wit]
  omega
theorem wit1 (m b : Int) : bits .or .i64 (bits .andNot .i64 (bits .and .i64 m 4095) 56) (wrap64 (bits .and .i64 b 7 * 8)) = wit m 1 b := by
  rw [and4095, and7, (clear_own _ (by omega) (by omega)).2.1, wrap_in _ (by omega) (by omega), put_own _ _ (by omega) (by omega) (by omega) (by omega) (by omega)]
  simp [wit]
  omega
theorem wit2 (m b : Int) : bits .or .i64 (bits .andNot .i64 (bits .and .i64 m 4095) 7) (wrap64 (bits .and .i64 b 7)) = wit m 2 b := by
  rw [and4095, and7, (clear_own _ (by omega) (by omega)).2.2, wrap_in _ (by omega) (by omega), put_low _ _ (by omega) (by omega) (by omega) (by omega) (by omega)]
  simp [wit]
theorem rest_any (n b : Int) (w : World) (h0 : b = 8 ∨ b = 4096) : Calls Tryz.prog 118 #[.int .i64 n, .int .i64 b] w fun e w' => e = .returned (.int .i64 (n % b)) ∧ w = w' := by
  by_cases hn : n.tmod b < 0
  · rcases h0 with rfl | rfl
    all_goals
      go_enter Tryz.func118, Tryz.ntmps118
      go_wp2
      go_ret
      exact ⟨ret_int (rest_neg n _ (by omega) hn), rfl⟩
  · rcases h0 with rfl | rfl
    all_goals
      go_enter Tryz.func118, Tryz.ntmps118
      go_wp2
      go_ret
      exact ⟨ret_int (rest_pos n _ (by omega) hn), rfl⟩
theorem low_any (n : Int) (w : World) : Calls Tryz.prog 88 #[.int .i64 n] w fun e w' => e = .returned (.int .i64 (n % 4096)) ∧ w = w' := by
  go_enter Tryz.func88, Tryz.ntmps88
  go_wp2_with (go_at_call 118; refine (rest_any _ _ _ (by omega)).mono ?_; rintro e w' ⟨rfl, rfl⟩)
  go_ret
  exact ⟨rfl, rfl⟩
theorem rclass_any (m k : Int) (w : World) : Calls Tryz.prog 89 #[.int .i64 m, .int .i64 k] w fun e w' => e = .returned (.int .i64 (cls m k)) ∧ w = w' := by
  have hb0 : 0 ≤ m % 4096 := by omega
  have hb1 : m % 4096 ≤ 4095 := by omega
  by_cases k0 : k = 0
  · subst k0
    go_enter Tryz.func89, Tryz.ntmps89
    go_wp2_with (go_at_call 88; refine (low_any _ _).mono ?_; rintro e w' ⟨rfl, rfl⟩)
    go_ret
    exact ⟨ret_int (by simp [cls]; omega), rfl⟩
  by_cases k1 : k = 1
  · subst k1
    go_enter Tryz.func89, Tryz.ntmps89
    go_wp2_with (go_at_call 88; refine (low_any _ _).mono ?_; rintro e w' ⟨rfl, rfl⟩)
    go_ret
    exact ⟨ret_int (by simp [cls]; omega), rfl⟩
  by_cases k2 : k = 2
  · subst k2
    go_enter Tryz.func89, Tryz.ntmps89
    go_wp2_with (go_at_call 88; refine (low_any _ _).mono ?_; rintro e w' ⟨rfl, rfl⟩)
    go_ret
    exact ⟨ret_int (by simp [cls]), rfl⟩
  · have e : Hid (cls m k = 0) := Lib.hid (by unfold cls; rw [if_neg k0, if_neg k1, if_neg k2])
    go_enter Tryz.func89, Tryz.ntmps89
    go_wp2_with (go_at_call 88; refine (low_any _ _).mono ?_; rintro e w' ⟨rfl, rfl⟩)
    go_ret
    exact ⟨ret_int e.out.symm, rfl⟩
end Go.Proofs.YtfopnfgfoicidaaGreat
namespace Go.Proofs.YtfopnfgfoicidaaGreat
open Go Go.RowKit
set_option maxRecDepth 100000

theorem bcomm (x y : Int) : (x == y) = (y == x) := by rw [Bool.eq_iff_iff, beq_iff_eq, beq_iff_eq]; exact eq_comm
theorem has_snoc {l : List Int} {k : Nat} {x y : Int} (h : l[k]? = some y) : (l.take (k + 1)).contains x = ((l.take k).contains x || y == x) := by
  rw [take_snoc' h, List.contains_append, bcomm y x]
  simp only [List.contains_cons, List.contains_nil, Bool.or_false]
/-- What a slice of numbers is at its places. -/
theorem IntsR.at {w : World} {A : Option Addr} {n c : Nat} {gs : List Int} (h : IntsR w (.slice A n c) gs) : n = gs.length ∧ ∀ (k : Nat) (g : Int), gs[k]? = some g → ∃ ad, A = some ad ∧ w.cell? (ad.add k) = some (.int .i64 g) := by
  obtain ⟨A', c', hv, hc⟩ := h
  injection hv with hA hn hc'
  subst hA
  exact ⟨hn, hc⟩
set_option maxHeartbeats 1000000 in
theorem rmember_any (u g : Int) (A : Option Addr) (n c : Nat) (gs : List Int) (x : Int) (w : World) (h : IntsR w (.slice A n c) gs) (hn : gs.length ≤ 1000000) :
    Calls Tryz.prog 119 #[.agg #[.int .i64 u, .int .i64 g, .slice A n c], .int .i64 x] w fun e w' => e = .returned (.bool (x == g || gs.contains x)) ∧ Below w.heap.size w w' := by
  have hb : Below w.heap.size w (w.alloc (.cells #[.int .i64 u, .int .i64 g, .slice A n c] 37)) := ba _ _
  have HG := Lib.hid (h.below hb)
  have HB := Lib.hid hb
  clear hb
  obtain ⟨rfl, -⟩ := h.at
  clear h
  obtain ⟨R, hR⟩ : ∃ R, (x == g || gs.contains x) = R := ⟨_, rfl⟩
  rw [hR]
  have HR := Lib.hid hR
  clear hR
  go_enter Tryz.func119, Tryz.ntmps119
  go_wp2
  have k2 : (w.alloc (.cells #[.int .i64 u, .int .i64 g, .slice A gs.length c] 37)).cell? ⟨w.heap.size, 2, none⟩ = some (.slice A gs.length c) := by simp
  generalize w.alloc (.cells #[.int .i64 u, .int .i64 g, .slice A gs.length c] 37) = W at k2 HG HB ⊢
  go_loopg [5, 6] gs.length (fun gh s5 s6 wr => ∃ (k : Nat) (b : Bool), s6 = .int .i64 k ∧ s5 = .bool b ∧ k ≤ gs.length ∧ gh = gs.length - k ∧ b = (x == g || (gs.take k).contains x) ∧ W = wr)
  case atStart => exact ⟨0, g == x, rfl, rfl, Nat.zero_le _, rfl, by rw [bcomm]; simp, rfl⟩
  case round =>
    obtain ⟨k, b, rfl, rfl, hk, rfl, hno, rfl⟩ := hrel
    have HNO := Lib.hid hno
    clear hno
    by_cases hlt : k < gs.length
    · obtain ⟨y, hy⟩ : ∃ y, gs[k]? = some y := ⟨_, List.getElem?_eq_getElem hlt⟩
      obtain ⟨ad, rfl, c0⟩ := HG.out.at.2 k y hy
      have HY := Lib.hid hy
      clear hy
      cases b with
      | true =>
        go_wp2
        go_roundg (gs.length - (k + 1))
        case measure => omega
        case rel => exact ⟨k + 1, true, by go_num, rfl, by omega, rfl, by rw [has_snoc HY.out, ← Bool.or_assoc, ← HNO.out]; rfl, rfl⟩
      | false =>
        go_wp2
        go_roundg (gs.length - (k + 1))
        case measure => omega
        case rel => exact ⟨k + 1, y == x, by go_num, rfl, by omega, rfl, by rw [has_snoc HY.out, ← Bool.or_assoc, ← HNO.out]; rfl, rfl⟩
    · have hke : k = gs.length := by omega
      subst hke
      have HF := Lib.hid (show b = R by rw [HNO.out, ← HR.out, List.take_length])
      go_wp2
      go_ret
      exact ⟨ret_bool HF.out, HB.out⟩
theorem rclassOf_any (u g : Int) (A : Option Addr) (n c : Nat) (gs : List Int) (x y : Int) (w : World) (h : IntsR w (.slice A n c) gs) (hn : gs.length ≤ 1000000) :
    Calls Tryz.prog 90 #[.agg #[.int .i64 u, .int .i64 g, .slice A n c], .int .i64 x, .int .i64 y] w fun e w' => e = .returned (.int .i64 (clsOf u g gs x y)) ∧ Below w.heap.size w w' := by
  have hb : Below w.heap.size w (w.alloc (.cells #[.int .i64 u, .int .i64 g, .slice A n c] 37)) := ba _ _
  have HM := Lib.hid (rmember_any u g A n c gs y _ (h.below hb) hn)
  have HB := Lib.hid hb
  clear h hb
  unfold clsOf
  obtain ⟨R, hR⟩ : ∃ R, (y == g || gs.contains y) = R := ⟨_, rfl⟩
  rw [hR] at HM ⊢
  clear hR
  by_cases hx : x = u
  · subst hx
    rw [if_pos rfl]
    go_enter Tryz.func90, Tryz.ntmps90
    go_wp2
    go_ret
    exact ⟨rfl, HB.out⟩
  · rw [if_neg hx]
    have hx' : (u == x) = false := by rw [bcomm]; simpa using hx
    clear hx
    cases R with
    | true =>
      go_enter Tryz.func90, Tryz.ntmps90
      go_wp2_with fail
      refine HM.out.mono ?_
      rintro e w2 ⟨rfl, hb2⟩
      have HB2 := Lib.hid hb2
      clear hb2
      go_wp2
      go_ret
      exact ⟨rfl, bt HB2.out HB.out⟩
    | false =>
      go_enter Tryz.func90, Tryz.ntmps90
      go_wp2_with fail
      refine HM.out.mono ?_
      rintro e w2 ⟨rfl, hb2⟩
      have HB2 := Lib.hid hb2
      clear hb2
      go_wp2
      go_ret
      exact ⟨rfl, bt HB2.out HB.out⟩
/-- What is let, told by three bits. -/
def letsN (v b : Int) : Bool := (decide (v < 4) || decide (4 ≤ b)) && (v / 2 % 2 == 0 || b / 2 % 2 == 1) && (v % 2 == 0 || b % 2 == 1)
theorem lets_fin : ∀ v b : Fin 8, (bits .andNot .i64 ((v.val : Nat) : Int) ((b.val : Nat) : Int) == 0) = letsN ((v.val : Nat) : Int) ((b.val : Nat) : Int) := by decide +kernel
theorem lets_eq (want b : Int) (h0 : 0 ≤ b) (h1 : b ≤ 7) : lets want b = letsN (want % 8) b := by
  have h := lets_fin ⟨(want % 8).toNat, by omega⟩ ⟨b.toNat, by omega⟩
  simp only [show (((want % 8).toNat : Nat) : Int) = want % 8 by omega, show ((b.toNat : Nat) : Int) = b by omega] at h
  unfold lets
  rw [and7, h]
set_option maxHeartbeats 4000000 in
theorem rcan_any (u g : Int) (A : Option Addr) (n c : Nat) (gs : List Int) (x y m want : Int) (w : World) (h : IntsR w (.slice A n c) gs) (hn : gs.length ≤ 1000000) :
    Calls Tryz.prog 61 #[.agg #[.int .i64 u, .int .i64 g, .slice A n c], .int .i64 x, .int .i64 y, .int .i64 m, .int .i64 want] w fun e w' => e = .returned (.bool (u == 0 || lets want (cls m (clsOf u g gs x y)))) ∧ Below w.heap.size w w' := by
  have hb : Below w.heap.size w (w.alloc (.cells #[.int .i64 u, .int .i64 g, .slice A n c] 37)) := ba _ _
  have HM := Lib.hid (rclassOf_any u g A n c gs x y _ (h.below hb) hn)
  have HB := Lib.hid hb
  clear h hb
  obtain ⟨K, hK⟩ : ∃ K, clsOf u g gs x y = K := ⟨_, rfl⟩
  rw [hK] at HM ⊢
  clear hK
  have hc0 := (cls_bd m K).1
  have hc1 := (cls_bd m K).2
  rw [lets_eq want _ hc0 hc1]
  have HC := Lib.hid (fun w => rclass_any m K w)
  have HW := Lib.hid (fun w => rclass_any want 2 w)
  rw [show cls want 2 = want % 8 by simp [cls]] at HW
  have hv0 : 0 ≤ want % 8 := by omega
  have hv1 : want % 8 ≤ 7 := by omega
  generalize cls m K = b at HC hc0 hc1 ⊢
  generalize want % 8 = v at HW hv0 hv1 ⊢
  by_cases hu : u = 0
  · subst hu
    go_enter Tryz.func61, Tryz.ntmps61
    go_wp2
    go_ret
    exact ⟨rfl, HB.out⟩
  · have hu' : (u == 0) = false := by simpa using hu
    rw [hu', Bool.false_or]
    clear hu
    go_enter Tryz.func61, Tryz.ntmps61
    go_wp2_with fail
    refine HM.out.mono ?_
    rintro e w2 ⟨rfl, hb2⟩
    have HB2 := Lib.hid (bt hb2 HB.out)
    clear hb2
    go_wp2_with fail
    refine (HC.out _).mono ?_
    rintro e w3 ⟨rfl, rfl⟩
    go_wp2_with fail
    refine (HW.out _).mono ?_
    rintro e w3 ⟨rfl, rfl⟩
    clear HC HW HM
    obtain rfl | rfl | rfl | rfl | rfl | rfl | rfl | rfl : v = 0 ∨ v = 1 ∨ v = 2 ∨ v = 3 ∨ v = 4 ∨ v = 5 ∨ v = 6 ∨ v = 7 := by omega
    all_goals clear hv0 hv1
    all_goals obtain rfl | rfl | rfl | rfl | rfl | rfl | rfl | rfl : b = 0 ∨ b = 1 ∨ b = 2 ∨ b = 3 ∨ b = 4 ∨ b = 5 ∨ b = 6 ∨ b = 7 := by omega
    all_goals
      go_wp2
      go_ret
      exact ⟨rfl, HB2.out⟩
end Go.Proofs.YtfopnfgfoicidaaGreat
