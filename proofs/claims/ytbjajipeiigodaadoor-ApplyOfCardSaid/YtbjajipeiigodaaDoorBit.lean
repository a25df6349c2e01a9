/-
  The plain mathematics of what an act makes of a mode, bit by bit. No program stands in it, and no condition but that numbers are what acts that may be have.
-/
import Derived.Test.YtbjajipeiigodaaDoorMath
import Derived.Test.YtbjajipeiigodaaDoorNum
namespace Go.Proofs.YtbjajipeiigodaaDoor
open Go

/-- The number whose bits are told, below a bound. -/
def ofB (f : Nat → Bool) : Nat → Nat
  | 0 => 0
  | n + 1 => ofB f n + if f n = true then 2 ^ n else 0
theorem ofB_lt (f : Nat → Bool) (n : Nat) : ofB f n < 2 ^ n := by
  induction n with
  | zero => simp [ofB]
  | succ n ih =>
    rw [ofB, Nat.pow_succ]
    split <;> omega
theorem ofB_bit (f : Nat → Bool) (n i : Nat) : (ofB f n).testBit i = (decide (i < n) && f i) := by
  induction n with
  | zero => simp [ofB]
  | succ n ih =>
    rw [ofB]
    have hl := ofB_lt f n
    by_cases hf : f n = true
    · rw [if_pos hf, Nat.add_comm]
      by_cases hi : i = n
      · subst hi
        rw [Nat.testBit_two_pow_add_eq, ih]
        simp [hf]
      · by_cases hi2 : i < n
        · rw [Nat.testBit_two_pow_add_gt hi2, ih]
          simp [hi2, show i < n + 1 by omega]
        · have h1 : 2 ^ n + ofB f n < 2 ^ i := by
            have h2 : (2 : Nat) ^ (n + 1) ≤ 2 ^ i := Nat.pow_le_pow_right (by decide) (by omega)
            rw [Nat.pow_succ] at h2
            omega
          rw [Nat.testBit_lt_two_pow h1]
          simp [show ¬ i < n + 1 by omega]
    · have hf' : f n = false := by simpa using hf
      rw [if_neg hf, Nat.add_zero, ih]
      by_cases hi : i = n
      · subst hi
        simp [hf']
      · by_cases hi2 : i < n
        · simp [hi2, show i < n + 1 by omega]
        · simp [hi2, show ¬ i < n + 1 by omega]
theorem eq_ofB (x n : Nat) (f : Nat → Bool) (hx : x < 2 ^ n) (h : ∀ i, i < n → x.testBit i = f i) : x = ofB f n := by
  apply Nat.eq_of_testBit_eq
  intro i
  rw [ofB_bit]
  by_cases hi : i < n
  · simp [hi, h i hi]
  · have : (2 : Nat) ^ n ≤ 2 ^ i := Nat.pow_le_pow_right (by decide) (by omega)
    rw [Nat.testBit_lt_two_pow (by omega)]
    simp [hi]

/-- The class of a bit. -/
def clI (i : Nat) : Nat := if i < 3 then 2 else if i < 6 then 1 else if i < 9 then 0 else 14 - i
/-- Has a Who a bit? -/
def hasB (who um : Nat) (i : Nat) : Bool := if who = 0 then decide (8 < i) || !um.testBit i else who.testBit (clI i % 3)
/-- A class's three bits. -/
def clN (m k : Nat) : Nat := if k = 0 then m / 64 % 8 else if k = 1 then m / 8 % 8 else m % 8
/-- Has any class X? -/
def anyX (m : Nat) : Bool := m.testBit 0 || m.testBit 3 || m.testBit 6
/-- Is a bit one of an act's? -/
def inB (p c m : Nat) (dir : Bool) (i : Nat) : Bool :=
  if 0 < c then decide (i < 9) && (clN m (c - 1)).testBit (i % 3) else if i = 9 then p.testBit 5 else if 9 < i then p.testBit 4 else p.testBit (i % 3) || decide (i % 3 = 0) && p.testBit 3 && (dir || anyX m)
/-- A bit behind an act. -/
def actB (op : UInt8) (who um p c m : Nat) (dir : Bool) (i : Nat) : Bool :=
  if op = 43 then m.testBit i || (hasB who um i && inB p c m dir i)
  else if op = 45 then m.testBit i && !(hasB who um i && inB p c m dir i)
  else (hasB who um i && inB p c m dir i) || m.testBit i && !hasB who um i && decide (0 < who)
/-- What an act makes of a mode. -/
def actN (op : UInt8) (who um p c m : Nat) (dir : Bool) : Nat := ofB (actB op who um p c m dir) 12
theorem actN_lt (op : UInt8) (who um p c m : Nat) (dir : Bool) : actN op who um p c m dir < 4096 := ofB_lt _ 12

/-- Three bits in each class. -/
def all3 (b : Nat) : Nat := b * 73
theorem all3_bit : ∀ b : Fin 8, ∀ i : Fin 12, (all3 b.val).testBit i.val = (decide (i.val < 9) && b.val.testBit (i.val % 3)) := by decide +kernel
/-- What a Who of a number has. -/
def whoN (who : Nat) : Nat := if who = 0 then 4095 else (if who.testBit 0 then 2496 else 0) + (if who.testBit 1 then 1080 else 0) + (if who.testBit 2 then 519 else 0)
theorem whoN_bit : ∀ who : Fin 8, ∀ i : Fin 12, (whoN who.val).testBit i.val = (decide (who.val = 0) || who.val.testBit (clI i.val % 3)) := by decide +kernel
/-- The bits of Perms. -/
def perN (p : Nat) (x : Bool) : Nat :=
  (((((if p.testBit 2 then 292 else 0) ||| (if p.testBit 1 then 146 else 0)) ||| (if p.testBit 0 then 73 else 0)) ||| (if x && p.testBit 3 then 73 else 0)) ||| (if p.testBit 4 then 3072 else 0)) ||| (if p.testBit 5 then 512 else 0)
theorem perN_bit : ∀ p : Fin 64, ∀ x : Bool, ∀ i : Fin 12, (perN p.val x).testBit i.val = (if i.val = 9 then p.val.testBit 5 else if 9 < i.val then p.val.testBit 4 else p.val.testBit (i.val % 3) || decide (i.val % 3 = 0) && p.val.testBit 3 && x) := by decide +kernel
theorem perN_lt : ∀ p : Fin 64, ∀ x : Bool, perN p.val x < 4096 := by decide +kernel
theorem whoN_lt : ∀ who : Fin 8, whoN who.val < 4096 := by decide +kernel

/-- The bits of an act, as the program gathers them. -/
def bitN (p c m : Nat) (dir : Bool) : Nat := if 0 < c then all3 (clN m (c - 1)) else perN p (dir || anyX m)
theorem clN_lt (m k : Nat) : clN m k < 8 := by unfold clN; repeat' split
                                               all_goals omega
theorem bitN_bit (p c m : Nat) (dir : Bool) (i : Nat) (hp : p < 64) (hi : i < 12) : (bitN p c m dir).testBit i = inB p c m dir i := by
  unfold bitN inB
  split
  · exact all3_bit ⟨clN m (c - 1), clN_lt _ _⟩ ⟨i, hi⟩
  · exact perN_bit ⟨p, hp⟩ _ ⟨i, hi⟩
theorem bitN_lt (p c m : Nat) (dir : Bool) (hp : p < 64) : bitN p c m dir < 4096 := by
  unfold bitN
  split
  · have := clN_lt m (c - 1)
    unfold all3
    omega
  · exact perN_lt ⟨p, hp⟩ _
/-- What a Who has, under a umask. -/
def hasN (who um : Nat) : Nat := if who = 0 then 4095 ^^^ (um % 512) else whoN who
theorem low_bit (m j i : Nat) : (m % 2 ^ j).testBit i = (decide (i < j) && m.testBit i) := Nat.testBit_mod_two_pow m j i
theorem ones_bit (i : Nat) : (4095 : Nat).testBit i = decide (i < 12) := by
  rw [show (4095 : Nat) = 2 ^ 12 - 1 from rfl, Nat.testBit_two_pow_sub_one]
theorem hasN_bit (who um i : Nat) (hw : who < 8) (hi : i < 12) : (hasN who um).testBit i = hasB who um i := by
  unfold hasN hasB
  split
  · rw [Nat.testBit_xor, ones_bit, show (512 : Nat) = 2 ^ 9 from rfl, low_bit]
    by_cases h : i < 9
    · simp [hi, h, show ¬ 8 < i by omega]
    · simp [hi, h, show 8 < i by omega]
  · rename_i h
    rw [show whoN who = whoN (⟨who, hw⟩ : Fin 8).val from rfl, whoN_bit ⟨who, hw⟩ ⟨i, hi⟩]
    simp [h]
theorem hasN_lt (who um : Nat) (hw : who < 8) : hasN who um < 4096 := by
  unfold hasN
  split
  · exact Nat.xor_lt_two_pow (n := 12) (by decide) (by omega)
  · exact whoN_lt ⟨who, hw⟩
/-- The bits of a number that another one lacks. -/
def clearN (a b : Nat) : Nat := ofB (fun i => a.testBit i && !b.testBit i) 12
theorem act_plus (who um p c m : Nat) (dir : Bool) (hw : who < 8) (hp : p < 64) (hm : m < 4096) : m ||| (bitN p c m dir &&& hasN who um) = actN 43 who um p c m dir := by
  apply eq_ofB _ 12
  · exact Nat.or_lt_two_pow (n := 12) hm (Nat.and_lt_two_pow _ (hasN_lt who um hw))
  · intro i hi
    rw [Nat.testBit_or, Nat.testBit_and, bitN_bit p c m dir i hp hi, hasN_bit who um i hw hi, actB, if_pos rfl, Bool.and_comm (inB _ _ _ _ _)]
theorem act_minus (who um p c m : Nat) (dir : Bool) (hw : who < 8) (hp : p < 64) : clearN m (bitN p c m dir &&& hasN who um) = actN 45 who um p c m dir := by
  apply eq_ofB _ 12
  · exact ofB_lt _ 12
  · intro i hi
    rw [clearN, ofB_bit, Nat.testBit_and, bitN_bit p c m dir i hp hi, hasN_bit who um i hw hi, actB, if_neg (by decide), if_pos rfl, Bool.and_comm (inB _ _ _ _ _)]
    simp [hi]
theorem act_equal (who um p c m : Nat) (dir : Bool) (hw : who < 8) (hp : p < 64) : clearN m (whoN who) ||| (bitN p c m dir &&& hasN who um) = actN 61 who um p c m dir := by
  apply eq_ofB _ 12
  · exact Nat.or_lt_two_pow (n := 12) (ofB_lt _ 12) (Nat.and_lt_two_pow _ (hasN_lt who um hw))
  · intro i hi
    rw [Nat.testBit_or, clearN, ofB_bit, Nat.testBit_and, bitN_bit p c m dir i hp hi, hasN_bit who um i hw hi, actB, if_neg (by decide), if_neg (by decide), Bool.and_comm (inB _ _ _ _ _)]
    rw [show whoN who = whoN (⟨who, hw⟩ : Fin 8).val from rfl, whoN_bit ⟨who, hw⟩ ⟨i, hi⟩]
    simp only [hi, decide_true, Bool.true_and]
    by_cases h0 : who = 0
    · simp [h0]
    · have : hasB who um i = who.testBit (clI i % 3) := by rw [hasB, if_neg h0]
      rw [this]
      simp [h0, show 0 < who by omega]
      rw [Bool.or_comm]

/-- How the machine's operations on small numbers are these. -/
theorem or_nat (a b : Nat) (ha : a < 4096) (hb : b < 4096) : bits .or .i64 (a : Int) (b : Int) = ((a ||| b : Nat) : Int) :=
  (bits_nat .i64 62 (by decide) wraps_i64 a b (by omega) (by omega)).2
theorem and_nat (a b : Nat) (ha : a < 4096) (hb : b < 4096) : bits .and .i64 (a : Int) (b : Int) = ((a &&& b : Nat) : Int) :=
  (bits_nat .i64 62 (by decide) wraps_i64 a b (by omega) (by omega)).1
theorem andNot_nat (a b : Nat) (ha : a < 4096) : bits .andNot .i64 (a : Int) (b : Int) = ((clearN a b : Nat) : Int) := by
  have hx : (BitVec.ofInt 64 (a : Int) &&& ~~~ BitVec.ofInt 64 (b : Int)).toNat = clearN a b := by
    apply eq_ofB _ 12
    · have : (BitVec.ofInt 64 (a : Int) &&& ~~~ BitVec.ofInt 64 (b : Int)).toNat ≤ (BitVec.ofInt 64 (a : Int)).toNat := by
        rw [BitVec.toNat_and]; exact Nat.and_le_left
      have h2 : (BitVec.ofInt 64 (a : Int)).toNat = a := by simp; omega
      omega
    · intro i hi
      have h1 : (BitVec.ofInt 64 (a : Int) &&& ~~~ BitVec.ofInt 64 (b : Int)).toNat.testBit i = (BitVec.ofInt 64 (a : Int) &&& ~~~ BitVec.ofInt 64 (b : Int)).getLsbD i := rfl
      rw [h1, BitVec.getLsbD_and, BitVec.getLsbD_not, BitVec.ofInt_natCast, BitVec.ofInt_natCast, BitVec.getLsbD_ofNat, BitVec.getLsbD_ofNat]
      simp [show i < 64 by omega]
  show IntKind.i64.wrap (((BitVec.ofInt 64 (a : Int) &&& ~~~ BitVec.ofInt 64 (b : Int)).toNat : Nat) : Int) = _
  rw [hx]
  exact wraps_i64 _ (by omega) (by have := ofB_lt (fun i => a.testBit i && !b.testBit i) 12; unfold clearN; omega)
end Go.Proofs.YtbjajipeiigodaaDoor
