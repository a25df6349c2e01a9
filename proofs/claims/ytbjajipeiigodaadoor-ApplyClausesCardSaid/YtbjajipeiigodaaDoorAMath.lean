/-
  Plain mathematics of one act: what stays, what is made twice, what is copied; and the memory of a list of one clause of one act.
-/
import Derived.Test.YtbjajipeiigodaaDoorAOf
namespace Go.Proofs.YtbjajipeiigodaaDoor
open Go Go.RowKit

theorem actN_bit (op : UInt8) (who um p c m : Nat) (dir : Bool) (i : Nat) (hi : i < 12) : (actN op who um p c m dir).testBit i = actB op who um p c m dir i := by
  rw [actN, ofB_bit]; simp [hi]
theorem high_bit {x i : Nat} (hx : x < 4096) (hi : ¬ i < 12) : x.testBit i = false := by
  have : (2 : Nat) ^ 12 ≤ 2 ^ i := Nat.pow_le_pow_right (by decide) (by omega)
  exact Nat.testBit_lt_two_pow (by omega)
theorem sgR_of {op : UInt8} (ho : op = 43 ∨ op = 45 ∨ op = 61) : sgR (co op) = true := by rcases ho with rfl | rfl | rfl <;> rfl
theorem applyM_one (op : UInt8) (who p c m : Nat) (dir : Bool) (u : Int) (ho : op = 43 ∨ op = 45 ∨ op = 61) (hw : who < 8) (hp : p < 64) (hc : c ≤ 3) (hpc : p = 0 ∨ c = 0) (hm : m < 4096) :
    applyM [⟨(who : Int), [⟨op, (p : Int), (c : Int)⟩]⟩] (m : Int) dir u = (actN op who (u % 4096).toNat p c m dir : Nat) := by
  have hr : rightC [⟨(who : Int), [⟨op, (p : Int), (c : Int)⟩]⟩] = true := by
    simp [rightC, clOk, ract, sgR_of ho]
    omega
  rw [applyM, if_pos hr]
  have e : ((m : Int) % 4096).toNat = m := by omega
  rw [e]
  simp [foldM, cStep, aStep]
/-- Where a class's bits begin. -/
def sh (k : Nat) : Nat := if k = 0 then 6 else if k = 1 then 3 else 0
theorem clN_bit (x k j : Nat) : (clN x k).testBit j = (decide (j < 3) && x.testBit (sh k + j)) := by
  have h : clN x k = x / 2 ^ sh k % 2 ^ 3 := by
    unfold clN sh
    split
    · rfl
    · split
      · rfl
      · simp
  rw [h, Nat.testBit_mod_two_pow, Nat.testBit_div_two_pow, Nat.add_comm]
theorem clN_eq {x y k l : Nat} (h : ∀ j, j < 3 → x.testBit (sh k + j) = y.testBit (sh l + j)) : clN x k = clN y l := by
  apply Nat.eq_of_testBit_eq
  intro j
  rw [clN_bit, clN_bit]
  by_cases hj : j < 3
  · rw [h j hj]
  · simp [hj]
theorem sh_class : ∀ k : Fin 3, ∀ j : Fin 3, clI (sh k.val + j.val) % 3 = k.val ∧ (sh k.val + j.val) % 3 = j.val ∧ sh k.val + j.val < 9 := by decide
theorem not_has {who k : Nat} (hw : who ≠ 0) (hk : k < 3) (hn : who.testBit k = false) (um j : Nat) (hj : j < 3) : hasB who um (sh k + j) = false := by
  have h := sh_class ⟨k, hk⟩ ⟨j, hj⟩
  simp only at h
  rw [hasB, if_neg hw, h.1, hn]
/-- Bits of classes that a Who above 0 doesn't have stay. -/
theorem stays (op : UInt8) (who um p c m : Nat) (dir : Bool) (k : Nat) (hw : who ≠ 0) (hk : k < 3) (hn : who.testBit k = false) : clN (actN op who um p c m dir) k = clN m k := by
  apply clN_eq
  intro j hj
  have h := sh_class ⟨k, hk⟩ ⟨j, hj⟩
  simp only at h
  rw [actN_bit _ _ _ _ _ _ _ _ (by omega), actB, not_has hw hk hn um j hj]
  simp [show 0 < who by omega]
theorem plus_keeps (who um p c m : Nat) (dir : Bool) (hm : m < 4096) : actN 43 who um p c m dir ||| m = actN 43 who um p c m dir := by
  apply Nat.eq_of_testBit_eq
  intro i
  rw [Nat.testBit_or]
  by_cases hi : i < 12
  · rw [actN_bit _ _ _ _ _ _ _ _ hi, actB, if_pos rfl]
    cases m.testBit i <;> simp
  · rw [high_bit hm hi]; simp
theorem minus_wins (who um p c m : Nat) (dir : Bool) : actN 45 who um p c m dir ||| m = m := by
  apply Nat.eq_of_testBit_eq
  intro i
  rw [Nat.testBit_or]
  by_cases hi : i < 12
  · rw [actN_bit _ _ _ _ _ _ _ _ hi, actB, if_neg (by decide), if_pos rfl]
    cases m.testBit i <;> simp
  · rw [high_bit (actN_lt ..) hi]; simp
/-- Without X and without a Copy the bits of an act don't hang on the mode. -/
theorem in_same (p m m' : Nat) (dir : Bool) (hp : p.testBit 3 = false) (i : Nat) : inB p 0 m dir i = inB p 0 m' dir i := by
  simp [inB, hp]
theorem twice {op op' : UInt8} (who um p m : Nat) (dir : Bool) (hp : p.testBit 3 = false) (h : (op = op' ∧ (op = 43 ∨ op = 45 ∨ op = 61)) ∨ (op = 45 ∧ op' = 43) ∨ (op = 43 ∧ op' = 45) ∨ (op = 61 ∧ op' = 43)) :
    actN op who um p 0 (actN op' who um p 0 m dir) dir = actN op who um p 0 m dir := by
  apply Nat.eq_of_testBit_eq
  intro i
  by_cases hi : i < 12
  · rw [actN_bit _ _ _ _ _ _ _ _ hi, actN_bit _ _ _ _ _ _ _ _ hi]
    have e := in_same p (actN op' who um p 0 m dir) m dir hp i
    have e2 := actN_bit op' who um p 0 m dir i hi
    unfold actB at e2 ⊢
    rw [e, e2]
    rcases h with ⟨rfl, rfl | rfl | rfl⟩ | ⟨rfl, rfl⟩ | ⟨rfl, rfl⟩ | ⟨rfl, rfl⟩ <;> cases m.testBit i <;> cases hasB who um i <;> cases inB p 0 m dir i <;> simp <;> omega
  · rw [high_bit (actN_lt ..) hi, high_bit (actN_lt ..) hi]
theorem two_pow_bit : ∀ k : Fin 3, ∀ j : Fin 3, (2 ^ k.val).testBit j.val = decide (k.val = j.val) := by decide
/-- With a copy, and equals. -/
theorem copies (um m k j : Nat) (dir : Bool) (hk : k < 3) : clN (actN 61 (2 ^ k) um 0 (j + 1) m dir) k = clN m j := by
  apply Nat.eq_of_testBit_eq
  intro b
  rw [clN_bit]
  by_cases hb : b < 3
  · have h := sh_class ⟨k, hk⟩ ⟨b, hb⟩
    simp only at h
    have h2 := two_pow_bit ⟨k, hk⟩ ⟨k, hk⟩
    simp only at h2
    have h0 : 2 ^ k ≠ 0 := Nat.pos_iff_ne_zero.1 (Nat.two_pow_pos k)
    rw [actN_bit _ _ _ _ _ _ _ _ (by omega), actB, if_neg (by decide), if_neg (by decide), hasB, if_neg h0, h.1, h2, inB, if_pos (by omega), h.2.1]
    simp [hb, h.2.2]
  · rw [clN_bit]; simp [hb]
theorem copies_other (um m k j i : Nat) (dir : Bool) (hk : k < 3) (hi : i < 3) (hne : i ≠ k) : clN (actN 61 (2 ^ k) um 0 (j + 1) m dir) i = clN m i := by
  have h2 := two_pow_bit ⟨k, hk⟩ ⟨i, hi⟩
  simp only at h2
  exact stays 61 (2 ^ k) um 0 (j + 1) m dir i (Nat.pos_iff_ne_zero.1 (Nat.two_pow_pos k)) hi (by rw [h2]; simp; omega)
theorem top_class : ∀ k : Fin 3, clI (11 - k.val) % 3 = k.val := by decide
theorem copies_top (um m k j : Nat) (dir : Bool) (hk : k < 3) : (actN 61 (2 ^ k) um 0 (j + 1) m dir).testBit (11 - k) = false := by
  have h := top_class ⟨k, hk⟩
  have h2 := two_pow_bit ⟨k, hk⟩ ⟨k, hk⟩
  simp only at h h2
  have h0 : 2 ^ k ≠ 0 := Nat.pos_iff_ne_zero.1 (Nat.two_pow_pos k)
  rw [actN_bit _ _ _ _ _ _ _ _ (by omega), actB, if_neg (by decide), if_neg (by decide), hasB, if_neg h0, h, h2, inB, if_pos (by omega)]
  simp [show ¬ 11 - k < 9 by omega]
theorem copies_top_other (um m k j i : Nat) (dir : Bool) (hk : k < 3) (hi : i < 3) (hne : i ≠ k) : (actN 61 (2 ^ k) um 0 (j + 1) m dir).testBit (11 - i) = m.testBit (11 - i) := by
  have h := top_class ⟨i, hi⟩
  have h2 := two_pow_bit ⟨k, hk⟩ ⟨i, hi⟩
  simp only at h h2
  have h0 : 2 ^ k ≠ 0 := Nat.pos_iff_ne_zero.1 (Nat.two_pow_pos k)
  rw [actN_bit _ _ _ _ _ _ _ _ (by omega), actB, if_neg (by decide), if_neg (by decide), hasB, if_neg h0, h, h2]
  simp [show ¬ k = i by omega, Nat.two_pow_pos]

/-- A list of one clause of one act, as a literal lays it. -/
theorem one_cls (w : World) (op : UInt8) (who p c : Int) : ClsR ((w.alloc (.cells #[.int .u8 (co op), .int .i64 p, .int .i64 c] 60)).alloc (.cells #[.int .i64 who, .slice (some ⟨w.heap.size, 0, none⟩) 1 1] 34)) (.slice (some ⟨w.heap.size + 1, 0, none⟩) 1 1) [⟨who, [⟨op, p, c⟩]⟩] := by
  have e : (w.alloc (.cells #[.int .u8 (co op), .int .i64 p, .int .i64 c] 60)).heap.size = w.heap.size + 1 := by simp
  have hA : Blk (w.alloc (.cells #[.int .u8 (co op), .int .i64 p, .int .i64 c] 60)) w.heap.size 60 #[.int .u8 (co op), .int .i64 p, .int .i64 c] := Blk.new _ _ _
  have hA2 := hA.alloc (.cells #[.int .i64 who, .slice (some ⟨w.heap.size, 0, none⟩) 1 1] 34)
  have hC := Blk.new (w.alloc (.cells #[.int .u8 (co op), .int .i64 p, .int .i64 c] 60)) 34 #[.int .i64 who, .slice (some ⟨w.heap.size, 0, none⟩) 1 1]
  rw [e] at hC
  refine ⟨_, _, rfl, fun k x hx => ?_⟩
  match k with
  | 0 =>
    simp only [List.getElem?_cons_zero, Option.some.injEq] at hx
    subst hx
    refine ⟨⟨w.heap.size + 1, 0, none⟩, .slice (some ⟨w.heap.size, 0, none⟩) 1 1, rfl, ?_, ?_, ?_⟩
    · rw [Nat.zero_mul, show Addr.add ⟨w.heap.size + 1, 0, none⟩ 0 = ⟨w.heap.size + 1, 0, none⟩ from rfl, hC.cell]; rfl
    · rw [Nat.zero_mul, show Addr.add ⟨w.heap.size + 1, 0, none⟩ 0 = ⟨w.heap.size + 1, 0, none⟩ from rfl, hC.cell]; rfl
    · refine ⟨_, _, rfl, fun k x hx => ?_⟩
      match k with
      | 0 =>
        simp only [List.getElem?_cons_zero, Option.some.injEq] at hx
        subst hx
        refine ⟨_, rfl, ?_, ?_, ?_⟩
        · rw [Nat.zero_mul, show Addr.add ⟨w.heap.size, 0, none⟩ 0 = ⟨w.heap.size, 0, none⟩ from rfl, hA2.cell]; rfl
        · rw [Nat.zero_mul, show Addr.add ⟨w.heap.size, 0, none⟩ 0 = ⟨w.heap.size, 0, none⟩ from rfl, hA2.cell]; rfl
        · rw [Nat.zero_mul, show Addr.add ⟨w.heap.size, 0, none⟩ 0 = ⟨w.heap.size, 0, none⟩ from rfl, hA2.cell]; rfl
      | k + 1 => simp at hx
  | k + 1 => simp at hx
end Go.Proofs.YtbjajipeiigodaaDoor
