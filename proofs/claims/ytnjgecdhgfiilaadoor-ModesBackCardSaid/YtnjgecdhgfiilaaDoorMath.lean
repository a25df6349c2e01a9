/-
  What is shown is read as it was: the kind and the mode of a text of ten signs, plain facts on bytes and bits. No condition but the ranges of a kind and a mode.
-/
import Derived.Test.YtnjgecdhgfiilaaDoorRef
namespace Go.Proofs.YtnjgecdhgfiilaaDoor
open Go Go.RowKit

theorem rc0 : ∀ b : Fin 8, ∀ o : Bool, rcl 0 (rB b.val) (wB b.val) (xB b.val o 115 83) = (if o then 2048 else 0) + (b.val : Int) * 64 := by decide +kernel
theorem rc1 : ∀ b : Fin 8, ∀ o : Bool, rcl 1 (rB b.val) (wB b.val) (xB b.val o 115 83) = (if o then 1024 else 0) + (b.val : Int) * 8 := by decide +kernel
theorem rc2 : ∀ b : Fin 8, ∀ o : Bool, rcl 2 (rB b.val) (wB b.val) (xB b.val o 116 84) = (if o then 512 else 0) + (b.val : Int) := by decide +kernel
theorem or3_at : ∀ a b c : Fin 8, ∀ o p q : Bool, bits .or .i64 (bits .or .i64 (bits .or .i64 0 ((if o then 2048 else 0) + (a.val : Int) * 64)) ((if p then 1024 else 0) + (b.val : Int) * 8)) ((if q then 512 else 0) + (c.val : Int)) = ((if o then 2048 else 0) + (a.val : Int) * 64) + ((if p then 1024 else 0) + (b.val : Int) * 8) + ((if q then 512 else 0) + (c.val : Int)) := by decide +kernel
theorem or3 (a b c : Int) (o p q : Bool) (a0 : 0 ≤ a) (a1 : a ≤ 7) (b0 : 0 ≤ b) (b1 : b ≤ 7) (c0 : 0 ≤ c) (c1 : c ≤ 7) : bits .or .i64 (bits .or .i64 (bits .or .i64 0 ((if o then 2048 else 0) + a * 64)) ((if p then 1024 else 0) + b * 8)) ((if q then 512 else 0) + c) = ((if o then 2048 else 0) + a * 64) + ((if p then 1024 else 0) + b * 8) + ((if q then 512 else 0) + c) := by
  have h := or3_at ⟨a.toNat, by omega⟩ ⟨b.toNat, by omega⟩ ⟨c.toNat, by omega⟩ o p q
  simp only [Int.toNat_of_nonneg a0, Int.toNat_of_nonneg b0, Int.toNat_of_nonneg c0] at h
  exact h
theorem rc0' (b : Int) (o : Bool) (h0 : 0 ≤ b) (h1 : b ≤ 7) : rcl 0 (rB b) (wB b) (xB b o 115 83) = (if o then 2048 else 0) + b * 64 := by
  have h := rc0 ⟨b.toNat, by omega⟩ o
  simp only [Int.toNat_of_nonneg h0] at h
  exact h
theorem rc1' (b : Int) (o : Bool) (h0 : 0 ≤ b) (h1 : b ≤ 7) : rcl 1 (rB b) (wB b) (xB b o 115 83) = (if o then 1024 else 0) + b * 8 := by
  have h := rc1 ⟨b.toNat, by omega⟩ o
  simp only [Int.toNat_of_nonneg h0] at h
  exact h
theorem rc2' (b : Int) (o : Bool) (h0 : 0 ≤ b) (h1 : b ≤ 7) : rcl 2 (rB b) (wB b) (xB b o 116 84) = (if o then 512 else 0) + b := by
  have h := rc2 ⟨b.toNat, by omega⟩ o
  simp only [Int.toNat_of_nonneg h0] at h
  exact h
theorem own_if (m k c : Int) : (if (own m k == 1) = true then c else 0) = own m k * c := by
  rcases own_bd m k with h | h <;> simp [h]
/-- The mode of what is shown. -/
theorem rdm_back (m : Int) (h0 : 0 ≤ m) (h1 : m ≤ 4095) : rdm (rB (cls m 0)) (wB (cls m 0)) (xB (cls m 0) (own m 0 == 1) 115 83) (rB (cls m 1)) (wB (cls m 1)) (xB (cls m 1) (own m 1 == 1) 115 83) (rB (cls m 2)) (wB (cls m 2)) (xB (cls m 2) (own m 2 == 1) 116 84) = m := by
  have d0 := cls_bd m 0
  have d1 := cls_bd m 1
  have d2 := cls_bd m 2
  rw [rdm, rc0' _ _ d0.1 d0.2, rc1' _ _ d1.1 d1.2, rc2' _ _ d2.1 d2.2, or3 _ _ _ _ _ _ d0.1 d0.2 d1.1 d1.2 d2.1 d2.2, own_if, own_if, own_if]
  simp [own, cls]
  omega
theorem rdk_back (k : Int) (h0 : 0 ≤ k) (h1 : k ≤ 3) : rdk (kB k) = k := by
  obtain rfl | rfl | rfl | rfl : k = 0 ∨ k = 1 ∨ k = 2 ∨ k = 3 := by omega
  all_goals decide +kernel

/-- A kind that is read is one of four. -/
theorem rdk_bd (c : UInt8) : rdk c = -1 ∨ (0 ≤ rdk c ∧ rdk c ≤ 3) := by
  have := ix_four [63, 45, 100, 108] rfl c
  unfold rdk
  omega
/-- A class's bits that are read. -/
theorem rcl_form (k : Int) (hk : k = 0 ∨ k = 1 ∨ k = 2) (a b c : UInt8) : ∃ (o : Bool) (x : Int), 0 ≤ x ∧ x ≤ 7 ∧ rcl k a b c = (if o then (if k = 0 then 2048 else if k = 1 then 1024 else 512) else 0) + x * (if k = 0 then 64 else if k = 1 then 8 else 1) := by
  have hj : ix k c = -1 ∨ ix k c = 0 ∨ ix k c = 1 ∨ ix k c = 2 ∨ ix k c = 3 := by
    unfold ix
    split
    · exact ix_four _ rfl c
    · exact ix_four _ rfl c
  rcases hk with rfl | rfl | rfl <;> by_cases ha : a = 114 <;> by_cases hb : b = 119 <;> rcases hj with hj | hj | hj | hj | hj
  all_goals simp only [rcl, ha, hb, hj]
  all_goals first | exact ⟨false, 0, by decide⟩ | exact ⟨false, 1, by decide⟩ | exact ⟨false, 2, by decide⟩ | exact ⟨false, 3, by decide⟩ | exact ⟨false, 4, by decide⟩ | exact ⟨false, 5, by decide⟩ | exact ⟨false, 6, by decide⟩ | exact ⟨false, 7, by decide⟩ | exact ⟨true, 0, by decide⟩ | exact ⟨true, 1, by decide⟩ | exact ⟨true, 2, by decide⟩ | exact ⟨true, 3, by decide⟩ | exact ⟨true, 4, by decide⟩ | exact ⟨true, 5, by decide⟩ | exact ⟨true, 6, by decide⟩ | exact ⟨true, 7, by decide⟩
theorem rdm_bd (c1 c2 c3 c4 c5 c6 c7 c8 c9 : UInt8) : 0 ≤ rdm c1 c2 c3 c4 c5 c6 c7 c8 c9 ∧ rdm c1 c2 c3 c4 c5 c6 c7 c8 c9 ≤ 4095 := by
  obtain ⟨o, x, x0, x1, e0⟩ := rcl_form 0 (.inl rfl) c1 c2 c3
  obtain ⟨p, y, y0, y1, e1⟩ := rcl_form 1 (.inr (.inl rfl)) c4 c5 c6
  obtain ⟨q, z, z0, z1, e2⟩ := rcl_form 2 (.inr (.inr rfl)) c7 c8 c9
  simp at e0 e1 e2
  rw [rdm, e0, e1, e2, or3 _ _ _ _ _ _ x0 x1 y0 y1 z0 z1]
  cases o <;> cases p <;> cases q <;> simp <;> omega
end Go.Proofs.YtnjgecdhgfiilaaDoor
