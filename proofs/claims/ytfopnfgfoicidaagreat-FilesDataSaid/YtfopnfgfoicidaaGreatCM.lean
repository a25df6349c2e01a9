/-
  What modes become where they are set, or behind a write, and who may change owners, as plain mathematics. No condition.
-/
import Derived.Test.YtfopnfgfoicidaaGreatCC
namespace Go.Proofs.YtfopnfgfoicidaaGreat
open Go Go.RowKit
set_option maxRecDepth 100000

/-- A mode of which bits are dropped, where they are to be. -/
def dropM (t : Bool) (y k : Int) : Int := if t = true then bits .andNot .i64 y k else y
/-- The mode that is set. -/
def modeM (u g : Int) (gs : List Int) (kind y m : Int) : Int := dropM (!(u == 0) && !(kind != 1) && !(y == g || gs.contains y)) (m % 4096) 1024
/-- The mode behind a write. -/
def writM (u kind m : Int) : Int := dropM ((!(u == 0) && !(kind != 1)) && bits .and .i64 (cls m 1) 1 != 0) (dropM (!(u == 0) && !(kind != 1)) (m % 4096) 2048) 1024
/-- Whether owner and group may be changed. -/
def mayOwn (u g : Int) (gs : List Int) (x y tu tg : Int) : Bool := u == 0 || (x == u && (tu == x || decide (tu < 0)) && (tg == y || decide (tg < 0) || (tg == g || gs.contains tg)))
/-- A mode without a bit. -/
def clr (m b : Int) : Int := m - m / b % 2 * b
theorem clr_at : ∀ a b : Fin 64, bits .andNot .i64 (((a.val * 64 + b.val : Nat) : Int)) 1024 = clr ((a.val * 64 + b.val : Nat) : Int) 1024 ∧ bits .andNot .i64 (((a.val * 64 + b.val : Nat) : Int)) 2048 = clr ((a.val * 64 + b.val : Nat) : Int) 2048 := by decide +kernel
theorem clr_own (m : Int) (h0 : 0 ≤ m) (h1 : m < 4096) : bits .andNot .i64 m 1024 = clr m 1024 ∧ bits .andNot .i64 m 2048 = clr m 2048 := by
  have h := clr_at ⟨(m / 64).toNat, by omega⟩ ⟨(m % 64).toNat, by omega⟩
  simp only [show (((m / 64).toNat * 64 + (m % 64).toNat : Nat) : Int) = m by omega] at h
  exact h
theorem clr_bd (m b : Int) (hb : b = 1024 ∨ b = 2048) (h0 : 0 ≤ m) (h1 : m < 4096) : 0 ≤ clr m b ∧ clr m b < 4096 := by
  unfold clr
  rcases hb with rfl | rfl <;> omega
theorem drop_bd (t : Bool) (y b : Int) (hb : b = 1024 ∨ b = 2048) (h0 : 0 ≤ y) (h1 : y < 4096) : 0 ≤ dropM t y b ∧ dropM t y b < 4096 := by
  have hc := clr_own y h0 h1
  have hd := clr_bd y b hb h0 h1
  unfold dropM
  split
  · rcases hb with rfl | rfl
    · rw [hc.1]; exact hd
    · rw [hc.2]; exact hd
  · exact ⟨h0, h1⟩
theorem mode_bd (u g : Int) (gs : List Int) (kind y m : Int) : 0 ≤ modeM u g gs kind y m ∧ modeM u g gs kind y m < 4096 := drop_bd _ _ _ (.inl rfl) (by omega) (by omega)
theorem writ_bd (u kind m : Int) : 0 ≤ writM u kind m ∧ writM u kind m < 4096 := by
  have h := drop_bd (!(u == 0) && !(kind != 1)) (m % 4096) 2048 (.inr rfl) (by omega) (by omega)
  exact drop_bd _ _ _ (.inl rfl) h.1 h.2
theorem mode_all {u : Int} (g : Int) (gs : List Int) {kind : Int} (y : Int) {m : Int} (h : u = 0 ∨ kind ≠ 1) (h0 : 0 ≤ m) (h1 : m < 4096) : modeM u g gs kind y m = m := by
  unfold modeM dropM
  have e : (!(u == 0) && !(kind != 1)) = false := by rcases h with h | h <;> simp [h]
  rw [e, Bool.false_and, if_neg (by decide)]
  omega
theorem writ_all {u kind m : Int} (h : u = 0 ∨ kind ≠ 1) (h0 : 0 ≤ m) (h1 : m < 4096) : writM u kind m = m := by
  unfold writM dropM
  have e : (!(u == 0) && !(kind != 1)) = false := by rcases h with h | h <;> simp [h]
  rw [e, Bool.false_and, if_neg (by decide), if_neg (by decide)]
  omega
theorem clr_bit {m : Int} : clr m 2048 / 2048 % 2 = 0 := by
  unfold clr
  omega
theorem clr_keep {m : Int} : clr m 1024 / 2048 % 2 = m / 2048 % 2 := by
  unfold clr
  omega
/-- Behind a write by who isn't root a file has no set user. -/
theorem writ_suid {u m : Int} (h : u ≠ 0) : writM u 1 m / 2048 % 2 = 0 := by
  unfold writM
  have e : (!(u == 0) && !((1 : Int) != 1)) = true := by simp [h]
  have e1 : dropM (!(u == 0) && !((1 : Int) != 1)) (m % 4096) 2048 = clr (m % 4096) 2048 := by
    unfold dropM
    rw [if_pos e, (clr_own (m % 4096) (by omega) (by omega)).2]
  rw [e1]
  have h2 := clr_bd (m % 4096) 2048 (.inr rfl) (by omega) (by omega)
  have h3 := clr_bit (m := m % 4096)
  unfold dropM
  split
  · rw [(clr_own _ h2.1 h2.2).1, clr_keep]
    exact h3
  · exact h3
/-- The bits that let one search stay as they are asked for. -/
theorem mode_x (u g : Int) (gs : List Int) (kind y m : Int) : modeM u g gs kind y m % 512 = m % 512 := by
  unfold modeM dropM
  split
  · rw [(clr_own (m % 4096) (by omega) (by omega)).1]
    unfold clr
    omega
  · omega
end Go.Proofs.YtfopnfgfoicidaaGreat
