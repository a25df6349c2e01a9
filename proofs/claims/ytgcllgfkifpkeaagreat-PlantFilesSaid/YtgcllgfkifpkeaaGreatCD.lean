/-
  What MayMode, MayOwn, Mode, Written and Sticky of package cred answer, and the reference's. The condition: no more groups than a million.
-/
import Derived.Test.YtgcllgfkifpkeaaGreatCM
import Derived.Test.YtgcllgfkifpkeaaGreatBC
namespace Go.Proofs.YtgcllgfkifpkeaaGreat
open Go Go.RowKit

/-- What the closure works on: the mode that is left, in a cell that was made since. -/
def Drp (w0 : World) (b : Nat) (y : Int) (w : World) : Prop := Below w0.heap.size w0 w ∧ w0.heap.size ≤ b ∧ w.cell? ⟨b, 0, none⟩ = some (.int .i64 y) ∧ w.frozen? ⟨b, 0, none⟩ = false
theorem Drp.below {w0 : World} {b : Nat} {y : Int} {w w' : World} (h : Drp w0 b y w) (hb : Below w.heap.size w w') : Drp w0 b y w' :=
  ⟨bt hb h.1, h.2.1, bc hb h.2.2.1, (hb.frozen (World.block_lt_of_cell? _ _ h.2.2.1)).trans h.2.2.2⟩
theorem Drp.drew {w0 : World} {b : Nat} {y : Int} {w : World} (h : Drp w0 b y w) : Drp w0 b y w.drew := ⟨h.1.drew, h.2.1, h.2.2.1, h.2.2.2⟩
theorem Drp.store {w0 : World} {b : Nat} {y : Int} {w : World} (h : Drp w0 b y w) (y' : Int) : Drp w0 b y' (w.setCell ⟨b, 0, none⟩ (.int .i64 y')) :=
  ⟨h.1.setCell h.2.1 _, h.2.1, World.cell?_setCell_same _ _ _ h.2.2.1, by rw [World.frozen?_setCell]; exact h.2.2.2⟩

set_option maxHeartbeats 1000000 in
theorem rbit_any (n i : Nat) (w : World) (hn : n ≤ 1000000) (hi : i ≤ 100) : Calls Tryz.prog 61 #[.int .i64 (n : Int), .int .i64 (i : Int)] w fun e w' => e = .returned (.bool (n.testBit i)) ∧ w = w' := by
  obtain ⟨R, hR⟩ : ∃ R, n.testBit i = R := ⟨_, rfl⟩
  have HR := Lib.hid hR
  rw [hR]
  clear hR
  go_enter Tryz.func61, Tryz.ntmps61
  go_wp2
  go_loop [0, 5] (fun x k => ∃ (j y : Nat), j ≤ i ∧ k = .int .i64 j ∧ x = .int .i64 (y : Int) ∧ y = n / 2 ^ j) (fun _ k => i - (intOf k).toNat)
  case atStart => exact ⟨0, n, Nat.zero_le _, rfl, rfl, by simp⟩
  case round =>
    obtain ⟨j, y, hj, rfl, rfl, hy⟩ := hrel
    have HY := Lib.hid hy
    have y1 : y ≤ 1000000 := by rw [hy]; exact Nat.le_trans (Nat.div_le_self _ _) hn
    clear hy
    by_cases hlt : j < i
    · have HN := Lib.hid (show y / 2 = n / 2 ^ (j + 1) by rw [HY.out, Nat.div_div_eq_div_mul, Nat.pow_succ])
      go_wp2
      go_round
      case rel => exact ⟨j + 1, y / 2, by omega, by go_num, by go_num, HN.out⟩
      case measure => simp [intOf]; omega
    · have HF := Lib.hid (show R = decide ((y : Int) % 2 = 1) by
        rw [← HR.out, Nat.testBit_eq_decide_div_mod_eq, HY.out, show j = i by omega]
        congr 1
        rw [eq_iff_iff]
        omega)
      go_wp2
      go_ret
      exact ⟨ret_bool (by rw [HF.out]; rfl), rfl⟩
end Go.Proofs.YtgcllgfkifpkeaaGreat
