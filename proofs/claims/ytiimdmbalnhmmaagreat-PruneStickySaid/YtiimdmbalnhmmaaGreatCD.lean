/-
  What MayMode, MayOwn, Mode, Written and Sticky of package cred answer, and the reference's. The condition: no more groups than a million.
-/
import Derived.Test.YtiimdmbalnhmmaaGreatCM
import Derived.Test.YtiimdmbalnhmmaaGreatBC
namespace Go.Proofs.YtiimdmbalnhmmaaGreat
open Go Go.RowKit

theorem sticky_any (u g : Int) (A : Option Addr) (n c : Nat) (m d x : Int) (w : World) :
    Calls Tryz.prog 101 #[.agg #[.int .i64 u, .int .i64 g, .slice A n c], .int .i64 m, .int .i64 d, .int .i64 x] w fun e w' => e = .returned (.bool (u == 0 || bits .and .i64 m 512 == 0 || d == u || x == u)) ∧ Below w.heap.size w w' := by
  go_enter Tryz.func101, Tryz.ntmps101
  go_wp2_with fail
  have k0 : (w.alloc (.cells #[.int .i64 u, .int .i64 g, .slice A n c] 25)).cell? ⟨w.heap.size, 0, none⟩ = some (.int .i64 u) := by simp
  have k1 : (w.alloc (.cells #[.int .i64 u, .int .i64 g, .slice A n c] 25)).cell? ⟨w.heap.size, 1, none⟩ = some (.int .i64 g) := by simp
  have k2 : (w.alloc (.cells #[.int .i64 u, .int .i64 g, .slice A n c] 25)).cell? ⟨w.heap.size, 2, none⟩ = some (.slice A n c) := by simp
  have hb : Below w.heap.size w (w.alloc (.cells #[.int .i64 u, .int .i64 g, .slice A n c] 25)) := ba _ _
  generalize w.alloc (.cells #[.int .i64 u, .int .i64 g, .slice A n c] 25) = W1 at k0 k1 k2 hb ⊢
  have hs0 : W1.drew.cell? ⟨w.heap.size, 0, none⟩ = some (.int .i64 u) := k0
  have hs1 : W1.drew.cell? ⟨w.heap.size, 1, none⟩ = some (.int .i64 g) := k1
  have hs2 : W1.drew.cell? ⟨w.heap.size, 2, none⟩ = some (.slice A n c) := k2
  have hs3 := hb.drew
  go_region_held3 (fun w' => w'.cell? ⟨w.heap.size, 0, none⟩ = some (.int .i64 u) ∧ w'.cell? ⟨w.heap.size, 1, none⟩ = some (.int .i64 g) ∧ w'.cell? ⟨w.heap.size, 2, none⟩ = some (.slice A n c) ∧ Below w.heap.size w w')
    (first | exact ⟨hs0, hs1, hs2, hs3⟩ | exact ⟨bc hb4 hs0, bc hb4 hs1, bc hb4 hs2, bt hb4 hs3⟩ | exact ⟨bc (ba _ _) (bc hb4 hs0), bc (ba _ _) (bc hb4 hs1), bc (ba _ _) (bc hb4 hs2), bt (ba _ _) (bt hb4 hs3)⟩)
    (first | (go_at_call 126; refine (isRoot_any _ _ _ _ _ _).mono ?_; rintro e w4 ⟨rfl, hb4⟩) | (go_at_call 125; refine (anyOf4 _ _ _ _ _).mono ?_; rintro e w5 ⟨rfl, rfl⟩))
  all_goals
    go_wp2
    go_ret
    exact ⟨rfl, bt (ba _ _) (bt hb4 hs3)⟩

/-- What the closure works on: the mode that is left, in a cell that was made since. -/
def Drp (w0 : World) (b : Nat) (y : Int) (w : World) : Prop := Below w0.heap.size w0 w ∧ w0.heap.size ≤ b ∧ w.cell? ⟨b, 0, none⟩ = some (.int .i64 y) ∧ w.frozen? ⟨b, 0, none⟩ = false
theorem Drp.below {w0 : World} {b : Nat} {y : Int} {w w' : World} (h : Drp w0 b y w) (hb : Below w.heap.size w w') : Drp w0 b y w' :=
  ⟨bt hb h.1, h.2.1, bc hb h.2.2.1, (hb.frozen (World.block_lt_of_cell? _ _ h.2.2.1)).trans h.2.2.2⟩
theorem Drp.drew {w0 : World} {b : Nat} {y : Int} {w : World} (h : Drp w0 b y w) : Drp w0 b y w.drew := ⟨h.1.drew, h.2.1, h.2.2.1, h.2.2.2⟩
theorem Drp.store {w0 : World} {b : Nat} {y : Int} {w : World} (h : Drp w0 b y w) (y' : Int) : Drp w0 b y' (w.setCell ⟨b, 0, none⟩ (.int .i64 y')) :=
  ⟨h.1.setCell h.2.1 _, h.2.1, World.cell?_setCell_same _ _ _ h.2.2.1, by rw [World.frozen?_setCell]; exact h.2.2.2⟩

set_option maxHeartbeats 1000000 in
theorem rbit_any (n i : Nat) (w : World) (hn : n ≤ 1000000) (hi : i ≤ 100) : Calls Tryz.prog 116 #[.int .i64 (n : Int), .int .i64 (i : Int)] w fun e w' => e = .returned (.bool (n.testBit i)) ∧ w = w' := by
  obtain ⟨R, hR⟩ : ∃ R, n.testBit i = R := ⟨_, rfl⟩
  have HR := Lib.hid hR
  rw [hR]
  clear hR
  go_enter Tryz.func116, Tryz.ntmps116
  go_wp2
  go_loop [0, 5] (fun x k => ∃ (j y : Nat), j ≤ i ∧ k = .int .i64 j ∧ x = .int .i64 (y : Int) ∧ y = n / 2 ^ j) (fun _ k => i - (intOf k).toNat)
  case atStart => exact ⟨0, n, Nat.zero_le _, rfl, rfl, by simp⟩
  case round =>
    obtain ⟨j, y, hj, rfl, rfl, hy⟩ := hrel
    have HY := Lib.hid hy
    have y1 : y ≤ 1000000 := by rw [hy]; exact Nat.le_trans (Nat.div_le_self _ _) hn
    clear hy
    by_cases hlt : j < i
    · have HN := Lib.hid (show y / 2 = n / 2 ^ (j + 1) by rw [HY.out, Nat.div_div_eq_div_mul, Nat.pow_succ])
      go_wp2
      go_round
      case rel => exact ⟨j + 1, y / 2, by omega, by go_num, by go_num, HN.out⟩
      case measure => simp [intOf]; omega
    · have HF := Lib.hid (show R = decide ((y : Int) % 2 = 1) by
        rw [← HR.out, Nat.testBit_eq_decide_div_mod_eq, HY.out, show j = i by omega]
        congr 1
        rw [eq_iff_iff]
        omega)
      go_wp2
      go_ret
      exact ⟨ret_bool (by rw [HF.out]; rfl), rfl⟩
theorem rsticky_any (u g : Int) (A : Option Addr) (n c : Nat) (m d x : Int) (w : World) :
    Calls Tryz.prog 97 #[.agg #[.int .i64 u, .int .i64 g, .slice A n c], .int .i64 m, .int .i64 d, .int .i64 x] w fun e w' => e = .returned (.bool (u == 0 || bits .and .i64 m 512 == 0 || d == u || x == u)) ∧ Below w.heap.size w w' := by
  have HB := Lib.hid (ba w (.cells #[.int .i64 u, .int .i64 g, .slice A n c] 40))
  have HL := Lib.hid (fun w => low_any m w)
  have hm1 : (m % 4096).toNat < 4096 := by omega
  have HT := Lib.hid (fun w => rbit_any (m % 4096).toNat 9 w (by omega) (by decide))
  have HV := Lib.hid (show (bits .and .i64 m 512 == 0) = !(m % 4096).toNat.testBit 9 by
    rw [and512, Nat.testBit_eq_decide_div_mod_eq]
    by_cases hq : m / 512 % 2 = 0
    · rw [hq, decide_eq_false (by omega)]; rfl
    · rw [show m / 512 % 2 = 1 by omega, decide_eq_true (by omega)]; rfl)
  rw [HV.out]
  rw [show m % 4096 = ((m % 4096).toNat : Int) by omega] at HL
  generalize (m % 4096).toNat = M at HL hm1 HT ⊢
  obtain ⟨T, hT⟩ : ∃ T, M.testBit 9 = T := ⟨_, rfl⟩
  rw [hT] at HT ⊢
  clear hT HV
  by_cases hu : u = 0
  · subst hu
    go_enter Tryz.func97, Tryz.ntmps97
    go_wp2
    go_ret
    exact ⟨rfl, HB.out⟩
  have hu' : (u == 0) = false := by simpa using hu
  rw [hu']
  clear hu
  cases T with
  | false =>
    go_enter Tryz.func97, Tryz.ntmps97
    go_wp2_with fail
    refine (HL.out _).mono ?_
    rintro e w2 ⟨rfl, rfl⟩
    go_wp2_with fail
    refine (HT.out _).mono ?_
    rintro e w2 ⟨rfl, rfl⟩
    go_wp2
    go_ret
    exact ⟨rfl, HB.out⟩
  | true =>
    rw [bcomm d u, bcomm x u]
    by_cases hd : u = d
    · subst hd
      have HE := Lib.hid (show (u == u) = true by simp)
      rw [HE.out]
      go_enter Tryz.func97, Tryz.ntmps97
      go_wp2_with fail
      refine (HL.out _).mono ?_
      rintro e w2 ⟨rfl, rfl⟩
      go_wp2_with fail
      refine (HT.out _).mono ?_
      rintro e w2 ⟨rfl, rfl⟩
      go_wp2
      go_ret
      exact ⟨rfl, HB.out⟩
    · have hd' : (u == d) = false := by simpa using hd
      rw [hd']
      clear hd
      go_enter Tryz.func97, Tryz.ntmps97
      go_wp2_with fail
      refine (HL.out _).mono ?_
      rintro e w2 ⟨rfl, rfl⟩
      go_wp2_with fail
      refine (HT.out _).mono ?_
      rintro e w2 ⟨rfl, rfl⟩
      go_wp2
      go_ret
      exact ⟨rfl, HB.out⟩
end Go.Proofs.YtiimdmbalnhmmaaGreat
