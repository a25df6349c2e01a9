/-
  What MayMode, MayOwn, Mode, Written and Sticky of package cred answer, and the reference's. The condition: no more groups than a million.
-/
import Derived.Test.YtfopnfgfoicidaaGreatCM
import Derived.Test.YtfopnfgfoicidaaGreatBC
namespace Go.Proofs.YtfopnfgfoicidaaGreat
open Go Go.RowKit

/-- What the closure works on: the mode that is left, in a cell that was made since. -/
def Drp (w0 : World) (b : Nat) (y : Int) (w : World) : Prop := Below w0.heap.size w0 w ∧ w0.heap.size ≤ b ∧ w.cell? ⟨b, 0, none⟩ = some (.int .i64 y) ∧ w.frozen? ⟨b, 0, none⟩ = false
theorem Drp.below {w0 : World} {b : Nat} {y : Int} {w w' : World} (h : Drp w0 b y w) (hb : Below w.heap.size w w') : Drp w0 b y w' :=
  ⟨bt hb h.1, h.2.1, bc hb h.2.2.1, (hb.frozen (World.block_lt_of_cell? _ _ h.2.2.1)).trans h.2.2.2⟩
theorem Drp.drew {w0 : World} {b : Nat} {y : Int} {w : World} (h : Drp w0 b y w) : Drp w0 b y w.drew := ⟨h.1.drew, h.2.1, h.2.2.1, h.2.2.2⟩
theorem Drp.store {w0 : World} {b : Nat} {y : Int} {w : World} (h : Drp w0 b y w) (y' : Int) : Drp w0 b y' (w.setCell ⟨b, 0, none⟩ (.int .i64 y')) :=
  ⟨h.1.setCell h.2.1 _, h.2.1, World.cell?_setCell_same _ _ _ h.2.2.1, by rw [World.frozen?_setCell]; exact h.2.2.2⟩

theorem cd_drop_any (k : Int) (t : Bool) (w0 : World) (b : Nat) (y : Int) (w : World) (h : Drp w0 b y w) :
    Calls Tryz.prog 128 #[.int .i64 k, .bool t, .pointer (some ⟨b, 0, none⟩)] w fun e w' => e = .returned (.int .i64 (dropM t y k)) ∧ Drp w0 b (dropM t y k) w' ∧ ∀ (a : Addr) (v : Value), a.block ≠ b → w.cell? a = some v → w'.cell? a = some v := by
  have HD := Lib.hid h
  obtain ⟨-, -, h3, h4⟩ := h
  cases t with
  | false =>
    go_enter Tryz.func128, Tryz.ntmps128
    go_wp2
    go_ret
    exact ⟨rfl, HD.out, fun _ _ _ h => h⟩
  | true =>
    go_enter Tryz.func128, Tryz.ntmps128
    have j3 := World.cell?_setCell_same w ⟨b, 0, none⟩ (.int .i64 (bits .andNot .i64 y k)) h3
    go_wp2
    go_ret
    exact ⟨rfl, HD.out.store _, fun a v hne h => by rw [World.cell?_setCell_other _ _ _ _ (by intro e; subst e; exact hne rfl)]; exact h⟩
theorem dropper_any (m : Int) (w : World) :
    Calls Tryz.prog 105 #[.int .i64 m] w fun e w' => e = .returned (.func (.func 128) #[] #[.pointer (some ⟨w.heap.size, 0, none⟩)]) ∧ Drp w w.heap.size (m % 4096) w' := by
  have hmf : ∀ (fn : Fn) (first cap : Array Value) (w : World), (Instr.makeFunc fn first cap).run Tryz.prog w = .ok (.func fn first cap) w := fun _ _ _ _ => rfl
  go_enter Tryz.func105, Tryz.ntmps105
  go_wp2
  go_ret
  rw [and4095]
  exact ⟨rfl, ba _ _, Nat.le_refl _, by simp, by simp⟩
set_option maxHeartbeats 2000000 in
theorem written_any (u g : Int) (A : Option Addr) (n c : Nat) (kind m : Int) (w : World) :
    Calls Tryz.prog 72 #[.agg #[.int .i64 u, .int .i64 g, .slice A n c], .int .i64 kind, .int .i64 m] w fun e w' => e = .returned (.int .i64 (writM u kind m)) ∧ Below w.heap.size w w' := by
  unfold writM
  obtain ⟨L, hL⟩ : ∃ L, (!(u == 0) && !(kind != 1)) = L := ⟨_, rfl⟩
  rw [hL]
  have HL := Lib.hid hL
  clear hL
  have HB := Lib.hid (ba w (.cells #[.int .i64 u, .int .i64 g, .slice A n c] 25))
  go_enter Tryz.func72, Tryz.ntmps72
  go_wp2_with fail
  refine (dropper_any _ _).mono ?_
  rintro e w2 ⟨rfl, hd2⟩
  have k0 : w2.cell? ⟨w.heap.size, 0, none⟩ = some (.int .i64 u) := bc hd2.1 (by simp)
  have k1 : w2.cell? ⟨w.heap.size, 1, none⟩ = some (.int .i64 g) := bc hd2.1 (by simp)
  have k2 : w2.cell? ⟨w.heap.size, 2, none⟩ = some (.slice A n c) := bc hd2.1 (by simp)
  have HD := Lib.hid (show Drp w (w.heap.size + 1) (m % 4096) w2 from ⟨bt hd2.1 HB.out, by omega, by simpa using hd2.2.2.1, by simpa using hd2.2.2.2⟩)
  clear hd2
  go_wp2_with fail
  refine (isRoot_any _ _ _ _ _ _).mono ?_
  rintro e w4 ⟨rfl, hb4⟩
  have HD4 := Lib.hid (HD.out.below hb4)
  clear hb4 k0 k1 k2
  go_wp2_with fail
  refine (anyOf2 _ _ _).mono ?_
  rintro e w5 ⟨rfl, rfl⟩
  have HD5 := Lib.hid (HD4.out.below (ba w4 (.cells #[.bool (u == 0), .bool (kind != 1)] 4)))
  generalize w4.alloc (.cells #[.bool (u == 0), .bool (kind != 1)] 4) = w5 at HD5 ⊢
  go_wp2_with fail
  refine (class_any _ _ _).mono ?_
  rintro e w6 ⟨rfl, rfl⟩
  rw [HL.out]
  cases L with
  | true =>
    go_wp2_with fail
    refine (cd_drop_any _ _ w _ _ _ HD5.out).mono ?_
    rintro e w7 ⟨rfl, hd7, -⟩
    have HD7 := Lib.hid hd7
    clear hd7
    go_wp2_with fail
    refine (cd_drop_any _ _ w _ _ _ HD7.out).mono ?_
    rintro e w8 ⟨rfl, hd8, -⟩
    go_wp2
    go_ret
    exact ⟨rfl, hd8.1⟩
  | false =>
    go_wp2_with fail
    refine (cd_drop_any _ _ w _ _ _ HD5.out).mono ?_
    rintro e w7 ⟨rfl, hd7, -⟩
    have HD7 := Lib.hid hd7
    clear hd7
    go_wp2_with fail
    refine (cd_drop_any _ _ w _ _ _ HD7.out).mono ?_
    rintro e w8 ⟨rfl, hd8, -⟩
    go_wp2
    go_ret
    exact ⟨rfl, hd8.1⟩
set_option maxHeartbeats 1000000 in
theorem rbit_any (n i : Nat) (w : World) (hn : n ≤ 1000000) (hi : i ≤ 100) : Calls Tryz.prog 55 #[.int .i64 (n : Int), .int .i64 (i : Int)] w fun e w' => e = .returned (.bool (n.testBit i)) ∧ w = w' := by
  obtain ⟨R, hR⟩ : ∃ R, n.testBit i = R := ⟨_, rfl⟩
  have HR := Lib.hid hR
  rw [hR]
  clear hR
  go_enter Tryz.func55, Tryz.ntmps55
  go_wp2
  go_loop [0, 5] (fun x k => ∃ (j y : Nat), j ≤ i ∧ k = .int .i64 j ∧ x = .int .i64 (y : Int) ∧ y = n / 2 ^ j) (fun _ k => i - (intOf k).toNat)
  case atStart => exact ⟨0, n, Nat.zero_le _, rfl, rfl, by simp⟩
  case round =>
    obtain ⟨j, y, hj, rfl, rfl, hy⟩ := hrel
    have HY := Lib.hid hy
    have y1 : y ≤ 1000000 := by rw [hy]; exact Nat.le_trans (Nat.div_le_self _ _) hn
    clear hy
    by_cases hlt : j < i
    · have HN := Lib.hid (show y / 2 = n / 2 ^ (j + 1) by rw [HY.out, Nat.div_div_eq_div_mul, Nat.pow_succ])
      go_wp2
      go_round
      case rel => exact ⟨j + 1, y / 2, by omega, by go_num, by go_num, HN.out⟩
      case measure => simp [intOf]; omega
    · have HF := Lib.hid (show R = decide ((y : Int) % 2 = 1) by
        rw [← HR.out, Nat.testBit_eq_decide_div_mod_eq, HY.out, show j = i by omega]
        congr 1
        rw [eq_iff_iff]
        omega)
      go_wp2
      go_ret
      exact ⟨ret_bool (by rw [HF.out]; rfl), rfl⟩
theorem without_any (m : Int) (i : Nat) (b : Int) (w : World) (h0 : 0 ≤ m) (h1 : m < 4096) (hib : i = 10 ∧ b = 1024 ∨ i = 11 ∧ b = 2048) : Calls Tryz.prog 91 #[.int .i64 m, .int .i64 (i : Int), .int .i64 b] w fun e w' => e = .returned (.int .i64 (clr m b)) ∧ w = w' := by
  obtain ⟨m, rfl⟩ := Int.eq_ofNat_of_zero_le h0
  have hm : m < 4096 := by omega
  have HT := Lib.hid (rbit_any m i w (by omega) (by omega))
  obtain ⟨T, hT⟩ : ∃ T, m.testBit i = T := ⟨_, rfl⟩
  rw [hT] at HT
  rw [Nat.testBit_eq_decide_div_mod_eq] at hT
  have hb : b ≤ 2048 ∧ 0 ≤ b := by omega
  have HV := Lib.hid (show (if T = true then (m : Int) - b else m) = clr m b by
    subst hT
    unfold clr
    rcases hib with ⟨rfl, rfl⟩ | ⟨rfl, rfl⟩
    · by_cases hq : m / 2 ^ 10 % 2 = 1
      · rw [if_pos (by simpa using hq)]; omega
      · rw [if_neg (by simpa using hq)]; omega
    · by_cases hq : m / 2 ^ 11 % 2 = 1
      · rw [if_pos (by simpa using hq)]; omega
      · rw [if_neg (by simpa using hq)]; omega)
  clear hT
  obtain ⟨R, hR⟩ : ∃ R, clr (m : Int) b = R := ⟨_, rfl⟩
  rw [hR] at HV ⊢
  clear hR hib
  cases T with
  | true =>
    go_enter Tryz.func91, Tryz.ntmps91
    go_wp2_with fail
    refine HT.out.mono ?_
    rintro e w' ⟨rfl, rfl⟩
    go_wp2
    go_ret
    exact ⟨ret_int HV.out, rfl⟩
  | false =>
    go_enter Tryz.func91, Tryz.ntmps91
    go_wp2_with fail
    refine HT.out.mono ?_
    rintro e w' ⟨rfl, rfl⟩
    go_wp2
    go_ret
    exact ⟨ret_int HV.out, rfl⟩

theorem rwritten_any (u g : Int) (A : Option Addr) (n c : Nat) (kind m : Int) (w : World) :
    Calls Tryz.prog 62 #[.agg #[.int .i64 u, .int .i64 g, .slice A n c], .int .i64 kind, .int .i64 m] w fun e w' => e = .returned (.int .i64 (writM u kind m)) ∧ Below w.heap.size w w' := by
  have HB := Lib.hid (ba w (.cells #[.int .i64 u, .int .i64 g, .slice A n c] 37))
  unfold writM
  have HL := Lib.hid (fun w => low_any m w)
  have HG := Lib.hid (show bits .and .i64 (cls m 1) 1 = m % 4096 / 8 % 2 by rw [and1]; simp [cls]; omega)
  rw [HG.out]
  have hm0 : 0 ≤ m % 4096 := by omega
  have hm1 : m % 4096 < 4096 := by omega
  generalize m % 4096 = M at HL hm0 hm1 ⊢
  have hN0 : 0 ≤ clr M 2048 := by unfold clr; omega
  have hN1 : clr M 2048 < 4096 := by unfold clr; omega
  have HC := Lib.hid (clr_own M hm0 hm1).2
  have HD := Lib.hid (clr_own _ hN0 hN1).1
  have HW := Lib.hid (fun w => without_any M 11 2048 w hm0 hm1 (by simp))
  have HX := Lib.hid (fun w => without_any _ 10 1024 w hN0 hN1 (by simp))
  have HK := Lib.hid (fun w => rclass_any (clr M 2048) 1 w)
  rw [show cls (clr M 2048) 1 = M / 8 % 8 by simp [cls, clr]; omega] at HK
  generalize clr M 2048 = N at HC HD HW HX HK hN0 hN1
  by_cases hu : u = 0
  · subst hu
    go_enter Tryz.func62, Tryz.ntmps62
    go_wp2_with fail
    refine (HL.out _).mono ?_
    rintro e w2 ⟨rfl, rfl⟩
    go_wp2
    go_ret
    exact ⟨rfl, HB.out⟩
  have hu' : (u == 0) = false := by simpa using hu
  rw [hu']
  clear hu
  by_cases hk : kind = 1
  · subst hk
    by_cases hx : M / 8 % 2 = 1
    · have hx' : M / 8 % 8 % 2 = 1 := by omega
      have HV := Lib.hid (show (M / 8 % 2 != 0) = true by rw [hx]; rfl)
      rw [HV.out]
      clear hx
      have hq0 : 0 ≤ M / 8 % 8 := by omega
      have hq1 : M / 8 % 8 < 8 := by omega
      generalize M / 8 % 8 = q at HK hx' hq0 hq1
      go_enter Tryz.func62, Tryz.ntmps62
      go_wp2_with fail
      refine (HL.out _).mono ?_
      rintro e w2 ⟨rfl, rfl⟩
      go_wp2_with fail
      refine (HW.out _).mono ?_
      rintro e w3 ⟨rfl, rfl⟩
      go_wp2_with fail
      refine (HK.out _).mono ?_
      rintro e w3 ⟨rfl, rfl⟩
      go_wp2_with fail
      refine (HX.out _).mono ?_
      rintro e w3 ⟨rfl, rfl⟩
      go_wp2
      go_ret
      exact ⟨ret_int (by rw [← HD.out, ← HC.out]; rfl), HB.out⟩
    · have hx' : M / 8 % 8 % 2 = 0 := by omega
      have HV := Lib.hid (show (M / 8 % 2 != 0) = false by rw [show M / 8 % 2 = 0 by omega]; rfl)
      rw [HV.out]
      clear hx
      have hq0 : 0 ≤ M / 8 % 8 := by omega
      have hq1 : M / 8 % 8 < 8 := by omega
      generalize M / 8 % 8 = q at HK hx' hq0 hq1
      go_enter Tryz.func62, Tryz.ntmps62
      go_wp2_with fail
      refine (HL.out _).mono ?_
      rintro e w2 ⟨rfl, rfl⟩
      go_wp2_with fail
      refine (HW.out _).mono ?_
      rintro e w3 ⟨rfl, rfl⟩
      go_wp2_with fail
      refine (HK.out _).mono ?_
      rintro e w3 ⟨rfl, rfl⟩
      go_wp2
      go_ret
      exact ⟨ret_int (by rw [← HC.out]; rfl), HB.out⟩
  · have hk' : (kind != 1) = true := by simpa using hk
    rw [hk']
    clear hk
    go_enter Tryz.func62, Tryz.ntmps62
    go_wp2_with fail
    refine (HL.out _).mono ?_
    rintro e w2 ⟨rfl, rfl⟩
    go_wp2
    go_ret
    exact ⟨rfl, HB.out⟩

end Go.Proofs.YtfopnfgfoicidaaGreat
