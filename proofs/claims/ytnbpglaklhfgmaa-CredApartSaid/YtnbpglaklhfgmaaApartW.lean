/-
  The walk of CredApart: it answers true of whoever asks, and of every number.
-/
import Derived.Test.YtnbpglaklhfgmaaWf
namespace Go.Proofs.Ytnbpglaklhfgmaa
open Go Go.RowKit

theorem clsOf_bd (u g : Int) (gs : List Int) (x y : Int) : clsOf u g gs x y = 0 ∨ clsOf u g gs x y = 1 ∨ clsOf u g gs x y = 2 := by
  unfold clsOf
  repeat' split
  all_goals simp
theorem cls_wit (O k b : Int) (hk : k = 0 ∨ k = 1 ∨ k = 2) (b0 : 0 ≤ b) (b1 : b ≤ 7) : cls (wit O k b) k = b := by
  rcases hk with rfl | rfl | rfl
  · simp [cls, wit]; omega
  · simp [cls, wit]; omega
  · simp [cls, wit]; omega
theorem nat_cls (m o : Nat) (j : Nat) : (m ||| o) / 2 ^ j % 8 = (m / 2 ^ j % 8) ||| (o / 2 ^ j % 8) := by
  apply Nat.eq_of_testBit_eq
  intro i
  rw [show (8 : Nat) = 2 ^ 3 from rfl]
  simp only [Nat.testBit_mod_two_pow, Nat.testBit_div_two_pow, Nat.testBit_or]
  by_cases h : i < 3 <;> simp [h]
theorem letsN_or : ∀ v b d : Fin 8, letsN ((v.val : Nat) : Int) ((b.val : Nat) : Int) = true → letsN ((v.val : Nat) : Int) (((b.val ||| d.val : Nat)) : Int) = true := by decide +kernel
theorem cls_or (m o : Nat) (k : Int) (hk : k = 0 ∨ k = 1 ∨ k = 2) : ∃ b d : Fin 8, cls (m : Int) k = ((b.val : Nat) : Int) ∧ cls ((m ||| o : Nat) : Int) k = ((b.val ||| d.val : Nat) : Int) := by
  rcases hk with rfl | rfl | rfl
  · refine ⟨⟨m / 2 ^ 6 % 8, by omega⟩, ⟨o / 2 ^ 6 % 8, by omega⟩, by simp [cls], ?_⟩
    rw [← nat_cls]; simp [cls]
  · refine ⟨⟨m / 2 ^ 3 % 8, by omega⟩, ⟨o / 2 ^ 3 % 8, by omega⟩, by simp [cls], ?_⟩
    rw [← nat_cls]; simp [cls]
  · refine ⟨⟨m / 2 ^ 0 % 8, by omega⟩, ⟨o / 2 ^ 0 % 8, by omega⟩, by simp [cls], ?_⟩
    rw [← nat_cls]; simp [cls]
theorem lets_more (M O W k : Int) (m0 : 0 ≤ M) (m1 : M < 4096) (o0 : 0 ≤ O) (o1 : O < 4096) (hk : k = 0 ∨ k = 1 ∨ k = 2) (h : lets W (cls M k) = true) : lets W (cls (bits .or .i64 M O) k) = true := by
  obtain ⟨m, rfl⟩ := Int.eq_ofNat_of_zero_le m0
  obtain ⟨o, rfl⟩ := Int.eq_ofNat_of_zero_le o0
  have e : bits .or .i64 (m : Int) (o : Int) = ((m ||| o : Nat) : Int) := (bits_nat .i64 62 (by decide) wraps_i64 m o (by omega) (by omega)).2
  rw [e]
  obtain ⟨b, d, hb, hd⟩ := cls_or m o k hk
  rw [lets_eq _ _ (cls_bd _ _).1 (cls_bd _ _).2, hb] at h
  rw [lets_eq _ _ (cls_bd _ _).1 (cls_bd _ _).2, hd]
  have := letsN_or ⟨(W % 8).toNat, by omega⟩ b d
  simp only [show (((W % 8).toNat : Nat) : Int) = W % 8 by omega] at this
  exact this h
theorem letsN_and : ∀ v p b : Fin 8, letsN ((v.val : Nat) : Int) ((b.val : Nat) : Int) = true → letsN (bits .and .i64 ((v.val : Nat) : Int) ((p.val : Nat) : Int) % 8) ((b.val : Nat) : Int) = true := by decide +kernel
theorem lets_less (W P b : Int) (w0 : 0 ≤ W) (w1 : W < 8) (p0 : 0 ≤ P) (p1 : P < 8) (b0 : 0 ≤ b) (b1 : b ≤ 7) (h : lets W b = true) : lets (bits .and .i64 W P) b = true := by
  rw [lets_eq _ _ b0 b1] at h ⊢
  have := letsN_and ⟨W.toNat, by omega⟩ ⟨P.toNat, by omega⟩ ⟨b.toNat, by omega⟩
  simp only [show ((W.toNat : Nat) : Int) = W by omega, show ((P.toNat : Nat) : Int) = P by omega, show ((b.toNat : Nat) : Int) = b by omega] at this
  exact this (by rwa [show W % 8 = W by omega] at h)
theorem letsN_no : ∀ b : Fin 8, letsN 0 ((b.val : Nat) : Int) = true := by decide +kernel
theorem lets_no (b : Int) (b0 : 0 ≤ b) (b1 : b ≤ 7) : lets 0 b = true := by
  rw [lets_eq _ _ b0 b1, show (0 : Int) % 8 = 0 from rfl]
  have := letsN_no ⟨b.toNat, by omega⟩
  simpa only [show ((b.toNat : Nat) : Int) = b by omega] using this
set_option maxRecDepth 100000 in
set_option maxHeartbeats 8000000 in
theorem apartWalk (u g : Int) (A : Option Addr) (n c : Nat) (gs : List Int) (x y mode other want : Int) (w : World) (h : IntsR w (.slice A n c) gs) (d0 : 0 ≤ mode) (d1 : mode ≤ 65535) (t0 : 0 ≤ other) (t1 : other ≤ 65535) (e0 : 0 ≤ want) (e1 : want ≤ 255) :
    Calls Try.prog 6 #[.agg #[.int .i64 u, .int .i64 g, .slice A n c], .int .i64 x, .int .i64 y, .int .u16 mode, .int .u16 other, .int .u8 want] w fun e w' => e = .returned (.bool true) ∧ Below w.heap.size w w' := by
  have hlen := h.at.1
  subst hlen
  have C0 := Lib.hid (show Cr w w.heap.size u g A gs.length c gs (w.alloc (.cells #[.int .i64 u, .int .i64 g, .slice A gs.length c] 24)) from ⟨ba _ _, h.below (ba _ _), by simp, by simp, by simp⟩)
  clear h
  by_cases hfar : (20 : Int) < (gs.length : Int)
  · go_enter Try.func6, Try.ntmps6
    go_wp2_with fail
    refine (awake_any _).mono ?_
    rintro e w1 ⟨rfl, hb1⟩
    have C1 := Lib.hid (C0.out.below hb1)
    obtain ⟨-, -, k0, k1, k2⟩ := C1.out
    clear hb1
    go_wp2
    go_ret
    exact ⟨rfl, C1.out.1⟩
  have hn : gs.length ≤ 1000000 := by omega
  obtain ⟨M, hM⟩ : ∃ M : Int, mode % 4096 = M := ⟨_, rfl⟩
  have m0 : 0 ≤ M := by omega
  have m1 : M < 4096 := by omega
  obtain ⟨O, hO⟩ : ∃ O : Int, other % 4096 = O := ⟨_, rfl⟩
  have o0 : 0 ≤ O := by omega
  have o1 : O < 4096 := by omega
  obtain ⟨P, hP⟩ : ∃ P : Int, other % 8 = P := ⟨_, rfl⟩
  have p0 : 0 ≤ P := by omega
  have p1 : P < 8 := by omega
  obtain ⟨V, hV⟩ : ∃ V : Int, want % 8 = V := ⟨_, rfl⟩
  have v0 : 0 ≤ V := by omega
  have v1 : V < 8 := by omega
  have HC := Lib.hid (fun W hI => class_of u g A gs.length c gs x y W hI hn)
  have HA := Lib.hid (fun (m v : Int) W hI => can_any u g A gs.length c gs x y m v W hI hn)
  have hk := clsOf_bd u g gs x y
  rw [show (if x = u then 0 else if (y == g || gs.contains y) = true then 1 else 2 : Int) = clsOf u g gs x y from rfl] at HC
  generalize clsOf u g gs x y = K at HC HA hk
  have q0 : 0 ≤ K := by omega
  have q1 : K ≤ 2 := by omega
  have HX := Lib.hid (cls_wit O K (cls M K) hk (cls_bd _ _).1 (cls_bd _ _).2)
  have HM := Lib.hid (lets_more M O V K m0 m1 o0 o1 hk)
  have HL := Lib.hid (lets_less V P (cls M K) v0 v1 p0 p1 (cls_bd _ _).1 (cls_bd _ _).2)
  have HN := Lib.hid (lets_no (cls M K) (cls_bd _ _).1 (cls_bd _ _).2)
  have H1 := Lib.hid (HA.out M V)
  have H2 := Lib.hid (HA.out (wit O K (cls M K)) V)
  rw [HX.out] at H2
  have H3 := Lib.hid (HA.out (bits .or .i64 M O) V)
  have H4 := Lib.hid (HA.out M (bits .and .i64 V P))
  have H5 := Lib.hid (HA.out M 0)
  rw [HN.out, Bool.or_true] at H5
  clear hk HA
  obtain ⟨R, hR⟩ : ∃ R, (u == 0 || lets V (cls M K)) = R := ⟨_, rfl⟩
  rw [hR] at H1 H2
  have H3' : R = true → (u == 0 || lets V (cls (bits .or .i64 M O) K)) = true := by
    intro e; rw [e, Bool.or_eq_true] at hR; rw [Bool.or_eq_true]; exact hR.imp id HM.out
  have H4' : R = true → (u == 0 || lets (bits .and .i64 V P) (cls M K)) = true := by
    intro e; rw [e, Bool.or_eq_true] at hR; rw [Bool.or_eq_true]; exact hR.imp id HL.out
  clear hR
  cases R with
  | true =>
    rw [H3' rfl] at H3
    rw [H4' rfl] at H4
    clear H3' H4' HX HM HL HN
    go_enter Try.func6, Try.ntmps6
    go_wp2_with fail
    refine (awake_any _).mono ?_
    rintro e w1 ⟨rfl, hb1⟩
    have C1 := Lib.hid (C0.out.below hb1)
    obtain ⟨-, -, k0, k1, k2⟩ := C1.out
    clear hb1
    go_wp2_with fail
    refine (HC.out _ C1.out.2.1).mono ?_
    clear k0 k1 k2
    rintro e w2 ⟨rfl, hb2⟩
    have C2 := Lib.hid (C1.out.below hb2)
    obtain ⟨-, -, k0, k1, k2⟩ := C2.out
    clear hb2
    go_wp2_with fail
    refine (class_any _ _ _).mono ?_
    rintro e w3 ⟨rfl, rfl⟩
    go_wp2_with fail
    refine (with_any _ _ _ _).mono ?_
    clear k0 k1 k2
    rintro e w3 ⟨rfl, n3, hw3⟩
    have C3 := Lib.hid (C2.out.below (show Below w2.heap.size w2 w3 by rw [hw3]; exact ⟨rfl, rfl, rfl, Nat.le_refl _, fun _ _ => rfl⟩))
    obtain ⟨-, -, k0, k1, k2⟩ := C3.out
    clear hw3
    go_wp2_with fail
    refine (H1.out _ C3.out.2.1).mono ?_
    clear k0 k1 k2
    rintro e w4 ⟨rfl, hb4⟩
    have C4 := Lib.hid (C3.out.below hb4)
    obtain ⟨-, -, k0, k1, k2⟩ := C4.out
    clear hb4
    go_wp2_with fail
    refine (H2.out _ C4.out.2.1).mono ?_
    clear k0 k1 k2
    rintro e w5 ⟨rfl, hb5⟩
    have C5 := Lib.hid (C4.out.below hb5)
    obtain ⟨-, -, k0, k1, k2⟩ := C5.out
    clear hb5
    go_wp2_with fail
    refine (H3.out _ C5.out.2.1).mono ?_
    clear k0 k1 k2
    rintro e w6 ⟨rfl, hb6⟩
    have C6 := Lib.hid (C5.out.below hb6)
    obtain ⟨-, -, k0, k1, k2⟩ := C6.out
    clear hb6
    go_wp2_with fail
    refine (H4.out _ C6.out.2.1).mono ?_
    clear k0 k1 k2
    rintro e w7 ⟨rfl, hb7⟩
    have C7 := Lib.hid (C6.out.below hb7)
    obtain ⟨-, -, k0, k1, k2⟩ := C7.out
    clear hb7
    go_wp2_with fail
    refine (H5.out _ C7.out.2.1).mono ?_
    clear k0 k1 k2
    rintro e w8 ⟨rfl, hb8⟩
    have C8 := Lib.hid (C7.out.below hb8)
    clear hb8
    go_wp2
    go_ret
    exact ⟨rfl, C8.out.1⟩
  | false =>
    clear H3' H4' HX HM HL HN H3 H4
    go_enter Try.func6, Try.ntmps6
    go_wp2_with fail
    refine (awake_any _).mono ?_
    rintro e w1 ⟨rfl, hb1⟩
    have C1 := Lib.hid (C0.out.below hb1)
    obtain ⟨-, -, k0, k1, k2⟩ := C1.out
    clear hb1
    go_wp2_with fail
    refine (HC.out _ C1.out.2.1).mono ?_
    clear k0 k1 k2
    rintro e w2 ⟨rfl, hb2⟩
    have C2 := Lib.hid (C1.out.below hb2)
    obtain ⟨-, -, k0, k1, k2⟩ := C2.out
    clear hb2
    go_wp2_with fail
    refine (class_any _ _ _).mono ?_
    rintro e w3 ⟨rfl, rfl⟩
    go_wp2_with fail
    refine (with_any _ _ _ _).mono ?_
    clear k0 k1 k2
    rintro e w3 ⟨rfl, n3, hw3⟩
    have C3 := Lib.hid (C2.out.below (show Below w2.heap.size w2 w3 by rw [hw3]; exact ⟨rfl, rfl, rfl, Nat.le_refl _, fun _ _ => rfl⟩))
    obtain ⟨-, -, k0, k1, k2⟩ := C3.out
    clear hw3
    go_wp2_with fail
    refine (H1.out _ C3.out.2.1).mono ?_
    clear k0 k1 k2
    rintro e w4 ⟨rfl, hb4⟩
    have C4 := Lib.hid (C3.out.below hb4)
    obtain ⟨-, -, k0, k1, k2⟩ := C4.out
    clear hb4
    go_wp2_with fail
    refine (H2.out _ C4.out.2.1).mono ?_
    clear k0 k1 k2
    rintro e w5 ⟨rfl, hb5⟩
    have C5 := Lib.hid (C4.out.below hb5)
    obtain ⟨-, -, k0, k1, k2⟩ := C5.out
    clear hb5
    go_wp2_with fail
    refine (H5.out _ C5.out.2.1).mono ?_
    clear k0 k1 k2
    rintro e w8 ⟨rfl, hb8⟩
    have C8 := Lib.hid (C5.out.below hb8)
    clear hb8
    go_wp2
    go_ret
    exact ⟨rfl, C8.out.1⟩
end Go.Proofs.Ytnbpglaklhfgmaa
