/-
  The walk of CredGives: it answers true of whoever asks, and of every number.
-/
import Derived.Test.YtnbpglaklhfgmaaWf
namespace Go.Proofs.Ytnbpglaklhfgmaa
open Go Go.RowKit

/-- The mode of a file behind a write by who isn't root. -/
def gv (M : Int) : Int := dropM (true && bits .and .i64 (cls M 1) 1 != 0) (dropM true (M % 4096) 2048) 1024
theorem gv_at : ∀ a b : Fin 64, bits .and .i64 (gv ((a.val * 64 + b.val : Nat) : Int)) 2048 = 0 ∧ (bits .and .i64 (gv ((a.val * 64 + b.val : Nat) : Int)) 1024 = 0 ∨ gv ((a.val * 64 + b.val : Nat) : Int) / 8 % 2 = 0) ∧ bits .andNot .i64 (gv ((a.val * 64 + b.val : Nat) : Int)) 3072 = bits .andNot .i64 (((a.val * 64 + b.val : Nat) : Int)) 3072 ∧ bits .or .i64 (gv ((a.val * 64 + b.val : Nat) : Int)) (((a.val * 64 + b.val : Nat) : Int)) = ((a.val * 64 + b.val : Nat) : Int) ∧ 0 ≤ gv ((a.val * 64 + b.val : Nat) : Int) := by decide +kernel
theorem gv_own (m : Int) (h0 : 0 ≤ m) (h1 : m < 4096) : bits .and .i64 (gv m) 2048 = 0 ∧ (bits .and .i64 (gv m) 1024 = 0 ∨ gv m / 8 % 2 = 0) ∧ bits .andNot .i64 (gv m) 3072 = bits .andNot .i64 m 3072 ∧ bits .or .i64 (gv m) m = m ∧ 0 ≤ gv m := by
  have h := gv_at ⟨(m / 64).toNat, by omega⟩ ⟨(m % 64).toNat, by omega⟩
  simp only [show (((m / 64).toNat * 64 + (m % 64).toNat : Nat) : Int) = m by omega] at h
  exact h
set_option maxRecDepth 100000 in
set_option maxHeartbeats 8000000 in
theorem givesWalk (u g : Int) (A : Option Addr) (n c : Nat) (gs : List Int) (x y tu tg mode : Int) (w : World) (h : IntsR w (.slice A n c) gs) (d0 : 0 ≤ mode) (d1 : mode ≤ 65535) (t0 : 0 ≤ tu) (t1 : tu ≤ 65535) :
    Calls Try.prog 8 #[.agg #[.int .i64 u, .int .i64 g, .slice A n c], .int .i64 x, .int .i64 y, .int .u16 tu, .int .i64 tg, .int .u16 mode] w fun e w' => e = .returned (.bool true) ∧ Below w.heap.size w w' := by
  have hlen := h.at.1
  subst hlen
  have C0 := Lib.hid (show Cr w w.heap.size u g A gs.length c gs (w.alloc (.cells #[.int .i64 u, .int .i64 g, .slice A gs.length c] 24)) from ⟨ba _ _, h.below (ba _ _), by simp, by simp, by simp⟩)
  clear h
  by_cases hfar : (20 : Int) < (gs.length : Int)
  · go_enter Try.func8, Try.ntmps8
    go_wp2_with fail
    refine (awake_any _).mono ?_
    rintro e w1 ⟨rfl, hb1⟩
    have C1 := Lib.hid (C0.out.below hb1)
    obtain ⟨-, -, k0, k1, k2⟩ := C1.out
    clear hb1
    go_wp2
    go_ret
    exact ⟨rfl, C1.out.1⟩
  have hn : gs.length ≤ 1000000 := by omega
  by_cases hu : u = 0
  · have hu' : (u == 0) = true := by simpa using hu
    clear hu
    go_enter Try.func8, Try.ntmps8
    go_wp2_with fail
    refine (awake_any _).mono ?_
    rintro e w1 ⟨rfl, hb1⟩
    have C1 := Lib.hid (C0.out.below hb1)
    obtain ⟨-, -, k0, k1, k2⟩ := C1.out
    clear hb1
    go_wp2
    go_ret
    exact ⟨rfl, C1.out.1⟩
  have hu' : (u == 0) = false := by simpa using hu
  clear hu
  obtain ⟨M, hM⟩ : ∃ M : Int, mode % 4096 = M := ⟨_, rfl⟩
  have m0 : 0 ≤ M := by omega
  have m1 : M < 4096 := by omega
  have HW := Lib.hid (fun W => written_any u g A gs.length c 1 M W)
  rw [show writM u 1 M = gv M by rw [writM, hu']; rfl] at HW
  obtain ⟨f1, f2, f3, f4, f5⟩ := gv_own M m0 m1
  generalize gv M = X at HW f1 f2 f3 f4 f5
  have HN := Lib.hid (fun W => mayMode_any u g A gs.length c x W)
  have HO := Lib.hid (fun W hI => mayOwn_any u g A gs.length c gs x y (-1) (-1) W hI hn)
  have HP := Lib.hid (fun W hI => mayOwn_any u g A gs.length c gs x y tu tg W hI hn)
  go_enter Try.func8, Try.ntmps8
  go_wp2_with fail
  refine (awake_any _).mono ?_
  rintro e w1 ⟨rfl, hb1⟩
  have C1 := Lib.hid (C0.out.below hb1)
  obtain ⟨-, -, k0, k1, k2⟩ := C1.out
  clear hb1
  go_wp2_with fail
  refine (HW.out _).mono ?_
  clear k0 k1 k2
  rintro e w2 ⟨rfl, hb2⟩
  have C2 := Lib.hid (C1.out.below hb2)
  obtain ⟨-, -, k0, k1, k2⟩ := C2.out
  clear hb2
  by_cases fA : bits .and .i64 X 1024 = 0
  · clear f2
    by_cases hx : x = u
    · subst hx
      by_cases hq : tu = x
      · subst hq
        go_wp2
        go_ret
        exact ⟨rfl, C2.out.1⟩
      · have hq' : (tu == x) = false := by simpa using hq
        have HZ := Lib.hid (show mayOwn x g gs x y tu tg = false by rw [mayOwn, hq', decide_eq_false (by omega)]; simp [hu'])
        rw [HZ.out] at HP
        clear hq
        go_wp2_with fail
        refine (HP.out _ C2.out.2.1).mono ?_
        rintro e w5 ⟨rfl, hb5⟩
        have C5 := Lib.hid (C2.out.below hb5)
        clear hb5
        go_wp2
        go_ret
        exact ⟨rfl, C5.out.1⟩
    · have hx' : (x != u) = true := by simpa using hx
      have hxe : (x == u) = false := by simpa using hx
      have HZ1 := Lib.hid (show mayOwn u g gs x y (-1) (-1) = false by rw [mayOwn, hu', hxe]; rfl)
      rw [HZ1.out] at HO
      rw [hu', hxe] at HN
      clear hx
      go_wp2_with fail
      refine (HN.out _).mono ?_
      clear k0 k1 k2
      rintro e w3 ⟨rfl, hb3⟩
      have C3 := Lib.hid (C2.out.below hb3)
      obtain ⟨-, -, k0, k1, k2⟩ := C3.out
      clear hb3
      go_wp2_with fail
      refine (HO.out _ C3.out.2.1).mono ?_
      clear k0 k1 k2
      rintro e w4 ⟨rfl, hb4⟩
      have C4 := Lib.hid (C3.out.below hb4)
      obtain ⟨-, -, k0, k1, k2⟩ := C4.out
      clear hb4
      by_cases hq : tu = x
      · subst hq
        go_wp2
        go_ret
        exact ⟨rfl, C4.out.1⟩
      · have hq' : (tu == x) = false := by simpa using hq
        have HZ := Lib.hid (show mayOwn u g gs x y tu tg = false by rw [mayOwn, hu', hxe]; rfl)
        rw [HZ.out] at HP
        clear hq
        go_wp2_with fail
        refine (HP.out _ C4.out.2.1).mono ?_
        rintro e w5 ⟨rfl, hb5⟩
        have C5 := Lib.hid (C4.out.below hb5)
        clear hb5
        go_wp2
        go_ret
        exact ⟨rfl, C5.out.1⟩
  · have fB : bits .and .i64 (X / 8) 1 = 0 := by rw [and1]; omega
    clear f2
    by_cases hx : x = u
    · subst hx
      by_cases hq : tu = x
      · subst hq
        go_wp2
        go_ret
        exact ⟨rfl, C2.out.1⟩
      · have hq' : (tu == x) = false := by simpa using hq
        have HZ := Lib.hid (show mayOwn x g gs x y tu tg = false by rw [mayOwn, hq', decide_eq_false (by omega)]; simp [hu'])
        rw [HZ.out] at HP
        clear hq
        go_wp2_with fail
        refine (HP.out _ C2.out.2.1).mono ?_
        rintro e w5 ⟨rfl, hb5⟩
        have C5 := Lib.hid (C2.out.below hb5)
        clear hb5
        go_wp2
        go_ret
        exact ⟨rfl, C5.out.1⟩
    · have hx' : (x != u) = true := by simpa using hx
      have hxe : (x == u) = false := by simpa using hx
      have HZ1 := Lib.hid (show mayOwn u g gs x y (-1) (-1) = false by rw [mayOwn, hu', hxe]; rfl)
      rw [HZ1.out] at HO
      rw [hu', hxe] at HN
      clear hx
      go_wp2_with fail
      refine (HN.out _).mono ?_
      clear k0 k1 k2
      rintro e w3 ⟨rfl, hb3⟩
      have C3 := Lib.hid (C2.out.below hb3)
      obtain ⟨-, -, k0, k1, k2⟩ := C3.out
      clear hb3
      go_wp2_with fail
      refine (HO.out _ C3.out.2.1).mono ?_
      clear k0 k1 k2
      rintro e w4 ⟨rfl, hb4⟩
      have C4 := Lib.hid (C3.out.below hb4)
      obtain ⟨-, -, k0, k1, k2⟩ := C4.out
      clear hb4
      by_cases hq : tu = x
      · subst hq
        go_wp2
        go_ret
        exact ⟨rfl, C4.out.1⟩
      · have hq' : (tu == x) = false := by simpa using hq
        have HZ := Lib.hid (show mayOwn u g gs x y tu tg = false by rw [mayOwn, hu', hxe]; rfl)
        rw [HZ.out] at HP
        clear hq
        go_wp2_with fail
        refine (HP.out _ C4.out.2.1).mono ?_
        rintro e w5 ⟨rfl, hb5⟩
        have C5 := Lib.hid (C4.out.below hb5)
        clear hb5
        go_wp2
        go_ret
        exact ⟨rfl, C5.out.1⟩
end Go.Proofs.Ytnbpglaklhfgmaa
