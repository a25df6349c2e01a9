/-
  The walk of ApplyStays: it answers true, whatever it is handed.
-/
import Derived.Test.YtbjajipeiigodaaDoorAwake
import Derived.Test.YtbjajipeiigodaaDoorAMath
namespace Go.Proofs.YtbjajipeiigodaaDoor
open Go Go.RowKit

theorem u8_wf {n : Int} (h : (Lit.int .u8 n).wf = true) : 0 ≤ n ∧ n ≤ 255 := by simpa [Lit.wf, IntKind.min, IntKind.max, IntKind.signed, IntKind.bits] using h
theorem u16_wf {n : Int} (h : (Lit.int .u16 n).wf = true) : 0 ≤ n ∧ n ≤ 65535 := by simpa [Lit.wf, IntKind.min, IntKind.max, IntKind.signed, IntKind.bits] using h
theorem sign_at : (⟨#[43, 45, 61]⟩ : ByteArray)[0].toNat = 43 ∧ (⟨#[43, 45, 61]⟩ : ByteArray)[1].toNat = 45 ∧ (⟨#[43, 45, 61]⟩ : ByteArray)[2].toNat = 61 := ⟨rfl, rfl, rfl⟩
theorem one_apply (op : UInt8) (I who' c' : Int) (who p c m : Nat) (dir : Bool) (u : Int) (w : World) (hI : I = co op) (hwho : who' = (who : Int)) (hc' : c' = (c : Int)) (ho : op = 43 ∨ op = 45 ∨ op = 61) (hw : who < 8) (hp : p < 64) (hc : c ≤ 3) (hpc : p = 0 ∨ c = 0) (hm : m < 4096) :
    Calls Tryd.prog 29 #[.slice (some ⟨w.heap.size + 1, 0, none⟩) 1 1, .int .i64 (m : Int), .bool dir, .int .i64 u] ((w.alloc (.cells #[.int .u8 I, .int .i64 (p : Int), .int .i64 c'] 60)).alloc (.cells #[.int .i64 who', .slice (some ⟨w.heap.size, 0, none⟩) 1 1] 34))
      fun e w' => e = .returned (.int .i64 (actN op who (u % 4096).toNat p c m dir : Nat)) ∧ Below w.heap.size w w' := by
  subst hI hwho hc'
  have h := apply_any (.slice (some ⟨w.heap.size + 1, 0, none⟩) 1 1) [⟨(who : Int), [⟨op, (p : Int), (c : Int)⟩]⟩] (m : Int) dir u _ (one_cls w op (who : Int) (p : Int) (c : Int)) (by simp) (by intro x hx; simp only [List.mem_singleton] at hx; subst hx; simp)
  rw [applyM_one op who p c m dir u ho hw hp hc hpc hm] at h
  refine h.mono fun e w' ⟨he, hb⟩ => ⟨he, ?_⟩
  have hb0 : Below w.heap.size w ((w.alloc (.cells #[.int .u8 (co op), .int .i64 (p : Int), .int .i64 (c : Int)] 60)).alloc (.cells #[.int .i64 (who : Int), .slice (some ⟨w.heap.size, 0, none⟩) 1 1] 34)) := ((Below.refl _ _).alloc (Nat.le_refl _) _).alloc (by simp) _
  exact hb0.trans (hb.mono hb0.size)
theorem cls_stays (op : UInt8) (who um p c m : Nat) (dir : Bool) (k : Nat) (hw : who ≠ 0) (hk : k < 3) (hn : who.testBit k = false) : (cls ((actN op who um p c m dir : Nat) : Int) (k : Int) != cls (m : Int) (k : Int)) = false := by
  rw [cls_nat _ _ hk, cls_nat _ _ hk, stays op who um p c m dir k hw hk hn]
  simp
set_option maxRecDepth 100000 in
set_option maxHeartbeats 4000000 in
theorem stays0 (who op perms mode : Int) (dir : Bool) (u : Int) (w : World) (a0 : 0 ≤ who) (b0 : 0 ≤ op) (c0 : 0 ≤ perms) (d0 : 0 ≤ mode) (u0 : 0 ≤ u) (u1 : u ≤ 65535) (hop : op % 3 = 0) : Calls Tryd.prog 10 #[.int .u8 who, .int .u8 op, .int .u8 perms, .int .u16 mode, .bool dir, .int .u16 u] w fun e w' => e = .returned (.bool true) ∧ Below w.heap.size w w' := by
  obtain ⟨p, hp⟩ : ∃ p : Nat, perms % 64 = (p : Int) := ⟨(perms % 64).toNat, by omega⟩
  obtain ⟨m, hm⟩ : ∃ m : Nat, mode % 4096 = (m : Int) := ⟨(mode % 4096).toNat, by omega⟩
  have hp64 : p < 64 := by omega
  have hm4 : m < 4096 := by omega
  obtain ⟨um, hum⟩ : ∃ um, (u % 4096).toNat = um := ⟨_, rfl⟩
  obtain hw | hw | hw | hw | hw | hw | hw | hw : who % 8 = 0 ∨ who % 8 = 1 ∨ who % 8 = 2 ∨ who % 8 = 3 ∨ who % 8 = 4 ∨ who % 8 = 5 ∨ who % 8 = 6 ∨ who % 8 = 7 := by omega
  · have HAP := Lib.hid (fun w => one_apply 43 43 0 0 0 p 0 m dir u w rfl rfl rfl (by decide) (by decide) hp64 (by decide) (.inr rfl) hm4)
    rw [hum] at HAP
    have hx := actN_lt 43 0 um p 0 m dir
    have hend := plus_keeps 0 um p 0 m dir hm4
    obtain ⟨X, hX⟩ : ∃ X, actN 43 0 um p 0 m dir = X := ⟨_, rfl⟩
    rw [hX] at HAP hx hend
    have hfin : (bits .or .i64 (X : Int) (m : Int) == (X : Int)) = true := by rw [or_nat X m hx hm4, hend]; simp
    have hsg := sign_at.1
    clear hX hend hum
    go_enter Tryd.func10, Tryd.ntmps10
    go_wp2_with fail
    refine (awake3_any _).mono ?_
    rintro e w1 ⟨rfl, hb1⟩
    have HB1 := Lib.hid hb1
    clear hb1
    go_wp2_with fail
    refine (HAP.out _).mono ?_
    rintro e w2 ⟨rfl, hb2⟩
    have HB2 := Lib.hid (HB1.out.trans (hb2.mono HB1.out.size))
    clear hb2
    go_wp2
    refine wp_loop_rounds 4 ?_
    rw [rounds_succ]
    go_wp2_with (go_at_call 32; refine (class_any _ _ _).mono ?_; rintro e w' ⟨rfl, rfl⟩)
    rw [rounds_succ]
    go_wp2_with (go_at_call 32; refine (class_any _ _ _).mono ?_; rintro e w' ⟨rfl, rfl⟩)
    rw [rounds_succ]
    go_wp2_with (go_at_call 32; refine (class_any _ _ _).mono ?_; rintro e w' ⟨rfl, rfl⟩)
    rw [rounds_succ]
    go_wp2
    go_ret
    exact ⟨rfl, HB2.out⟩
  · have HAP := Lib.hid (fun w => one_apply 43 43 1 0 1 p 0 m dir u w rfl rfl rfl (by decide) (by decide) hp64 (by decide) (.inr rfl) hm4)
    rw [hum] at HAP
    have hx := actN_lt 43 1 um p 0 m dir
    have f1 := cls_stays 43 1 um p 0 m dir 1 (by decide) (by decide) (by decide)
    have f2 := cls_stays 43 1 um p 0 m dir 2 (by decide) (by decide) (by decide)
    have hend := plus_keeps 1 um p 0 m dir hm4
    obtain ⟨X, hX⟩ : ∃ X, actN 43 1 um p 0 m dir = X := ⟨_, rfl⟩
    rw [hX] at HAP hx f1 f2 hend
    have hfin : (bits .or .i64 (X : Int) (m : Int) == (X : Int)) = true := by rw [or_nat X m hx hm4, hend]; simp
    have f1' : (cls (X : Int) 1 != cls (m : Int) 1) = false := f1
    have f2' : (cls (X : Int) 2 != cls (m : Int) 2) = false := f2
    have hsg := sign_at.1
    clear hX hend f1 f2 hum
    go_enter Tryd.func10, Tryd.ntmps10
    go_wp2_with fail
    refine (awake3_any _).mono ?_
    rintro e w1 ⟨rfl, hb1⟩
    have HB1 := Lib.hid hb1
    clear hb1
    go_wp2_with fail
    refine (HAP.out _).mono ?_
    rintro e w2 ⟨rfl, hb2⟩
    have HB2 := Lib.hid (HB1.out.trans (hb2.mono HB1.out.size))
    clear hb2
    go_wp2
    refine wp_loop_rounds 4 ?_
    rw [rounds_succ]
    go_wp2_with (go_at_call 32; refine (class_any _ _ _).mono ?_; rintro e w' ⟨rfl, rfl⟩)
    rw [rounds_succ]
    go_wp2_with (go_at_call 32; refine (class_any _ _ _).mono ?_; rintro e w' ⟨rfl, rfl⟩)
    rw [rounds_succ]
    go_wp2_with (go_at_call 32; refine (class_any _ _ _).mono ?_; rintro e w' ⟨rfl, rfl⟩)
    rw [rounds_succ]
    go_wp2
    go_ret
    exact ⟨rfl, HB2.out⟩
  · have HAP := Lib.hid (fun w => one_apply 43 43 2 0 2 p 0 m dir u w rfl rfl rfl (by decide) (by decide) hp64 (by decide) (.inr rfl) hm4)
    rw [hum] at HAP
    have hx := actN_lt 43 2 um p 0 m dir
    have f0 := cls_stays 43 2 um p 0 m dir 0 (by decide) (by decide) (by decide)
    have f2 := cls_stays 43 2 um p 0 m dir 2 (by decide) (by decide) (by decide)
    have hend := plus_keeps 2 um p 0 m dir hm4
    obtain ⟨X, hX⟩ : ∃ X, actN 43 2 um p 0 m dir = X := ⟨_, rfl⟩
    rw [hX] at HAP hx f0 f2 hend
    have hfin : (bits .or .i64 (X : Int) (m : Int) == (X : Int)) = true := by rw [or_nat X m hx hm4, hend]; simp
    have f0' : (cls (X : Int) 0 != cls (m : Int) 0) = false := f0
    have f2' : (cls (X : Int) 2 != cls (m : Int) 2) = false := f2
    have hsg := sign_at.1
    clear hX hend f0 f2 hum
    go_enter Tryd.func10, Tryd.ntmps10
    go_wp2_with fail
    refine (awake3_any _).mono ?_
    rintro e w1 ⟨rfl, hb1⟩
    have HB1 := Lib.hid hb1
    clear hb1
    go_wp2_with fail
    refine (HAP.out _).mono ?_
    rintro e w2 ⟨rfl, hb2⟩
    have HB2 := Lib.hid (HB1.out.trans (hb2.mono HB1.out.size))
    clear hb2
    go_wp2
    refine wp_loop_rounds 4 ?_
    rw [rounds_succ]
    go_wp2_with (go_at_call 32; refine (class_any _ _ _).mono ?_; rintro e w' ⟨rfl, rfl⟩)
    rw [rounds_succ]
    go_wp2_with (go_at_call 32; refine (class_any _ _ _).mono ?_; rintro e w' ⟨rfl, rfl⟩)
    rw [rounds_succ]
    go_wp2_with (go_at_call 32; refine (class_any _ _ _).mono ?_; rintro e w' ⟨rfl, rfl⟩)
    rw [rounds_succ]
    go_wp2
    go_ret
    exact ⟨rfl, HB2.out⟩
  · have HAP := Lib.hid (fun w => one_apply 43 43 3 0 3 p 0 m dir u w rfl rfl rfl (by decide) (by decide) hp64 (by decide) (.inr rfl) hm4)
    rw [hum] at HAP
    have hx := actN_lt 43 3 um p 0 m dir
    have f2 := cls_stays 43 3 um p 0 m dir 2 (by decide) (by decide) (by decide)
    have hend := plus_keeps 3 um p 0 m dir hm4
    obtain ⟨X, hX⟩ : ∃ X, actN 43 3 um p 0 m dir = X := ⟨_, rfl⟩
    rw [hX] at HAP hx f2 hend
    have hfin : (bits .or .i64 (X : Int) (m : Int) == (X : Int)) = true := by rw [or_nat X m hx hm4, hend]; simp
    have f2' : (cls (X : Int) 2 != cls (m : Int) 2) = false := f2
    have hsg := sign_at.1
    clear hX hend f2 hum
    go_enter Tryd.func10, Tryd.ntmps10
    go_wp2_with fail
    refine (awake3_any _).mono ?_
    rintro e w1 ⟨rfl, hb1⟩
    have HB1 := Lib.hid hb1
    clear hb1
    go_wp2_with fail
    refine (HAP.out _).mono ?_
    rintro e w2 ⟨rfl, hb2⟩
    have HB2 := Lib.hid (HB1.out.trans (hb2.mono HB1.out.size))
    clear hb2
    go_wp2
    refine wp_loop_rounds 4 ?_
    rw [rounds_succ]
    go_wp2_with (go_at_call 32; refine (class_any _ _ _).mono ?_; rintro e w' ⟨rfl, rfl⟩)
    rw [rounds_succ]
    go_wp2_with (go_at_call 32; refine (class_any _ _ _).mono ?_; rintro e w' ⟨rfl, rfl⟩)
    rw [rounds_succ]
    go_wp2_with (go_at_call 32; refine (class_any _ _ _).mono ?_; rintro e w' ⟨rfl, rfl⟩)
    rw [rounds_succ]
    go_wp2
    go_ret
    exact ⟨rfl, HB2.out⟩
  · have HAP := Lib.hid (fun w => one_apply 43 43 4 0 4 p 0 m dir u w rfl rfl rfl (by decide) (by decide) hp64 (by decide) (.inr rfl) hm4)
    rw [hum] at HAP
    have hx := actN_lt 43 4 um p 0 m dir
    have f0 := cls_stays 43 4 um p 0 m dir 0 (by decide) (by decide) (by decide)
    have f1 := cls_stays 43 4 um p 0 m dir 1 (by decide) (by decide) (by decide)
    have hend := plus_keeps 4 um p 0 m dir hm4
    obtain ⟨X, hX⟩ : ∃ X, actN 43 4 um p 0 m dir = X := ⟨_, rfl⟩
    rw [hX] at HAP hx f0 f1 hend
    have hfin : (bits .or .i64 (X : Int) (m : Int) == (X : Int)) = true := by rw [or_nat X m hx hm4, hend]; simp
    have f0' : (cls (X : Int) 0 != cls (m : Int) 0) = false := f0
    have f1' : (cls (X : Int) 1 != cls (m : Int) 1) = false := f1
    have hsg := sign_at.1
    clear hX hend f0 f1 hum
    go_enter Tryd.func10, Tryd.ntmps10
    go_wp2_with fail
    refine (awake3_any _).mono ?_
    rintro e w1 ⟨rfl, hb1⟩
    have HB1 := Lib.hid hb1
    clear hb1
    go_wp2_with fail
    refine (HAP.out _).mono ?_
    rintro e w2 ⟨rfl, hb2⟩
    have HB2 := Lib.hid (HB1.out.trans (hb2.mono HB1.out.size))
    clear hb2
    go_wp2
    refine wp_loop_rounds 4 ?_
    rw [rounds_succ]
    go_wp2_with (go_at_call 32; refine (class_any _ _ _).mono ?_; rintro e w' ⟨rfl, rfl⟩)
    rw [rounds_succ]
    go_wp2_with (go_at_call 32; refine (class_any _ _ _).mono ?_; rintro e w' ⟨rfl, rfl⟩)
    rw [rounds_succ]
    go_wp2_with (go_at_call 32; refine (class_any _ _ _).mono ?_; rintro e w' ⟨rfl, rfl⟩)
    rw [rounds_succ]
    go_wp2
    go_ret
    exact ⟨rfl, HB2.out⟩
  · have HAP := Lib.hid (fun w => one_apply 43 43 5 0 5 p 0 m dir u w rfl rfl rfl (by decide) (by decide) hp64 (by decide) (.inr rfl) hm4)
    rw [hum] at HAP
    have hx := actN_lt 43 5 um p 0 m dir
    have f1 := cls_stays 43 5 um p 0 m dir 1 (by decide) (by decide) (by decide)
    have hend := plus_keeps 5 um p 0 m dir hm4
    obtain ⟨X, hX⟩ : ∃ X, actN 43 5 um p 0 m dir = X := ⟨_, rfl⟩
    rw [hX] at HAP hx f1 hend
    have hfin : (bits .or .i64 (X : Int) (m : Int) == (X : Int)) = true := by rw [or_nat X m hx hm4, hend]; simp
    have f1' : (cls (X : Int) 1 != cls (m : Int) 1) = false := f1
    have hsg := sign_at.1
    clear hX hend f1 hum
    go_enter Tryd.func10, Tryd.ntmps10
    go_wp2_with fail
    refine (awake3_any _).mono ?_
    rintro e w1 ⟨rfl, hb1⟩
    have HB1 := Lib.hid hb1
    clear hb1
    go_wp2_with fail
    refine (HAP.out _).mono ?_
    rintro e w2 ⟨rfl, hb2⟩
    have HB2 := Lib.hid (HB1.out.trans (hb2.mono HB1.out.size))
    clear hb2
    go_wp2
    refine wp_loop_rounds 4 ?_
    rw [rounds_succ]
    go_wp2_with (go_at_call 32; refine (class_any _ _ _).mono ?_; rintro e w' ⟨rfl, rfl⟩)
    rw [rounds_succ]
    go_wp2_with (go_at_call 32; refine (class_any _ _ _).mono ?_; rintro e w' ⟨rfl, rfl⟩)
    rw [rounds_succ]
    go_wp2_with (go_at_call 32; refine (class_any _ _ _).mono ?_; rintro e w' ⟨rfl, rfl⟩)
    rw [rounds_succ]
    go_wp2
    go_ret
    exact ⟨rfl, HB2.out⟩
  · have HAP := Lib.hid (fun w => one_apply 43 43 6 0 6 p 0 m dir u w rfl rfl rfl (by decide) (by decide) hp64 (by decide) (.inr rfl) hm4)
    rw [hum] at HAP
    have hx := actN_lt 43 6 um p 0 m dir
    have f0 := cls_stays 43 6 um p 0 m dir 0 (by decide) (by decide) (by decide)
    have hend := plus_keeps 6 um p 0 m dir hm4
    obtain ⟨X, hX⟩ : ∃ X, actN 43 6 um p 0 m dir = X := ⟨_, rfl⟩
    rw [hX] at HAP hx f0 hend
    have hfin : (bits .or .i64 (X : Int) (m : Int) == (X : Int)) = true := by rw [or_nat X m hx hm4, hend]; simp
    have f0' : (cls (X : Int) 0 != cls (m : Int) 0) = false := f0
    have hsg := sign_at.1
    clear hX hend f0 hum
    go_enter Tryd.func10, Tryd.ntmps10
    go_wp2_with fail
    refine (awake3_any _).mono ?_
    rintro e w1 ⟨rfl, hb1⟩
    have HB1 := Lib.hid hb1
    clear hb1
    go_wp2_with fail
    refine (HAP.out _).mono ?_
    rintro e w2 ⟨rfl, hb2⟩
    have HB2 := Lib.hid (HB1.out.trans (hb2.mono HB1.out.size))
    clear hb2
    go_wp2
    refine wp_loop_rounds 4 ?_
    rw [rounds_succ]
    go_wp2_with (go_at_call 32; refine (class_any _ _ _).mono ?_; rintro e w' ⟨rfl, rfl⟩)
    rw [rounds_succ]
    go_wp2_with (go_at_call 32; refine (class_any _ _ _).mono ?_; rintro e w' ⟨rfl, rfl⟩)
    rw [rounds_succ]
    go_wp2_with (go_at_call 32; refine (class_any _ _ _).mono ?_; rintro e w' ⟨rfl, rfl⟩)
    rw [rounds_succ]
    go_wp2
    go_ret
    exact ⟨rfl, HB2.out⟩
  · have HAP := Lib.hid (fun w => one_apply 43 43 7 0 7 p 0 m dir u w rfl rfl rfl (by decide) (by decide) hp64 (by decide) (.inr rfl) hm4)
    rw [hum] at HAP
    have hx := actN_lt 43 7 um p 0 m dir
    have hend := plus_keeps 7 um p 0 m dir hm4
    obtain ⟨X, hX⟩ : ∃ X, actN 43 7 um p 0 m dir = X := ⟨_, rfl⟩
    rw [hX] at HAP hx hend
    have hfin : (bits .or .i64 (X : Int) (m : Int) == (X : Int)) = true := by rw [or_nat X m hx hm4, hend]; simp
    have hsg := sign_at.1
    clear hX hend hum
    go_enter Tryd.func10, Tryd.ntmps10
    go_wp2_with fail
    refine (awake3_any _).mono ?_
    rintro e w1 ⟨rfl, hb1⟩
    have HB1 := Lib.hid hb1
    clear hb1
    go_wp2_with fail
    refine (HAP.out _).mono ?_
    rintro e w2 ⟨rfl, hb2⟩
    have HB2 := Lib.hid (HB1.out.trans (hb2.mono HB1.out.size))
    clear hb2
    go_wp2
    refine wp_loop_rounds 4 ?_
    rw [rounds_succ]
    go_wp2_with (go_at_call 32; refine (class_any _ _ _).mono ?_; rintro e w' ⟨rfl, rfl⟩)
    rw [rounds_succ]
    go_wp2_with (go_at_call 32; refine (class_any _ _ _).mono ?_; rintro e w' ⟨rfl, rfl⟩)
    rw [rounds_succ]
    go_wp2_with (go_at_call 32; refine (class_any _ _ _).mono ?_; rintro e w' ⟨rfl, rfl⟩)
    rw [rounds_succ]
    go_wp2
    go_ret
    exact ⟨rfl, HB2.out⟩
set_option maxRecDepth 100000 in
set_option maxHeartbeats 4000000 in
theorem stays1 (who op perms mode : Int) (dir : Bool) (u : Int) (w : World) (a0 : 0 ≤ who) (b0 : 0 ≤ op) (c0 : 0 ≤ perms) (d0 : 0 ≤ mode) (u0 : 0 ≤ u) (u1 : u ≤ 65535) (hop : op % 3 = 1) : Calls Tryd.prog 10 #[.int .u8 who, .int .u8 op, .int .u8 perms, .int .u16 mode, .bool dir, .int .u16 u] w fun e w' => e = .returned (.bool true) ∧ Below w.heap.size w w' := by
  obtain ⟨p, hp⟩ : ∃ p : Nat, perms % 64 = (p : Int) := ⟨(perms % 64).toNat, by omega⟩
  obtain ⟨m, hm⟩ : ∃ m : Nat, mode % 4096 = (m : Int) := ⟨(mode % 4096).toNat, by omega⟩
  have hp64 : p < 64 := by omega
  have hm4 : m < 4096 := by omega
  obtain ⟨um, hum⟩ : ∃ um, (u % 4096).toNat = um := ⟨_, rfl⟩
  obtain hw | hw | hw | hw | hw | hw | hw | hw : who % 8 = 0 ∨ who % 8 = 1 ∨ who % 8 = 2 ∨ who % 8 = 3 ∨ who % 8 = 4 ∨ who % 8 = 5 ∨ who % 8 = 6 ∨ who % 8 = 7 := by omega
  · have HAP := Lib.hid (fun w => one_apply 45 45 0 0 0 p 0 m dir u w rfl rfl rfl (by decide) (by decide) hp64 (by decide) (.inr rfl) hm4)
    rw [hum] at HAP
    have hx := actN_lt 45 0 um p 0 m dir
    have hend := minus_wins 0 um p 0 m dir
    obtain ⟨X, hX⟩ : ∃ X, actN 45 0 um p 0 m dir = X := ⟨_, rfl⟩
    rw [hX] at HAP hx hend
    have hfin : (bits .or .i64 (X : Int) (m : Int) == (m : Int)) = true := by rw [or_nat X m hx hm4, hend]; simp
    have hsg := sign_at.2.1
    clear hX hend hum
    go_enter Tryd.func10, Tryd.ntmps10
    go_wp2_with fail
    refine (awake3_any _).mono ?_
    rintro e w1 ⟨rfl, hb1⟩
    have HB1 := Lib.hid hb1
    clear hb1
    go_wp2_with fail
    refine (HAP.out _).mono ?_
    rintro e w2 ⟨rfl, hb2⟩
    have HB2 := Lib.hid (HB1.out.trans (hb2.mono HB1.out.size))
    clear hb2
    go_wp2
    refine wp_loop_rounds 4 ?_
    rw [rounds_succ]
    go_wp2_with (go_at_call 32; refine (class_any _ _ _).mono ?_; rintro e w' ⟨rfl, rfl⟩)
    rw [rounds_succ]
    go_wp2_with (go_at_call 32; refine (class_any _ _ _).mono ?_; rintro e w' ⟨rfl, rfl⟩)
    rw [rounds_succ]
    go_wp2_with (go_at_call 32; refine (class_any _ _ _).mono ?_; rintro e w' ⟨rfl, rfl⟩)
    rw [rounds_succ]
    go_wp2
    go_ret
    exact ⟨rfl, HB2.out⟩
  · have HAP := Lib.hid (fun w => one_apply 45 45 1 0 1 p 0 m dir u w rfl rfl rfl (by decide) (by decide) hp64 (by decide) (.inr rfl) hm4)
    rw [hum] at HAP
    have hx := actN_lt 45 1 um p 0 m dir
    have f1 := cls_stays 45 1 um p 0 m dir 1 (by decide) (by decide) (by decide)
    have f2 := cls_stays 45 1 um p 0 m dir 2 (by decide) (by decide) (by decide)
    have hend := minus_wins 1 um p 0 m dir
    obtain ⟨X, hX⟩ : ∃ X, actN 45 1 um p 0 m dir = X := ⟨_, rfl⟩
    rw [hX] at HAP hx f1 f2 hend
    have hfin : (bits .or .i64 (X : Int) (m : Int) == (m : Int)) = true := by rw [or_nat X m hx hm4, hend]; simp
    have f1' : (cls (X : Int) 1 != cls (m : Int) 1) = false := f1
    have f2' : (cls (X : Int) 2 != cls (m : Int) 2) = false := f2
    have hsg := sign_at.2.1
    clear hX hend f1 f2 hum
    go_enter Tryd.func10, Tryd.ntmps10
    go_wp2_with fail
    refine (awake3_any _).mono ?_
    rintro e w1 ⟨rfl, hb1⟩
    have HB1 := Lib.hid hb1
    clear hb1
    go_wp2_with fail
    refine (HAP.out _).mono ?_
    rintro e w2 ⟨rfl, hb2⟩
    have HB2 := Lib.hid (HB1.out.trans (hb2.mono HB1.out.size))
    clear hb2
    go_wp2
    refine wp_loop_rounds 4 ?_
    rw [rounds_succ]
    go_wp2_with (go_at_call 32; refine (class_any _ _ _).mono ?_; rintro e w' ⟨rfl, rfl⟩)
    rw [rounds_succ]
    go_wp2_with (go_at_call 32; refine (class_any _ _ _).mono ?_; rintro e w' ⟨rfl, rfl⟩)
    rw [rounds_succ]
    go_wp2_with (go_at_call 32; refine (class_any _ _ _).mono ?_; rintro e w' ⟨rfl, rfl⟩)
    rw [rounds_succ]
    go_wp2
    go_ret
    exact ⟨rfl, HB2.out⟩
  · have HAP := Lib.hid (fun w => one_apply 45 45 2 0 2 p 0 m dir u w rfl rfl rfl (by decide) (by decide) hp64 (by decide) (.inr rfl) hm4)
    rw [hum] at HAP
    have hx := actN_lt 45 2 um p 0 m dir
    have f0 := cls_stays 45 2 um p 0 m dir 0 (by decide) (by decide) (by decide)
    have f2 := cls_stays 45 2 um p 0 m dir 2 (by decide) (by decide) (by decide)
    have hend := minus_wins 2 um p 0 m dir
    obtain ⟨X, hX⟩ : ∃ X, actN 45 2 um p 0 m dir = X := ⟨_, rfl⟩
    rw [hX] at HAP hx f0 f2 hend
    have hfin : (bits .or .i64 (X : Int) (m : Int) == (m : Int)) = true := by rw [or_nat X m hx hm4, hend]; simp
    have f0' : (cls (X : Int) 0 != cls (m : Int) 0) = false := f0
    have f2' : (cls (X : Int) 2 != cls (m : Int) 2) = false := f2
    have hsg := sign_at.2.1
    clear hX hend f0 f2 hum
    go_enter Tryd.func10, Tryd.ntmps10
    go_wp2_with fail
    refine (awake3_any _).mono ?_
    rintro e w1 ⟨rfl, hb1⟩
    have HB1 := Lib.hid hb1
    clear hb1
    go_wp2_with fail
    refine (HAP.out _).mono ?_
    rintro e w2 ⟨rfl, hb2⟩
    have HB2 := Lib.hid (HB1.out.trans (hb2.mono HB1.out.size))
    clear hb2
    go_wp2
    refine wp_loop_rounds 4 ?_
    rw [rounds_succ]
    go_wp2_with (go_at_call 32; refine (class_any _ _ _).mono ?_; rintro e w' ⟨rfl, rfl⟩)
    rw [rounds_succ]
    go_wp2_with (go_at_call 32; refine (class_any _ _ _).mono ?_; rintro e w' ⟨rfl, rfl⟩)
    rw [rounds_succ]
    go_wp2_with (go_at_call 32; refine (class_any _ _ _).mono ?_; rintro e w' ⟨rfl, rfl⟩)
    rw [rounds_succ]
    go_wp2
    go_ret
    exact ⟨rfl, HB2.out⟩
  · have HAP := Lib.hid (fun w => one_apply 45 45 3 0 3 p 0 m dir u w rfl rfl rfl (by decide) (by decide) hp64 (by decide) (.inr rfl) hm4)
    rw [hum] at HAP
    have hx := actN_lt 45 3 um p 0 m dir
    have f2 := cls_stays 45 3 um p 0 m dir 2 (by decide) (by decide) (by decide)
    have hend := minus_wins 3 um p 0 m dir
    obtain ⟨X, hX⟩ : ∃ X, actN 45 3 um p 0 m dir = X := ⟨_, rfl⟩
    rw [hX] at HAP hx f2 hend
    have hfin : (bits .or .i64 (X : Int) (m : Int) == (m : Int)) = true := by rw [or_nat X m hx hm4, hend]; simp
    have f2' : (cls (X : Int) 2 != cls (m : Int) 2) = false := f2
    have hsg := sign_at.2.1
    clear hX hend f2 hum
    go_enter Tryd.func10, Tryd.ntmps10
    go_wp2_with fail
    refine (awake3_any _).mono ?_
    rintro e w1 ⟨rfl, hb1⟩
    have HB1 := Lib.hid hb1
    clear hb1
    go_wp2_with fail
    refine (HAP.out _).mono ?_
    rintro e w2 ⟨rfl, hb2⟩
    have HB2 := Lib.hid (HB1.out.trans (hb2.mono HB1.out.size))
    clear hb2
    go_wp2
    refine wp_loop_rounds 4 ?_
    rw [rounds_succ]
    go_wp2_with (go_at_call 32; refine (class_any _ _ _).mono ?_; rintro e w' ⟨rfl, rfl⟩)
    rw [rounds_succ]
    go_wp2_with (go_at_call 32; refine (class_any _ _ _).mono ?_; rintro e w' ⟨rfl, rfl⟩)
    rw [rounds_succ]
    go_wp2_with (go_at_call 32; refine (class_any _ _ _).mono ?_; rintro e w' ⟨rfl, rfl⟩)
    rw [rounds_succ]
    go_wp2
    go_ret
    exact ⟨rfl, HB2.out⟩
  · have HAP := Lib.hid (fun w => one_apply 45 45 4 0 4 p 0 m dir u w rfl rfl rfl (by decide) (by decide) hp64 (by decide) (.inr rfl) hm4)
    rw [hum] at HAP
    have hx := actN_lt 45 4 um p 0 m dir
    have f0 := cls_stays 45 4 um p 0 m dir 0 (by decide) (by decide) (by decide)
    have f1 := cls_stays 45 4 um p 0 m dir 1 (by decide) (by decide) (by decide)
    have hend := minus_wins 4 um p 0 m dir
    obtain ⟨X, hX⟩ : ∃ X, actN 45 4 um p 0 m dir = X := ⟨_, rfl⟩
    rw [hX] at HAP hx f0 f1 hend
    have hfin : (bits .or .i64 (X : Int) (m : Int) == (m : Int)) = true := by rw [or_nat X m hx hm4, hend]; simp
    have f0' : (cls (X : Int) 0 != cls (m : Int) 0) = false := f0
    have f1' : (cls (X : Int) 1 != cls (m : Int) 1) = false := f1
    have hsg := sign_at.2.1
    clear hX hend f0 f1 hum
    go_enter Tryd.func10, Tryd.ntmps10
    go_wp2_with fail
    refine (awake3_any _).mono ?_
    rintro e w1 ⟨rfl, hb1⟩
    have HB1 := Lib.hid hb1
    clear hb1
    go_wp2_with fail
    refine (HAP.out _).mono ?_
    rintro e w2 ⟨rfl, hb2⟩
    have HB2 := Lib.hid (HB1.out.trans (hb2.mono HB1.out.size))
    clear hb2
    go_wp2
    refine wp_loop_rounds 4 ?_
    rw [rounds_succ]
    go_wp2_with (go_at_call 32; refine (class_any _ _ _).mono ?_; rintro e w' ⟨rfl, rfl⟩)
    rw [rounds_succ]
    go_wp2_with (go_at_call 32; refine (class_any _ _ _).mono ?_; rintro e w' ⟨rfl, rfl⟩)
    rw [rounds_succ]
    go_wp2_with (go_at_call 32; refine (class_any _ _ _).mono ?_; rintro e w' ⟨rfl, rfl⟩)
    rw [rounds_succ]
    go_wp2
    go_ret
    exact ⟨rfl, HB2.out⟩
  · have HAP := Lib.hid (fun w => one_apply 45 45 5 0 5 p 0 m dir u w rfl rfl rfl (by decide) (by decide) hp64 (by decide) (.inr rfl) hm4)
    rw [hum] at HAP
    have hx := actN_lt 45 5 um p 0 m dir
    have f1 := cls_stays 45 5 um p 0 m dir 1 (by decide) (by decide) (by decide)
    have hend := minus_wins 5 um p 0 m dir
    obtain ⟨X, hX⟩ : ∃ X, actN 45 5 um p 0 m dir = X := ⟨_, rfl⟩
    rw [hX] at HAP hx f1 hend
    have hfin : (bits .or .i64 (X : Int) (m : Int) == (m : Int)) = true := by rw [or_nat X m hx hm4, hend]; simp
    have f1' : (cls (X : Int) 1 != cls (m : Int) 1) = false := f1
    have hsg := sign_at.2.1
    clear hX hend f1 hum
    go_enter Tryd.func10, Tryd.ntmps10
    go_wp2_with fail
    refine (awake3_any _).mono ?_
    rintro e w1 ⟨rfl, hb1⟩
    have HB1 := Lib.hid hb1
    clear hb1
    go_wp2_with fail
    refine (HAP.out _).mono ?_
    rintro e w2 ⟨rfl, hb2⟩
    have HB2 := Lib.hid (HB1.out.trans (hb2.mono HB1.out.size))
    clear hb2
    go_wp2
    refine wp_loop_rounds 4 ?_
    rw [rounds_succ]
    go_wp2_with (go_at_call 32; refine (class_any _ _ _).mono ?_; rintro e w' ⟨rfl, rfl⟩)
    rw [rounds_succ]
    go_wp2_with (go_at_call 32; refine (class_any _ _ _).mono ?_; rintro e w' ⟨rfl, rfl⟩)
    rw [rounds_succ]
    go_wp2_with (go_at_call 32; refine (class_any _ _ _).mono ?_; rintro e w' ⟨rfl, rfl⟩)
    rw [rounds_succ]
    go_wp2
    go_ret
    exact ⟨rfl, HB2.out⟩
  · have HAP := Lib.hid (fun w => one_apply 45 45 6 0 6 p 0 m dir u w rfl rfl rfl (by decide) (by decide) hp64 (by decide) (.inr rfl) hm4)
    rw [hum] at HAP
    have hx := actN_lt 45 6 um p 0 m dir
    have f0 := cls_stays 45 6 um p 0 m dir 0 (by decide) (by decide) (by decide)
    have hend := minus_wins 6 um p 0 m dir
    obtain ⟨X, hX⟩ : ∃ X, actN 45 6 um p 0 m dir = X := ⟨_, rfl⟩
    rw [hX] at HAP hx f0 hend
    have hfin : (bits .or .i64 (X : Int) (m : Int) == (m : Int)) = true := by rw [or_nat X m hx hm4, hend]; simp
    have f0' : (cls (X : Int) 0 != cls (m : Int) 0) = false := f0
    have hsg := sign_at.2.1
    clear hX hend f0 hum
    go_enter Tryd.func10, Tryd.ntmps10
    go_wp2_with fail
    refine (awake3_any _).mono ?_
    rintro e w1 ⟨rfl, hb1⟩
    have HB1 := Lib.hid hb1
    clear hb1
    go_wp2_with fail
    refine (HAP.out _).mono ?_
    rintro e w2 ⟨rfl, hb2⟩
    have HB2 := Lib.hid (HB1.out.trans (hb2.mono HB1.out.size))
    clear hb2
    go_wp2
    refine wp_loop_rounds 4 ?_
    rw [rounds_succ]
    go_wp2_with (go_at_call 32; refine (class_any _ _ _).mono ?_; rintro e w' ⟨rfl, rfl⟩)
    rw [rounds_succ]
    go_wp2_with (go_at_call 32; refine (class_any _ _ _).mono ?_; rintro e w' ⟨rfl, rfl⟩)
    rw [rounds_succ]
    go_wp2_with (go_at_call 32; refine (class_any _ _ _).mono ?_; rintro e w' ⟨rfl, rfl⟩)
    rw [rounds_succ]
    go_wp2
    go_ret
    exact ⟨rfl, HB2.out⟩
  · have HAP := Lib.hid (fun w => one_apply 45 45 7 0 7 p 0 m dir u w rfl rfl rfl (by decide) (by decide) hp64 (by decide) (.inr rfl) hm4)
    rw [hum] at HAP
    have hx := actN_lt 45 7 um p 0 m dir
    have hend := minus_wins 7 um p 0 m dir
    obtain ⟨X, hX⟩ : ∃ X, actN 45 7 um p 0 m dir = X := ⟨_, rfl⟩
    rw [hX] at HAP hx hend
    have hfin : (bits .or .i64 (X : Int) (m : Int) == (m : Int)) = true := by rw [or_nat X m hx hm4, hend]; simp
    have hsg := sign_at.2.1
    clear hX hend hum
    go_enter Tryd.func10, Tryd.ntmps10
    go_wp2_with fail
    refine (awake3_any _).mono ?_
    rintro e w1 ⟨rfl, hb1⟩
    have HB1 := Lib.hid hb1
    clear hb1
    go_wp2_with fail
    refine (HAP.out _).mono ?_
    rintro e w2 ⟨rfl, hb2⟩
    have HB2 := Lib.hid (HB1.out.trans (hb2.mono HB1.out.size))
    clear hb2
    go_wp2
    refine wp_loop_rounds 4 ?_
    rw [rounds_succ]
    go_wp2_with (go_at_call 32; refine (class_any _ _ _).mono ?_; rintro e w' ⟨rfl, rfl⟩)
    rw [rounds_succ]
    go_wp2_with (go_at_call 32; refine (class_any _ _ _).mono ?_; rintro e w' ⟨rfl, rfl⟩)
    rw [rounds_succ]
    go_wp2_with (go_at_call 32; refine (class_any _ _ _).mono ?_; rintro e w' ⟨rfl, rfl⟩)
    rw [rounds_succ]
    go_wp2
    go_ret
    exact ⟨rfl, HB2.out⟩
set_option maxRecDepth 100000 in
set_option maxHeartbeats 4000000 in
theorem stays2 (who op perms mode : Int) (dir : Bool) (u : Int) (w : World) (a0 : 0 ≤ who) (b0 : 0 ≤ op) (c0 : 0 ≤ perms) (d0 : 0 ≤ mode) (u0 : 0 ≤ u) (u1 : u ≤ 65535) (hop : op % 3 = 2) : Calls Tryd.prog 10 #[.int .u8 who, .int .u8 op, .int .u8 perms, .int .u16 mode, .bool dir, .int .u16 u] w fun e w' => e = .returned (.bool true) ∧ Below w.heap.size w w' := by
  obtain ⟨p, hp⟩ : ∃ p : Nat, perms % 64 = (p : Int) := ⟨(perms % 64).toNat, by omega⟩
  obtain ⟨m, hm⟩ : ∃ m : Nat, mode % 4096 = (m : Int) := ⟨(mode % 4096).toNat, by omega⟩
  have hp64 : p < 64 := by omega
  have hm4 : m < 4096 := by omega
  obtain ⟨um, hum⟩ : ∃ um, (u % 4096).toNat = um := ⟨_, rfl⟩
  obtain hw | hw | hw | hw | hw | hw | hw | hw : who % 8 = 0 ∨ who % 8 = 1 ∨ who % 8 = 2 ∨ who % 8 = 3 ∨ who % 8 = 4 ∨ who % 8 = 5 ∨ who % 8 = 6 ∨ who % 8 = 7 := by omega
  · have HAP := Lib.hid (fun w => one_apply 61 61 0 0 0 p 0 m dir u w rfl rfl rfl (by decide) (by decide) hp64 (by decide) (.inr rfl) hm4)
    rw [hum] at HAP
    have hx := actN_lt 61 0 um p 0 m dir
    obtain ⟨X, hX⟩ : ∃ X, actN 61 0 um p 0 m dir = X := ⟨_, rfl⟩
    rw [hX] at HAP hx
    have hx1 : (X : Int) ≤ 4095 := by omega
    have hsg := sign_at.2.2
    clear hX hum
    go_enter Tryd.func10, Tryd.ntmps10
    go_wp2_with fail
    refine (awake3_any _).mono ?_
    rintro e w1 ⟨rfl, hb1⟩
    have HB1 := Lib.hid hb1
    clear hb1
    go_wp2_with fail
    refine (HAP.out _).mono ?_
    rintro e w2 ⟨rfl, hb2⟩
    have HB2 := Lib.hid (HB1.out.trans (hb2.mono HB1.out.size))
    clear hb2
    go_wp2
    refine wp_loop_rounds 4 ?_
    rw [rounds_succ]
    go_wp2_with (go_at_call 32; refine (class_any _ _ _).mono ?_; rintro e w' ⟨rfl, rfl⟩)
    rw [rounds_succ]
    go_wp2_with (go_at_call 32; refine (class_any _ _ _).mono ?_; rintro e w' ⟨rfl, rfl⟩)
    rw [rounds_succ]
    go_wp2_with (go_at_call 32; refine (class_any _ _ _).mono ?_; rintro e w' ⟨rfl, rfl⟩)
    rw [rounds_succ]
    go_wp2
    go_ret
    exact ⟨rfl, HB2.out⟩
  · have HAP := Lib.hid (fun w => one_apply 61 61 1 0 1 p 0 m dir u w rfl rfl rfl (by decide) (by decide) hp64 (by decide) (.inr rfl) hm4)
    rw [hum] at HAP
    have hx := actN_lt 61 1 um p 0 m dir
    have f1 := cls_stays 61 1 um p 0 m dir 1 (by decide) (by decide) (by decide)
    have f2 := cls_stays 61 1 um p 0 m dir 2 (by decide) (by decide) (by decide)
    obtain ⟨X, hX⟩ : ∃ X, actN 61 1 um p 0 m dir = X := ⟨_, rfl⟩
    rw [hX] at HAP hx f1 f2
    have hx1 : (X : Int) ≤ 4095 := by omega
    have f1' : (cls (X : Int) 1 != cls (m : Int) 1) = false := f1
    have f2' : (cls (X : Int) 2 != cls (m : Int) 2) = false := f2
    have hsg := sign_at.2.2
    clear hX f1 f2 hum
    go_enter Tryd.func10, Tryd.ntmps10
    go_wp2_with fail
    refine (awake3_any _).mono ?_
    rintro e w1 ⟨rfl, hb1⟩
    have HB1 := Lib.hid hb1
    clear hb1
    go_wp2_with fail
    refine (HAP.out _).mono ?_
    rintro e w2 ⟨rfl, hb2⟩
    have HB2 := Lib.hid (HB1.out.trans (hb2.mono HB1.out.size))
    clear hb2
    go_wp2
    refine wp_loop_rounds 4 ?_
    rw [rounds_succ]
    go_wp2_with (go_at_call 32; refine (class_any _ _ _).mono ?_; rintro e w' ⟨rfl, rfl⟩)
    rw [rounds_succ]
    go_wp2_with (go_at_call 32; refine (class_any _ _ _).mono ?_; rintro e w' ⟨rfl, rfl⟩)
    rw [rounds_succ]
    go_wp2_with (go_at_call 32; refine (class_any _ _ _).mono ?_; rintro e w' ⟨rfl, rfl⟩)
    rw [rounds_succ]
    go_wp2
    go_ret
    exact ⟨rfl, HB2.out⟩
  · have HAP := Lib.hid (fun w => one_apply 61 61 2 0 2 p 0 m dir u w rfl rfl rfl (by decide) (by decide) hp64 (by decide) (.inr rfl) hm4)
    rw [hum] at HAP
    have hx := actN_lt 61 2 um p 0 m dir
    have f0 := cls_stays 61 2 um p 0 m dir 0 (by decide) (by decide) (by decide)
    have f2 := cls_stays 61 2 um p 0 m dir 2 (by decide) (by decide) (by decide)
    obtain ⟨X, hX⟩ : ∃ X, actN 61 2 um p 0 m dir = X := ⟨_, rfl⟩
    rw [hX] at HAP hx f0 f2
    have hx1 : (X : Int) ≤ 4095 := by omega
    have f0' : (cls (X : Int) 0 != cls (m : Int) 0) = false := f0
    have f2' : (cls (X : Int) 2 != cls (m : Int) 2) = false := f2
    have hsg := sign_at.2.2
    clear hX f0 f2 hum
    go_enter Tryd.func10, Tryd.ntmps10
    go_wp2_with fail
    refine (awake3_any _).mono ?_
    rintro e w1 ⟨rfl, hb1⟩
    have HB1 := Lib.hid hb1
    clear hb1
    go_wp2_with fail
    refine (HAP.out _).mono ?_
    rintro e w2 ⟨rfl, hb2⟩
    have HB2 := Lib.hid (HB1.out.trans (hb2.mono HB1.out.size))
    clear hb2
    go_wp2
    refine wp_loop_rounds 4 ?_
    rw [rounds_succ]
    go_wp2_with (go_at_call 32; refine (class_any _ _ _).mono ?_; rintro e w' ⟨rfl, rfl⟩)
    rw [rounds_succ]
    go_wp2_with (go_at_call 32; refine (class_any _ _ _).mono ?_; rintro e w' ⟨rfl, rfl⟩)
    rw [rounds_succ]
    go_wp2_with (go_at_call 32; refine (class_any _ _ _).mono ?_; rintro e w' ⟨rfl, rfl⟩)
    rw [rounds_succ]
    go_wp2
    go_ret
    exact ⟨rfl, HB2.out⟩
  · have HAP := Lib.hid (fun w => one_apply 61 61 3 0 3 p 0 m dir u w rfl rfl rfl (by decide) (by decide) hp64 (by decide) (.inr rfl) hm4)
    rw [hum] at HAP
    have hx := actN_lt 61 3 um p 0 m dir
    have f2 := cls_stays 61 3 um p 0 m dir 2 (by decide) (by decide) (by decide)
    obtain ⟨X, hX⟩ : ∃ X, actN 61 3 um p 0 m dir = X := ⟨_, rfl⟩
    rw [hX] at HAP hx f2
    have hx1 : (X : Int) ≤ 4095 := by omega
    have f2' : (cls (X : Int) 2 != cls (m : Int) 2) = false := f2
    have hsg := sign_at.2.2
    clear hX f2 hum
    go_enter Tryd.func10, Tryd.ntmps10
    go_wp2_with fail
    refine (awake3_any _).mono ?_
    rintro e w1 ⟨rfl, hb1⟩
    have HB1 := Lib.hid hb1
    clear hb1
    go_wp2_with fail
    refine (HAP.out _).mono ?_
    rintro e w2 ⟨rfl, hb2⟩
    have HB2 := Lib.hid (HB1.out.trans (hb2.mono HB1.out.size))
    clear hb2
    go_wp2
    refine wp_loop_rounds 4 ?_
    rw [rounds_succ]
    go_wp2_with (go_at_call 32; refine (class_any _ _ _).mono ?_; rintro e w' ⟨rfl, rfl⟩)
    rw [rounds_succ]
    go_wp2_with (go_at_call 32; refine (class_any _ _ _).mono ?_; rintro e w' ⟨rfl, rfl⟩)
    rw [rounds_succ]
    go_wp2_with (go_at_call 32; refine (class_any _ _ _).mono ?_; rintro e w' ⟨rfl, rfl⟩)
    rw [rounds_succ]
    go_wp2
    go_ret
    exact ⟨rfl, HB2.out⟩
  · have HAP := Lib.hid (fun w => one_apply 61 61 4 0 4 p 0 m dir u w rfl rfl rfl (by decide) (by decide) hp64 (by decide) (.inr rfl) hm4)
    rw [hum] at HAP
    have hx := actN_lt 61 4 um p 0 m dir
    have f0 := cls_stays 61 4 um p 0 m dir 0 (by decide) (by decide) (by decide)
    have f1 := cls_stays 61 4 um p 0 m dir 1 (by decide) (by decide) (by decide)
    obtain ⟨X, hX⟩ : ∃ X, actN 61 4 um p 0 m dir = X := ⟨_, rfl⟩
    rw [hX] at HAP hx f0 f1
    have hx1 : (X : Int) ≤ 4095 := by omega
    have f0' : (cls (X : Int) 0 != cls (m : Int) 0) = false := f0
    have f1' : (cls (X : Int) 1 != cls (m : Int) 1) = false := f1
    have hsg := sign_at.2.2
    clear hX f0 f1 hum
    go_enter Tryd.func10, Tryd.ntmps10
    go_wp2_with fail
    refine (awake3_any _).mono ?_
    rintro e w1 ⟨rfl, hb1⟩
    have HB1 := Lib.hid hb1
    clear hb1
    go_wp2_with fail
    refine (HAP.out _).mono ?_
    rintro e w2 ⟨rfl, hb2⟩
    have HB2 := Lib.hid (HB1.out.trans (hb2.mono HB1.out.size))
    clear hb2
    go_wp2
    refine wp_loop_rounds 4 ?_
    rw [rounds_succ]
    go_wp2_with (go_at_call 32; refine (class_any _ _ _).mono ?_; rintro e w' ⟨rfl, rfl⟩)
    rw [rounds_succ]
    go_wp2_with (go_at_call 32; refine (class_any _ _ _).mono ?_; rintro e w' ⟨rfl, rfl⟩)
    rw [rounds_succ]
    go_wp2_with (go_at_call 32; refine (class_any _ _ _).mono ?_; rintro e w' ⟨rfl, rfl⟩)
    rw [rounds_succ]
    go_wp2
    go_ret
    exact ⟨rfl, HB2.out⟩
  · have HAP := Lib.hid (fun w => one_apply 61 61 5 0 5 p 0 m dir u w rfl rfl rfl (by decide) (by decide) hp64 (by decide) (.inr rfl) hm4)
    rw [hum] at HAP
    have hx := actN_lt 61 5 um p 0 m dir
    have f1 := cls_stays 61 5 um p 0 m dir 1 (by decide) (by decide) (by decide)
    obtain ⟨X, hX⟩ : ∃ X, actN 61 5 um p 0 m dir = X := ⟨_, rfl⟩
    rw [hX] at HAP hx f1
    have hx1 : (X : Int) ≤ 4095 := by omega
    have f1' : (cls (X : Int) 1 != cls (m : Int) 1) = false := f1
    have hsg := sign_at.2.2
    clear hX f1 hum
    go_enter Tryd.func10, Tryd.ntmps10
    go_wp2_with fail
    refine (awake3_any _).mono ?_
    rintro e w1 ⟨rfl, hb1⟩
    have HB1 := Lib.hid hb1
    clear hb1
    go_wp2_with fail
    refine (HAP.out _).mono ?_
    rintro e w2 ⟨rfl, hb2⟩
    have HB2 := Lib.hid (HB1.out.trans (hb2.mono HB1.out.size))
    clear hb2
    go_wp2
    refine wp_loop_rounds 4 ?_
    rw [rounds_succ]
    go_wp2_with (go_at_call 32; refine (class_any _ _ _).mono ?_; rintro e w' ⟨rfl, rfl⟩)
    rw [rounds_succ]
    go_wp2_with (go_at_call 32; refine (class_any _ _ _).mono ?_; rintro e w' ⟨rfl, rfl⟩)
    rw [rounds_succ]
    go_wp2_with (go_at_call 32; refine (class_any _ _ _).mono ?_; rintro e w' ⟨rfl, rfl⟩)
    rw [rounds_succ]
    go_wp2
    go_ret
    exact ⟨rfl, HB2.out⟩
  · have HAP := Lib.hid (fun w => one_apply 61 61 6 0 6 p 0 m dir u w rfl rfl rfl (by decide) (by decide) hp64 (by decide) (.inr rfl) hm4)
    rw [hum] at HAP
    have hx := actN_lt 61 6 um p 0 m dir
    have f0 := cls_stays 61 6 um p 0 m dir 0 (by decide) (by decide) (by decide)
    obtain ⟨X, hX⟩ : ∃ X, actN 61 6 um p 0 m dir = X := ⟨_, rfl⟩
    rw [hX] at HAP hx f0
    have hx1 : (X : Int) ≤ 4095 := by omega
    have f0' : (cls (X : Int) 0 != cls (m : Int) 0) = false := f0
    have hsg := sign_at.2.2
    clear hX f0 hum
    go_enter Tryd.func10, Tryd.ntmps10
    go_wp2_with fail
    refine (awake3_any _).mono ?_
    rintro e w1 ⟨rfl, hb1⟩
    have HB1 := Lib.hid hb1
    clear hb1
    go_wp2_with fail
    refine (HAP.out _).mono ?_
    rintro e w2 ⟨rfl, hb2⟩
    have HB2 := Lib.hid (HB1.out.trans (hb2.mono HB1.out.size))
    clear hb2
    go_wp2
    refine wp_loop_rounds 4 ?_
    rw [rounds_succ]
    go_wp2_with (go_at_call 32; refine (class_any _ _ _).mono ?_; rintro e w' ⟨rfl, rfl⟩)
    rw [rounds_succ]
    go_wp2_with (go_at_call 32; refine (class_any _ _ _).mono ?_; rintro e w' ⟨rfl, rfl⟩)
    rw [rounds_succ]
    go_wp2_with (go_at_call 32; refine (class_any _ _ _).mono ?_; rintro e w' ⟨rfl, rfl⟩)
    rw [rounds_succ]
    go_wp2
    go_ret
    exact ⟨rfl, HB2.out⟩
  · have HAP := Lib.hid (fun w => one_apply 61 61 7 0 7 p 0 m dir u w rfl rfl rfl (by decide) (by decide) hp64 (by decide) (.inr rfl) hm4)
    rw [hum] at HAP
    have hx := actN_lt 61 7 um p 0 m dir
    obtain ⟨X, hX⟩ : ∃ X, actN 61 7 um p 0 m dir = X := ⟨_, rfl⟩
    rw [hX] at HAP hx
    have hx1 : (X : Int) ≤ 4095 := by omega
    have hsg := sign_at.2.2
    clear hX hum
    go_enter Tryd.func10, Tryd.ntmps10
    go_wp2_with fail
    refine (awake3_any _).mono ?_
    rintro e w1 ⟨rfl, hb1⟩
    have HB1 := Lib.hid hb1
    clear hb1
    go_wp2_with fail
    refine (HAP.out _).mono ?_
    rintro e w2 ⟨rfl, hb2⟩
    have HB2 := Lib.hid (HB1.out.trans (hb2.mono HB1.out.size))
    clear hb2
    go_wp2
    refine wp_loop_rounds 4 ?_
    rw [rounds_succ]
    go_wp2_with (go_at_call 32; refine (class_any _ _ _).mono ?_; rintro e w' ⟨rfl, rfl⟩)
    rw [rounds_succ]
    go_wp2_with (go_at_call 32; refine (class_any _ _ _).mono ?_; rintro e w' ⟨rfl, rfl⟩)
    rw [rounds_succ]
    go_wp2_with (go_at_call 32; refine (class_any _ _ _).mono ?_; rintro e w' ⟨rfl, rfl⟩)
    rw [rounds_succ]
    go_wp2
    go_ret
    exact ⟨rfl, HB2.out⟩
theorem staysLaw (who op perms mode : Int) (dir : Bool) (u : Int) (w : World) (a0 : 0 ≤ who) (b0 : 0 ≤ op) (c0 : 0 ≤ perms) (d0 : 0 ≤ mode) (u0 : 0 ≤ u) (u1 : u ≤ 65535) : Calls Tryd.prog 10 #[.int .u8 who, .int .u8 op, .int .u8 perms, .int .u16 mode, .bool dir, .int .u16 u] w fun e w' => e = .returned (.bool true) ∧ Below w.heap.size w w' := by
  obtain h | h | h : op % 3 = 0 ∨ op % 3 = 1 ∨ op % 3 = 2 := by omega
  · exact stays0 who op perms mode dir u w a0 b0 c0 d0 u0 u1 h
  · exact stays1 who op perms mode dir u w a0 b0 c0 d0 u0 u1 h
  · exact stays2 who op perms mode dir u w a0 b0 c0 d0 u0 u1 h

end Go.Proofs.YtbjajipeiigodaaDoor
