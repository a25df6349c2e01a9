/-
  The walk of ApplyCopies: it answers true, whatever it is handed.
-/
import Derived.Test.YtbjajipeiigodaaDoorAwake
import Derived.Test.YtbjajipeiigodaaDoorAMath
namespace Go.Proofs.YtbjajipeiigodaaDoor
open Go Go.RowKit

theorem c8_wf {n : Int} (h : (Lit.int .u8 n).wf = true) : 0 ≤ n ∧ n ≤ 255 := by simpa [Lit.wf, IntKind.min, IntKind.max, IntKind.signed, IntKind.bits] using h
theorem c16_wf {n : Int} (h : (Lit.int .u16 n).wf = true) : 0 ≤ n ∧ n ≤ 65535 := by simpa [Lit.wf, IntKind.min, IntKind.max, IntKind.signed, IntKind.bits] using h
theorem cone_apply (op : UInt8) (I who' p' c' : Int) (who p c m : Nat) (dir : Bool) (u : Int) (w : World) (hI : I = co op) (hwho : who' = (who : Int)) (hp' : p' = (p : Int)) (hc' : c' = (c : Int)) (ho : op = 43 ∨ op = 45 ∨ op = 61) (hw : who < 8) (hp : p < 64) (hc : c ≤ 3) (hpc : p = 0 ∨ c = 0) (hm : m < 4096) :
    Calls Tryd.prog 29 #[.slice (some ⟨w.heap.size + 1, 0, none⟩) 1 1, .int .i64 (m : Int), .bool dir, .int .i64 u] ((w.alloc (.cells #[.int .u8 I, .int .i64 p', .int .i64 c'] 60)).alloc (.cells #[.int .i64 who', .slice (some ⟨w.heap.size, 0, none⟩) 1 1] 34))
      fun e w' => e = .returned (.int .i64 (actN op who (u % 4096).toNat p c m dir : Nat)) ∧ Below w.heap.size w w' := by
  subst hI hwho hp' hc'
  have h := apply_any (.slice (some ⟨w.heap.size + 1, 0, none⟩) 1 1) [⟨(who : Int), [⟨op, (p : Int), (c : Int)⟩]⟩] (m : Int) dir u _ (one_cls w op (who : Int) (p : Int) (c : Int)) (by simp) (by intro x hx; simp only [List.mem_singleton] at hx; subst hx; simp)
  rw [applyM_one op who p c m dir u ho hw hp hc hpc hm] at h
  refine h.mono fun e w' ⟨he, hb⟩ => ⟨he, ?_⟩
  have hb0 : Below w.heap.size w ((w.alloc (.cells #[.int .u8 (co op), .int .i64 (p : Int), .int .i64 (c : Int)] 60)).alloc (.cells #[.int .i64 (who : Int), .slice (some ⟨w.heap.size, 0, none⟩) 1 1] 34)) := ((Below.refl _ _).alloc (Nat.le_refl _) _).alloc (by simp) _
  exact hb0.trans (hb.mono hb0.size)
/-- A bit as the machine takes it out. -/
theorem bit_at (x i : Nat) (D : Int) (hD : (2 : Int) ^ i = D) : bits .and .i64 ((x : Int) / D) 1 = if x.testBit i = true then 1 else 0 := by
  subst hD
  rw [and1, Nat.testBit_eq_decide_div_mod_eq]
  have h : ((x : Int) / 2 ^ i) = ((x / 2 ^ i : Nat) : Int) := by simp
  rw [h]
  by_cases hb : x / 2 ^ i % 2 = 1
  · simp [hb]; omega
  · simp [hb]; omega
set_option maxRecDepth 100000 in
set_option maxHeartbeats 4000000 in
theorem copies00 (dst src mode : Int) (dir : Bool) (u : Int) (w : World) (a0 : 0 ≤ dst) (b0 : 0 ≤ src) (d0 : 0 ≤ mode) (u0 : 0 ≤ u) (u1 : u ≤ 65535) (hk : dst % 3 = 0) (hj : src % 3 = 0) : Calls Tryd.prog 13 #[.int .u8 dst, .int .u8 src, .int .u16 mode, .bool dir, .int .u16 u] w fun e w' => e = .returned (.bool true) ∧ Below w.heap.size w w' := by
  obtain ⟨m, hm⟩ : ∃ m : Nat, mode % 4096 = (m : Int) := ⟨(mode % 4096).toNat, by omega⟩
  have hm4 : m < 4096 := by omega
  obtain ⟨um, hum⟩ : ∃ um, (u % 4096).toNat = um := ⟨_, rfl⟩
  have HAP := Lib.hid (fun w => cone_apply 61 61 1 0 1 1 0 1 m dir u w rfl rfl rfl rfl (by decide) (by decide) (by decide) (by decide) (.inl rfl) hm4)
  rw [hum] at HAP
  have hx := actN_lt 61 1 um 0 1 m dir
  have f0 : clN (actN 61 1 um 0 1 m dir) 0 = clN m 0 := copies um m 0 0 dir (by decide)
  have g0 : (actN 61 1 um 0 1 m dir).testBit 11 = false := copies_top um m 0 0 dir (by decide)
  have f2 : clN (actN 61 1 um 0 1 m dir) 1 = clN m 1 := copies_other um m 0 0 1 dir (by decide) (by decide) (by decide)
  have g2 : (actN 61 1 um 0 1 m dir).testBit 10 = m.testBit 10 := copies_top_other um m 0 0 1 dir (by decide) (by decide) (by decide)
  have f3 : clN (actN 61 1 um 0 1 m dir) 2 = clN m 2 := copies_other um m 0 0 2 dir (by decide) (by decide) (by decide)
  have g3 : (actN 61 1 um 0 1 m dir).testBit 9 = m.testBit 9 := copies_top_other um m 0 0 2 dir (by decide) (by decide) (by decide)
  obtain ⟨X, hX⟩ : ∃ X, actN 61 1 um 0 1 m dir = X := ⟨_, rfl⟩
  rw [hX] at HAP hx f0 g0 f2 g2 f3 g3
  have q0 : (cls (X : Int) 0 != cls (m : Int) 0) = false := by
    have e1 := cls_nat X 0 (by decide)
    have e2 := cls_nat m 0 (by decide)
    rw [f0] at e1
    exact (show (cls (X : Int) ((0 : Nat) : Int) != cls (m : Int) ((0 : Nat) : Int)) = false by rw [e1, e2]; simp)
  have r0 : (bits .and .i64 ((X : Int) / 2048) 1 != 0) = false := by
    rw [bit_at X 11 2048 (by decide), g0]; rfl
  have q2 : (cls (X : Int) 1 != cls (m : Int) 1) = false := by
    have e1 := cls_nat X 1 (by decide)
    have e2 := cls_nat m 1 (by decide)
    rw [f2] at e1
    exact (show (cls (X : Int) ((1 : Nat) : Int) != cls (m : Int) ((1 : Nat) : Int)) = false by rw [e1, e2]; simp)
  have r2 : (bits .and .i64 ((X : Int) / 1024) 1 != bits .and .i64 ((m : Int) / 1024) 1) = false := by
    rw [bit_at X 10 1024 (by decide), bit_at m 10 1024 (by decide), g2]; simp
  have q3 : (cls (X : Int) 2 != cls (m : Int) 2) = false := by
    have e1 := cls_nat X 2 (by decide)
    have e2 := cls_nat m 2 (by decide)
    rw [f3] at e1
    exact (show (cls (X : Int) ((2 : Nat) : Int) != cls (m : Int) ((2 : Nat) : Int)) = false by rw [e1, e2]; simp)
  have r3 : (bits .and .i64 ((X : Int) / 512) 1 != bits .and .i64 ((m : Int) / 512) 1) = false := by
    rw [bit_at X 9 512 (by decide), bit_at m 9 512 (by decide), g3]; simp
  clear hX f0 g0 f2 g2 f3 g3 hum
  have Q := Lib.hid (And.intro q0 r0)
  have R2 := Lib.hid (And.intro q2 r2)
  have R3 := Lib.hid (And.intro q3 r3)
  clear q0 r0 q2 r2 q3 r3
  go_enter Tryd.func13, Tryd.ntmps13
  go_wp2_with fail
  refine (awake3_any _).mono ?_
  rintro e w1 ⟨rfl, hb1⟩
  have HB1 := Lib.hid hb1
  clear hb1
  go_wp2_with fail
  refine (HAP.out _).mono ?_
  rintro e w2 ⟨rfl, hb2⟩
  have HB2 := Lib.hid (HB1.out.trans (hb2.mono HB1.out.size))
  clear hb2
  obtain ⟨q0, r0⟩ := Q.out
  go_wp2_with (go_at_call 32; refine (class_any _ _ _).mono ?_; rintro e w' ⟨rfl, rfl⟩)
  clear q0 r0
  refine wp_loop_rounds 4 ?_
  rw [rounds_succ]
  go_wp2_with fail
  go_quiet ((go_at_call 32; refine Calls.quiet_of_same ((class_any _ _ _).mono fun _ _ h => ⟨h.1, h.2.symm⟩)))
  have HBn0 := Lib.hid (show Below w.heap.size w (w2.drewN nq) from ⟨HB2.out.os, HB2.out.tape, HB2.out.output, HB2.out.size, HB2.out.block⟩)
  generalize w2.drewN nq = v0 at HBn0 ⊢
  go_wp2_with fail
  rw [rounds_succ]
  go_wp2_with fail
  obtain ⟨qa, ra⟩ := R2.out
  go_quiet ((go_at_call 32; refine Calls.quiet_of_same ((class_any _ _ _).mono fun _ _ h => ⟨h.1, h.2.symm⟩)))
  clear qa ra
  have HBn1 := Lib.hid (show Below w.heap.size w (v0.drewN nq) from ⟨HBn0.out.os, HBn0.out.tape, HBn0.out.output, HBn0.out.size, HBn0.out.block⟩)
  generalize v0.drewN nq = v1 at HBn1 ⊢
  go_wp2_with fail
  rw [rounds_succ]
  go_wp2_with fail
  obtain ⟨qa, ra⟩ := R3.out
  go_quiet ((go_at_call 32; refine Calls.quiet_of_same ((class_any _ _ _).mono fun _ _ h => ⟨h.1, h.2.symm⟩)))
  clear qa ra
  have HBn2 := Lib.hid (show Below w.heap.size w (v1.drewN nq) from ⟨HBn1.out.os, HBn1.out.tape, HBn1.out.output, HBn1.out.size, HBn1.out.block⟩)
  generalize v1.drewN nq = v2 at HBn2 ⊢
  go_wp2_with fail
  rw [rounds_succ]
  go_wp2
  go_ret
  exact ⟨rfl, HBn2.out⟩
set_option maxRecDepth 100000 in
set_option maxHeartbeats 4000000 in
theorem copies01 (dst src mode : Int) (dir : Bool) (u : Int) (w : World) (a0 : 0 ≤ dst) (b0 : 0 ≤ src) (d0 : 0 ≤ mode) (u0 : 0 ≤ u) (u1 : u ≤ 65535) (hk : dst % 3 = 0) (hj : src % 3 = 1) : Calls Tryd.prog 13 #[.int .u8 dst, .int .u8 src, .int .u16 mode, .bool dir, .int .u16 u] w fun e w' => e = .returned (.bool true) ∧ Below w.heap.size w w' := by
  obtain ⟨m, hm⟩ : ∃ m : Nat, mode % 4096 = (m : Int) := ⟨(mode % 4096).toNat, by omega⟩
  have hm4 : m < 4096 := by omega
  obtain ⟨um, hum⟩ : ∃ um, (u % 4096).toNat = um := ⟨_, rfl⟩
  have HAP := Lib.hid (fun w => cone_apply 61 61 1 0 2 1 0 2 m dir u w rfl rfl rfl rfl (by decide) (by decide) (by decide) (by decide) (.inl rfl) hm4)
  rw [hum] at HAP
  have hx := actN_lt 61 1 um 0 2 m dir
  have f0 : clN (actN 61 1 um 0 2 m dir) 0 = clN m 1 := copies um m 0 1 dir (by decide)
  have g0 : (actN 61 1 um 0 2 m dir).testBit 11 = false := copies_top um m 0 1 dir (by decide)
  have f2 : clN (actN 61 1 um 0 2 m dir) 1 = clN m 1 := copies_other um m 0 1 1 dir (by decide) (by decide) (by decide)
  have g2 : (actN 61 1 um 0 2 m dir).testBit 10 = m.testBit 10 := copies_top_other um m 0 1 1 dir (by decide) (by decide) (by decide)
  have f3 : clN (actN 61 1 um 0 2 m dir) 2 = clN m 2 := copies_other um m 0 1 2 dir (by decide) (by decide) (by decide)
  have g3 : (actN 61 1 um 0 2 m dir).testBit 9 = m.testBit 9 := copies_top_other um m 0 1 2 dir (by decide) (by decide) (by decide)
  obtain ⟨X, hX⟩ : ∃ X, actN 61 1 um 0 2 m dir = X := ⟨_, rfl⟩
  rw [hX] at HAP hx f0 g0 f2 g2 f3 g3
  have q0 : (cls (X : Int) 0 != cls (m : Int) 1) = false := by
    have e1 := cls_nat X 0 (by decide)
    have e2 := cls_nat m 1 (by decide)
    rw [f0] at e1
    exact (show (cls (X : Int) ((0 : Nat) : Int) != cls (m : Int) ((1 : Nat) : Int)) = false by rw [e1, e2]; simp)
  have r0 : (bits .and .i64 ((X : Int) / 2048) 1 != 0) = false := by
    rw [bit_at X 11 2048 (by decide), g0]; rfl
  have q2 : (cls (X : Int) 1 != cls (m : Int) 1) = false := by
    have e1 := cls_nat X 1 (by decide)
    have e2 := cls_nat m 1 (by decide)
    rw [f2] at e1
    exact (show (cls (X : Int) ((1 : Nat) : Int) != cls (m : Int) ((1 : Nat) : Int)) = false by rw [e1, e2]; simp)
  have r2 : (bits .and .i64 ((X : Int) / 1024) 1 != bits .and .i64 ((m : Int) / 1024) 1) = false := by
    rw [bit_at X 10 1024 (by decide), bit_at m 10 1024 (by decide), g2]; simp
  have q3 : (cls (X : Int) 2 != cls (m : Int) 2) = false := by
    have e1 := cls_nat X 2 (by decide)
    have e2 := cls_nat m 2 (by decide)
    rw [f3] at e1
    exact (show (cls (X : Int) ((2 : Nat) : Int) != cls (m : Int) ((2 : Nat) : Int)) = false by rw [e1, e2]; simp)
  have r3 : (bits .and .i64 ((X : Int) / 512) 1 != bits .and .i64 ((m : Int) / 512) 1) = false := by
    rw [bit_at X 9 512 (by decide), bit_at m 9 512 (by decide), g3]; simp
  clear hX f0 g0 f2 g2 f3 g3 hum
  have Q := Lib.hid (And.intro q0 r0)
  have R2 := Lib.hid (And.intro q2 r2)
  have R3 := Lib.hid (And.intro q3 r3)
  clear q0 r0 q2 r2 q3 r3
  go_enter Tryd.func13, Tryd.ntmps13
  go_wp2_with fail
  refine (awake3_any _).mono ?_
  rintro e w1 ⟨rfl, hb1⟩
  have HB1 := Lib.hid hb1
  clear hb1
  go_wp2_with fail
  refine (HAP.out _).mono ?_
  rintro e w2 ⟨rfl, hb2⟩
  have HB2 := Lib.hid (HB1.out.trans (hb2.mono HB1.out.size))
  clear hb2
  obtain ⟨q0, r0⟩ := Q.out
  go_wp2_with (go_at_call 32; refine (class_any _ _ _).mono ?_; rintro e w' ⟨rfl, rfl⟩)
  clear q0 r0
  refine wp_loop_rounds 4 ?_
  rw [rounds_succ]
  go_wp2_with fail
  go_quiet ((go_at_call 32; refine Calls.quiet_of_same ((class_any _ _ _).mono fun _ _ h => ⟨h.1, h.2.symm⟩)))
  have HBn0 := Lib.hid (show Below w.heap.size w (w2.drewN nq) from ⟨HB2.out.os, HB2.out.tape, HB2.out.output, HB2.out.size, HB2.out.block⟩)
  generalize w2.drewN nq = v0 at HBn0 ⊢
  go_wp2_with fail
  rw [rounds_succ]
  go_wp2_with fail
  obtain ⟨qa, ra⟩ := R2.out
  go_quiet ((go_at_call 32; refine Calls.quiet_of_same ((class_any _ _ _).mono fun _ _ h => ⟨h.1, h.2.symm⟩)))
  clear qa ra
  have HBn1 := Lib.hid (show Below w.heap.size w (v0.drewN nq) from ⟨HBn0.out.os, HBn0.out.tape, HBn0.out.output, HBn0.out.size, HBn0.out.block⟩)
  generalize v0.drewN nq = v1 at HBn1 ⊢
  go_wp2_with fail
  rw [rounds_succ]
  go_wp2_with fail
  obtain ⟨qa, ra⟩ := R3.out
  go_quiet ((go_at_call 32; refine Calls.quiet_of_same ((class_any _ _ _).mono fun _ _ h => ⟨h.1, h.2.symm⟩)))
  clear qa ra
  have HBn2 := Lib.hid (show Below w.heap.size w (v1.drewN nq) from ⟨HBn1.out.os, HBn1.out.tape, HBn1.out.output, HBn1.out.size, HBn1.out.block⟩)
  generalize v1.drewN nq = v2 at HBn2 ⊢
  go_wp2_with fail
  rw [rounds_succ]
  go_wp2
  go_ret
  exact ⟨rfl, HBn2.out⟩
set_option maxRecDepth 100000 in
set_option maxHeartbeats 4000000 in
theorem copies02 (dst src mode : Int) (dir : Bool) (u : Int) (w : World) (a0 : 0 ≤ dst) (b0 : 0 ≤ src) (d0 : 0 ≤ mode) (u0 : 0 ≤ u) (u1 : u ≤ 65535) (hk : dst % 3 = 0) (hj : src % 3 = 2) : Calls Tryd.prog 13 #[.int .u8 dst, .int .u8 src, .int .u16 mode, .bool dir, .int .u16 u] w fun e w' => e = .returned (.bool true) ∧ Below w.heap.size w w' := by
  obtain ⟨m, hm⟩ : ∃ m : Nat, mode % 4096 = (m : Int) := ⟨(mode % 4096).toNat, by omega⟩
  have hm4 : m < 4096 := by omega
  obtain ⟨um, hum⟩ : ∃ um, (u % 4096).toNat = um := ⟨_, rfl⟩
  have HAP := Lib.hid (fun w => cone_apply 61 61 1 0 3 1 0 3 m dir u w rfl rfl rfl rfl (by decide) (by decide) (by decide) (by decide) (.inl rfl) hm4)
  rw [hum] at HAP
  have hx := actN_lt 61 1 um 0 3 m dir
  have f0 : clN (actN 61 1 um 0 3 m dir) 0 = clN m 2 := copies um m 0 2 dir (by decide)
  have g0 : (actN 61 1 um 0 3 m dir).testBit 11 = false := copies_top um m 0 2 dir (by decide)
  have f2 : clN (actN 61 1 um 0 3 m dir) 1 = clN m 1 := copies_other um m 0 2 1 dir (by decide) (by decide) (by decide)
  have g2 : (actN 61 1 um 0 3 m dir).testBit 10 = m.testBit 10 := copies_top_other um m 0 2 1 dir (by decide) (by decide) (by decide)
  have f3 : clN (actN 61 1 um 0 3 m dir) 2 = clN m 2 := copies_other um m 0 2 2 dir (by decide) (by decide) (by decide)
  have g3 : (actN 61 1 um 0 3 m dir).testBit 9 = m.testBit 9 := copies_top_other um m 0 2 2 dir (by decide) (by decide) (by decide)
  obtain ⟨X, hX⟩ : ∃ X, actN 61 1 um 0 3 m dir = X := ⟨_, rfl⟩
  rw [hX] at HAP hx f0 g0 f2 g2 f3 g3
  have q0 : (cls (X : Int) 0 != cls (m : Int) 2) = false := by
    have e1 := cls_nat X 0 (by decide)
    have e2 := cls_nat m 2 (by decide)
    rw [f0] at e1
    exact (show (cls (X : Int) ((0 : Nat) : Int) != cls (m : Int) ((2 : Nat) : Int)) = false by rw [e1, e2]; simp)
  have r0 : (bits .and .i64 ((X : Int) / 2048) 1 != 0) = false := by
    rw [bit_at X 11 2048 (by decide), g0]; rfl
  have q2 : (cls (X : Int) 1 != cls (m : Int) 1) = false := by
    have e1 := cls_nat X 1 (by decide)
    have e2 := cls_nat m 1 (by decide)
    rw [f2] at e1
    exact (show (cls (X : Int) ((1 : Nat) : Int) != cls (m : Int) ((1 : Nat) : Int)) = false by rw [e1, e2]; simp)
  have r2 : (bits .and .i64 ((X : Int) / 1024) 1 != bits .and .i64 ((m : Int) / 1024) 1) = false := by
    rw [bit_at X 10 1024 (by decide), bit_at m 10 1024 (by decide), g2]; simp
  have q3 : (cls (X : Int) 2 != cls (m : Int) 2) = false := by
    have e1 := cls_nat X 2 (by decide)
    have e2 := cls_nat m 2 (by decide)
    rw [f3] at e1
    exact (show (cls (X : Int) ((2 : Nat) : Int) != cls (m : Int) ((2 : Nat) : Int)) = false by rw [e1, e2]; simp)
  have r3 : (bits .and .i64 ((X : Int) / 512) 1 != bits .and .i64 ((m : Int) / 512) 1) = false := by
    rw [bit_at X 9 512 (by decide), bit_at m 9 512 (by decide), g3]; simp
  clear hX f0 g0 f2 g2 f3 g3 hum
  have Q := Lib.hid (And.intro q0 r0)
  have R2 := Lib.hid (And.intro q2 r2)
  have R3 := Lib.hid (And.intro q3 r3)
  clear q0 r0 q2 r2 q3 r3
  go_enter Tryd.func13, Tryd.ntmps13
  go_wp2_with fail
  refine (awake3_any _).mono ?_
  rintro e w1 ⟨rfl, hb1⟩
  have HB1 := Lib.hid hb1
  clear hb1
  go_wp2_with fail
  refine (HAP.out _).mono ?_
  rintro e w2 ⟨rfl, hb2⟩
  have HB2 := Lib.hid (HB1.out.trans (hb2.mono HB1.out.size))
  clear hb2
  obtain ⟨q0, r0⟩ := Q.out
  go_wp2_with (go_at_call 32; refine (class_any _ _ _).mono ?_; rintro e w' ⟨rfl, rfl⟩)
  clear q0 r0
  refine wp_loop_rounds 4 ?_
  rw [rounds_succ]
  go_wp2_with fail
  go_quiet ((go_at_call 32; refine Calls.quiet_of_same ((class_any _ _ _).mono fun _ _ h => ⟨h.1, h.2.symm⟩)))
  have HBn0 := Lib.hid (show Below w.heap.size w (w2.drewN nq) from ⟨HB2.out.os, HB2.out.tape, HB2.out.output, HB2.out.size, HB2.out.block⟩)
  generalize w2.drewN nq = v0 at HBn0 ⊢
  go_wp2_with fail
  rw [rounds_succ]
  go_wp2_with fail
  obtain ⟨qa, ra⟩ := R2.out
  go_quiet ((go_at_call 32; refine Calls.quiet_of_same ((class_any _ _ _).mono fun _ _ h => ⟨h.1, h.2.symm⟩)))
  clear qa ra
  have HBn1 := Lib.hid (show Below w.heap.size w (v0.drewN nq) from ⟨HBn0.out.os, HBn0.out.tape, HBn0.out.output, HBn0.out.size, HBn0.out.block⟩)
  generalize v0.drewN nq = v1 at HBn1 ⊢
  go_wp2_with fail
  rw [rounds_succ]
  go_wp2_with fail
  obtain ⟨qa, ra⟩ := R3.out
  go_quiet ((go_at_call 32; refine Calls.quiet_of_same ((class_any _ _ _).mono fun _ _ h => ⟨h.1, h.2.symm⟩)))
  clear qa ra
  have HBn2 := Lib.hid (show Below w.heap.size w (v1.drewN nq) from ⟨HBn1.out.os, HBn1.out.tape, HBn1.out.output, HBn1.out.size, HBn1.out.block⟩)
  generalize v1.drewN nq = v2 at HBn2 ⊢
  go_wp2_with fail
  rw [rounds_succ]
  go_wp2
  go_ret
  exact ⟨rfl, HBn2.out⟩
set_option maxRecDepth 100000 in
set_option maxHeartbeats 4000000 in
theorem copies10 (dst src mode : Int) (dir : Bool) (u : Int) (w : World) (a0 : 0 ≤ dst) (b0 : 0 ≤ src) (d0 : 0 ≤ mode) (u0 : 0 ≤ u) (u1 : u ≤ 65535) (hk : dst % 3 = 1) (hj : src % 3 = 0) : Calls Tryd.prog 13 #[.int .u8 dst, .int .u8 src, .int .u16 mode, .bool dir, .int .u16 u] w fun e w' => e = .returned (.bool true) ∧ Below w.heap.size w w' := by
  obtain ⟨m, hm⟩ : ∃ m : Nat, mode % 4096 = (m : Int) := ⟨(mode % 4096).toNat, by omega⟩
  have hm4 : m < 4096 := by omega
  obtain ⟨um, hum⟩ : ∃ um, (u % 4096).toNat = um := ⟨_, rfl⟩
  have HAP := Lib.hid (fun w => cone_apply 61 61 2 0 1 2 0 1 m dir u w rfl rfl rfl rfl (by decide) (by decide) (by decide) (by decide) (.inl rfl) hm4)
  rw [hum] at HAP
  have hx := actN_lt 61 2 um 0 1 m dir
  have f0 : clN (actN 61 2 um 0 1 m dir) 1 = clN m 0 := copies um m 1 0 dir (by decide)
  have g0 : (actN 61 2 um 0 1 m dir).testBit 10 = false := copies_top um m 1 0 dir (by decide)
  have f1 : clN (actN 61 2 um 0 1 m dir) 0 = clN m 0 := copies_other um m 1 0 0 dir (by decide) (by decide) (by decide)
  have g1 : (actN 61 2 um 0 1 m dir).testBit 11 = m.testBit 11 := copies_top_other um m 1 0 0 dir (by decide) (by decide) (by decide)
  have f3 : clN (actN 61 2 um 0 1 m dir) 2 = clN m 2 := copies_other um m 1 0 2 dir (by decide) (by decide) (by decide)
  have g3 : (actN 61 2 um 0 1 m dir).testBit 9 = m.testBit 9 := copies_top_other um m 1 0 2 dir (by decide) (by decide) (by decide)
  obtain ⟨X, hX⟩ : ∃ X, actN 61 2 um 0 1 m dir = X := ⟨_, rfl⟩
  rw [hX] at HAP hx f0 g0 f1 g1 f3 g3
  have q0 : (cls (X : Int) 1 != cls (m : Int) 0) = false := by
    have e1 := cls_nat X 1 (by decide)
    have e2 := cls_nat m 0 (by decide)
    rw [f0] at e1
    exact (show (cls (X : Int) ((1 : Nat) : Int) != cls (m : Int) ((0 : Nat) : Int)) = false by rw [e1, e2]; simp)
  have r0 : (bits .and .i64 ((X : Int) / 1024) 1 != 0) = false := by
    rw [bit_at X 10 1024 (by decide), g0]; rfl
  have q1 : (cls (X : Int) 0 != cls (m : Int) 0) = false := by
    have e1 := cls_nat X 0 (by decide)
    have e2 := cls_nat m 0 (by decide)
    rw [f1] at e1
    exact (show (cls (X : Int) ((0 : Nat) : Int) != cls (m : Int) ((0 : Nat) : Int)) = false by rw [e1, e2]; simp)
  have r1 : (bits .and .i64 ((X : Int) / 2048) 1 != bits .and .i64 ((m : Int) / 2048) 1) = false := by
    rw [bit_at X 11 2048 (by decide), bit_at m 11 2048 (by decide), g1]; simp
  have q3 : (cls (X : Int) 2 != cls (m : Int) 2) = false := by
    have e1 := cls_nat X 2 (by decide)
    have e2 := cls_nat m 2 (by decide)
    rw [f3] at e1
    exact (show (cls (X : Int) ((2 : Nat) : Int) != cls (m : Int) ((2 : Nat) : Int)) = false by rw [e1, e2]; simp)
  have r3 : (bits .and .i64 ((X : Int) / 512) 1 != bits .and .i64 ((m : Int) / 512) 1) = false := by
    rw [bit_at X 9 512 (by decide), bit_at m 9 512 (by decide), g3]; simp
  clear hX f0 g0 f1 g1 f3 g3 hum
  have Q := Lib.hid (And.intro q0 r0)
  have R1 := Lib.hid (And.intro q1 r1)
  have R3 := Lib.hid (And.intro q3 r3)
  clear q0 r0 q1 r1 q3 r3
  go_enter Tryd.func13, Tryd.ntmps13
  go_wp2_with fail
  refine (awake3_any _).mono ?_
  rintro e w1 ⟨rfl, hb1⟩
  have HB1 := Lib.hid hb1
  clear hb1
  go_wp2_with fail
  refine (HAP.out _).mono ?_
  rintro e w2 ⟨rfl, hb2⟩
  have HB2 := Lib.hid (HB1.out.trans (hb2.mono HB1.out.size))
  clear hb2
  obtain ⟨q0, r0⟩ := Q.out
  go_wp2_with (go_at_call 32; refine (class_any _ _ _).mono ?_; rintro e w' ⟨rfl, rfl⟩)
  clear q0 r0
  refine wp_loop_rounds 4 ?_
  rw [rounds_succ]
  go_wp2_with fail
  obtain ⟨qa, ra⟩ := R1.out
  go_quiet ((go_at_call 32; refine Calls.quiet_of_same ((class_any _ _ _).mono fun _ _ h => ⟨h.1, h.2.symm⟩)))
  clear qa ra
  have HBn0 := Lib.hid (show Below w.heap.size w (w2.drewN nq) from ⟨HB2.out.os, HB2.out.tape, HB2.out.output, HB2.out.size, HB2.out.block⟩)
  generalize w2.drewN nq = v0 at HBn0 ⊢
  go_wp2_with fail
  rw [rounds_succ]
  go_wp2_with fail
  go_quiet ((go_at_call 32; refine Calls.quiet_of_same ((class_any _ _ _).mono fun _ _ h => ⟨h.1, h.2.symm⟩)))
  have HBn1 := Lib.hid (show Below w.heap.size w (v0.drewN nq) from ⟨HBn0.out.os, HBn0.out.tape, HBn0.out.output, HBn0.out.size, HBn0.out.block⟩)
  generalize v0.drewN nq = v1 at HBn1 ⊢
  go_wp2_with fail
  rw [rounds_succ]
  go_wp2_with fail
  obtain ⟨qa, ra⟩ := R3.out
  go_quiet ((go_at_call 32; refine Calls.quiet_of_same ((class_any _ _ _).mono fun _ _ h => ⟨h.1, h.2.symm⟩)))
  clear qa ra
  have HBn2 := Lib.hid (show Below w.heap.size w (v1.drewN nq) from ⟨HBn1.out.os, HBn1.out.tape, HBn1.out.output, HBn1.out.size, HBn1.out.block⟩)
  generalize v1.drewN nq = v2 at HBn2 ⊢
  go_wp2_with fail
  rw [rounds_succ]
  go_wp2
  go_ret
  exact ⟨rfl, HBn2.out⟩
set_option maxRecDepth 100000 in
set_option maxHeartbeats 4000000 in
theorem copies11 (dst src mode : Int) (dir : Bool) (u : Int) (w : World) (a0 : 0 ≤ dst) (b0 : 0 ≤ src) (d0 : 0 ≤ mode) (u0 : 0 ≤ u) (u1 : u ≤ 65535) (hk : dst % 3 = 1) (hj : src % 3 = 1) : Calls Tryd.prog 13 #[.int .u8 dst, .int .u8 src, .int .u16 mode, .bool dir, .int .u16 u] w fun e w' => e = .returned (.bool true) ∧ Below w.heap.size w w' := by
  obtain ⟨m, hm⟩ : ∃ m : Nat, mode % 4096 = (m : Int) := ⟨(mode % 4096).toNat, by omega⟩
  have hm4 : m < 4096 := by omega
  obtain ⟨um, hum⟩ : ∃ um, (u % 4096).toNat = um := ⟨_, rfl⟩
  have HAP := Lib.hid (fun w => cone_apply 61 61 2 0 2 2 0 2 m dir u w rfl rfl rfl rfl (by decide) (by decide) (by decide) (by decide) (.inl rfl) hm4)
  rw [hum] at HAP
  have hx := actN_lt 61 2 um 0 2 m dir
  have f0 : clN (actN 61 2 um 0 2 m dir) 1 = clN m 1 := copies um m 1 1 dir (by decide)
  have g0 : (actN 61 2 um 0 2 m dir).testBit 10 = false := copies_top um m 1 1 dir (by decide)
  have f1 : clN (actN 61 2 um 0 2 m dir) 0 = clN m 0 := copies_other um m 1 1 0 dir (by decide) (by decide) (by decide)
  have g1 : (actN 61 2 um 0 2 m dir).testBit 11 = m.testBit 11 := copies_top_other um m 1 1 0 dir (by decide) (by decide) (by decide)
  have f3 : clN (actN 61 2 um 0 2 m dir) 2 = clN m 2 := copies_other um m 1 1 2 dir (by decide) (by decide) (by decide)
  have g3 : (actN 61 2 um 0 2 m dir).testBit 9 = m.testBit 9 := copies_top_other um m 1 1 2 dir (by decide) (by decide) (by decide)
  obtain ⟨X, hX⟩ : ∃ X, actN 61 2 um 0 2 m dir = X := ⟨_, rfl⟩
  rw [hX] at HAP hx f0 g0 f1 g1 f3 g3
  have q0 : (cls (X : Int) 1 != cls (m : Int) 1) = false := by
    have e1 := cls_nat X 1 (by decide)
    have e2 := cls_nat m 1 (by decide)
    rw [f0] at e1
    exact (show (cls (X : Int) ((1 : Nat) : Int) != cls (m : Int) ((1 : Nat) : Int)) = false by rw [e1, e2]; simp)
  have r0 : (bits .and .i64 ((X : Int) / 1024) 1 != 0) = false := by
    rw [bit_at X 10 1024 (by decide), g0]; rfl
  have q1 : (cls (X : Int) 0 != cls (m : Int) 0) = false := by
    have e1 := cls_nat X 0 (by decide)
    have e2 := cls_nat m 0 (by decide)
    rw [f1] at e1
    exact (show (cls (X : Int) ((0 : Nat) : Int) != cls (m : Int) ((0 : Nat) : Int)) = false by rw [e1, e2]; simp)
  have r1 : (bits .and .i64 ((X : Int) / 2048) 1 != bits .and .i64 ((m : Int) / 2048) 1) = false := by
    rw [bit_at X 11 2048 (by decide), bit_at m 11 2048 (by decide), g1]; simp
  have q3 : (cls (X : Int) 2 != cls (m : Int) 2) = false := by
    have e1 := cls_nat X 2 (by decide)
    have e2 := cls_nat m 2 (by decide)
    rw [f3] at e1
    exact (show (cls (X : Int) ((2 : Nat) : Int) != cls (m : Int) ((2 : Nat) : Int)) = false by rw [e1, e2]; simp)
  have r3 : (bits .and .i64 ((X : Int) / 512) 1 != bits .and .i64 ((m : Int) / 512) 1) = false := by
    rw [bit_at X 9 512 (by decide), bit_at m 9 512 (by decide), g3]; simp
  clear hX f0 g0 f1 g1 f3 g3 hum
  have Q := Lib.hid (And.intro q0 r0)
  have R1 := Lib.hid (And.intro q1 r1)
  have R3 := Lib.hid (And.intro q3 r3)
  clear q0 r0 q1 r1 q3 r3
  go_enter Tryd.func13, Tryd.ntmps13
  go_wp2_with fail
  refine (awake3_any _).mono ?_
  rintro e w1 ⟨rfl, hb1⟩
  have HB1 := Lib.hid hb1
  clear hb1
  go_wp2_with fail
  refine (HAP.out _).mono ?_
  rintro e w2 ⟨rfl, hb2⟩
  have HB2 := Lib.hid (HB1.out.trans (hb2.mono HB1.out.size))
  clear hb2
  obtain ⟨q0, r0⟩ := Q.out
  go_wp2_with (go_at_call 32; refine (class_any _ _ _).mono ?_; rintro e w' ⟨rfl, rfl⟩)
  clear q0 r0
  refine wp_loop_rounds 4 ?_
  rw [rounds_succ]
  go_wp2_with fail
  obtain ⟨qa, ra⟩ := R1.out
  go_quiet ((go_at_call 32; refine Calls.quiet_of_same ((class_any _ _ _).mono fun _ _ h => ⟨h.1, h.2.symm⟩)))
  clear qa ra
  have HBn0 := Lib.hid (show Below w.heap.size w (w2.drewN nq) from ⟨HB2.out.os, HB2.out.tape, HB2.out.output, HB2.out.size, HB2.out.block⟩)
  generalize w2.drewN nq = v0 at HBn0 ⊢
  go_wp2_with fail
  rw [rounds_succ]
  go_wp2_with fail
  go_quiet ((go_at_call 32; refine Calls.quiet_of_same ((class_any _ _ _).mono fun _ _ h => ⟨h.1, h.2.symm⟩)))
  have HBn1 := Lib.hid (show Below w.heap.size w (v0.drewN nq) from ⟨HBn0.out.os, HBn0.out.tape, HBn0.out.output, HBn0.out.size, HBn0.out.block⟩)
  generalize v0.drewN nq = v1 at HBn1 ⊢
  go_wp2_with fail
  rw [rounds_succ]
  go_wp2_with fail
  obtain ⟨qa, ra⟩ := R3.out
  go_quiet ((go_at_call 32; refine Calls.quiet_of_same ((class_any _ _ _).mono fun _ _ h => ⟨h.1, h.2.symm⟩)))
  clear qa ra
  have HBn2 := Lib.hid (show Below w.heap.size w (v1.drewN nq) from ⟨HBn1.out.os, HBn1.out.tape, HBn1.out.output, HBn1.out.size, HBn1.out.block⟩)
  generalize v1.drewN nq = v2 at HBn2 ⊢
  go_wp2_with fail
  rw [rounds_succ]
  go_wp2
  go_ret
  exact ⟨rfl, HBn2.out⟩
set_option maxRecDepth 100000 in
set_option maxHeartbeats 4000000 in
theorem copies12 (dst src mode : Int) (dir : Bool) (u : Int) (w : World) (a0 : 0 ≤ dst) (b0 : 0 ≤ src) (d0 : 0 ≤ mode) (u0 : 0 ≤ u) (u1 : u ≤ 65535) (hk : dst % 3 = 1) (hj : src % 3 = 2) : Calls Tryd.prog 13 #[.int .u8 dst, .int .u8 src, .int .u16 mode, .bool dir, .int .u16 u] w fun e w' => e = .returned (.bool true) ∧ Below w.heap.size w w' := by
  obtain ⟨m, hm⟩ : ∃ m : Nat, mode % 4096 = (m : Int) := ⟨(mode % 4096).toNat, by omega⟩
  have hm4 : m < 4096 := by omega
  obtain ⟨um, hum⟩ : ∃ um, (u % 4096).toNat = um := ⟨_, rfl⟩
  have HAP := Lib.hid (fun w => cone_apply 61 61 2 0 3 2 0 3 m dir u w rfl rfl rfl rfl (by decide) (by decide) (by decide) (by decide) (.inl rfl) hm4)
  rw [hum] at HAP
  have hx := actN_lt 61 2 um 0 3 m dir
  have f0 : clN (actN 61 2 um 0 3 m dir) 1 = clN m 2 := copies um m 1 2 dir (by decide)
  have g0 : (actN 61 2 um 0 3 m dir).testBit 10 = false := copies_top um m 1 2 dir (by decide)
  have f1 : clN (actN 61 2 um 0 3 m dir) 0 = clN m 0 := copies_other um m 1 2 0 dir (by decide) (by decide) (by decide)
  have g1 : (actN 61 2 um 0 3 m dir).testBit 11 = m.testBit 11 := copies_top_other um m 1 2 0 dir (by decide) (by decide) (by decide)
  have f3 : clN (actN 61 2 um 0 3 m dir) 2 = clN m 2 := copies_other um m 1 2 2 dir (by decide) (by decide) (by decide)
  have g3 : (actN 61 2 um 0 3 m dir).testBit 9 = m.testBit 9 := copies_top_other um m 1 2 2 dir (by decide) (by decide) (by decide)
  obtain ⟨X, hX⟩ : ∃ X, actN 61 2 um 0 3 m dir = X := ⟨_, rfl⟩
  rw [hX] at HAP hx f0 g0 f1 g1 f3 g3
  have q0 : (cls (X : Int) 1 != cls (m : Int) 2) = false := by
    have e1 := cls_nat X 1 (by decide)
    have e2 := cls_nat m 2 (by decide)
    rw [f0] at e1
    exact (show (cls (X : Int) ((1 : Nat) : Int) != cls (m : Int) ((2 : Nat) : Int)) = false by rw [e1, e2]; simp)
  have r0 : (bits .and .i64 ((X : Int) / 1024) 1 != 0) = false := by
    rw [bit_at X 10 1024 (by decide), g0]; rfl
  have q1 : (cls (X : Int) 0 != cls (m : Int) 0) = false := by
    have e1 := cls_nat X 0 (by decide)
    have e2 := cls_nat m 0 (by decide)
    rw [f1] at e1
    exact (show (cls (X : Int) ((0 : Nat) : Int) != cls (m : Int) ((0 : Nat) : Int)) = false by rw [e1, e2]; simp)
  have r1 : (bits .and .i64 ((X : Int) / 2048) 1 != bits .and .i64 ((m : Int) / 2048) 1) = false := by
    rw [bit_at X 11 2048 (by decide), bit_at m 11 2048 (by decide), g1]; simp
  have q3 : (cls (X : Int) 2 != cls (m : Int) 2) = false := by
    have e1 := cls_nat X 2 (by decide)
    have e2 := cls_nat m 2 (by decide)
    rw [f3] at e1
    exact (show (cls (X : Int) ((2 : Nat) : Int) != cls (m : Int) ((2 : Nat) : Int)) = false by rw [e1, e2]; simp)
  have r3 : (bits .and .i64 ((X : Int) / 512) 1 != bits .and .i64 ((m : Int) / 512) 1) = false := by
    rw [bit_at X 9 512 (by decide), bit_at m 9 512 (by decide), g3]; simp
  clear hX f0 g0 f1 g1 f3 g3 hum
  have Q := Lib.hid (And.intro q0 r0)
  have R1 := Lib.hid (And.intro q1 r1)
  have R3 := Lib.hid (And.intro q3 r3)
  clear q0 r0 q1 r1 q3 r3
  go_enter Tryd.func13, Tryd.ntmps13
  go_wp2_with fail
  refine (awake3_any _).mono ?_
  rintro e w1 ⟨rfl, hb1⟩
  have HB1 := Lib.hid hb1
  clear hb1
  go_wp2_with fail
  refine (HAP.out _).mono ?_
  rintro e w2 ⟨rfl, hb2⟩
  have HB2 := Lib.hid (HB1.out.trans (hb2.mono HB1.out.size))
  clear hb2
  obtain ⟨q0, r0⟩ := Q.out
  go_wp2_with (go_at_call 32; refine (class_any _ _ _).mono ?_; rintro e w' ⟨rfl, rfl⟩)
  clear q0 r0
  refine wp_loop_rounds 4 ?_
  rw [rounds_succ]
  go_wp2_with fail
  obtain ⟨qa, ra⟩ := R1.out
  go_quiet ((go_at_call 32; refine Calls.quiet_of_same ((class_any _ _ _).mono fun _ _ h => ⟨h.1, h.2.symm⟩)))
  clear qa ra
  have HBn0 := Lib.hid (show Below w.heap.size w (w2.drewN nq) from ⟨HB2.out.os, HB2.out.tape, HB2.out.output, HB2.out.size, HB2.out.block⟩)
  generalize w2.drewN nq = v0 at HBn0 ⊢
  go_wp2_with fail
  rw [rounds_succ]
  go_wp2_with fail
  go_quiet ((go_at_call 32; refine Calls.quiet_of_same ((class_any _ _ _).mono fun _ _ h => ⟨h.1, h.2.symm⟩)))
  have HBn1 := Lib.hid (show Below w.heap.size w (v0.drewN nq) from ⟨HBn0.out.os, HBn0.out.tape, HBn0.out.output, HBn0.out.size, HBn0.out.block⟩)
  generalize v0.drewN nq = v1 at HBn1 ⊢
  go_wp2_with fail
  rw [rounds_succ]
  go_wp2_with fail
  obtain ⟨qa, ra⟩ := R3.out
  go_quiet ((go_at_call 32; refine Calls.quiet_of_same ((class_any _ _ _).mono fun _ _ h => ⟨h.1, h.2.symm⟩)))
  clear qa ra
  have HBn2 := Lib.hid (show Below w.heap.size w (v1.drewN nq) from ⟨HBn1.out.os, HBn1.out.tape, HBn1.out.output, HBn1.out.size, HBn1.out.block⟩)
  generalize v1.drewN nq = v2 at HBn2 ⊢
  go_wp2_with fail
  rw [rounds_succ]
  go_wp2
  go_ret
  exact ⟨rfl, HBn2.out⟩
set_option maxRecDepth 100000 in
set_option maxHeartbeats 4000000 in
theorem copies20 (dst src mode : Int) (dir : Bool) (u : Int) (w : World) (a0 : 0 ≤ dst) (b0 : 0 ≤ src) (d0 : 0 ≤ mode) (u0 : 0 ≤ u) (u1 : u ≤ 65535) (hk : dst % 3 = 2) (hj : src % 3 = 0) : Calls Tryd.prog 13 #[.int .u8 dst, .int .u8 src, .int .u16 mode, .bool dir, .int .u16 u] w fun e w' => e = .returned (.bool true) ∧ Below w.heap.size w w' := by
  obtain ⟨m, hm⟩ : ∃ m : Nat, mode % 4096 = (m : Int) := ⟨(mode % 4096).toNat, by omega⟩
  have hm4 : m < 4096 := by omega
  obtain ⟨um, hum⟩ : ∃ um, (u % 4096).toNat = um := ⟨_, rfl⟩
  have HAP := Lib.hid (fun w => cone_apply 61 61 4 0 1 4 0 1 m dir u w rfl rfl rfl rfl (by decide) (by decide) (by decide) (by decide) (.inl rfl) hm4)
  rw [hum] at HAP
  have hx := actN_lt 61 4 um 0 1 m dir
  have f0 : clN (actN 61 4 um 0 1 m dir) 2 = clN m 0 := copies um m 2 0 dir (by decide)
  have g0 : (actN 61 4 um 0 1 m dir).testBit 9 = false := copies_top um m 2 0 dir (by decide)
  have f1 : clN (actN 61 4 um 0 1 m dir) 0 = clN m 0 := copies_other um m 2 0 0 dir (by decide) (by decide) (by decide)
  have g1 : (actN 61 4 um 0 1 m dir).testBit 11 = m.testBit 11 := copies_top_other um m 2 0 0 dir (by decide) (by decide) (by decide)
  have f2 : clN (actN 61 4 um 0 1 m dir) 1 = clN m 1 := copies_other um m 2 0 1 dir (by decide) (by decide) (by decide)
  have g2 : (actN 61 4 um 0 1 m dir).testBit 10 = m.testBit 10 := copies_top_other um m 2 0 1 dir (by decide) (by decide) (by decide)
  obtain ⟨X, hX⟩ : ∃ X, actN 61 4 um 0 1 m dir = X := ⟨_, rfl⟩
  rw [hX] at HAP hx f0 g0 f1 g1 f2 g2
  have q0 : (cls (X : Int) 2 != cls (m : Int) 0) = false := by
    have e1 := cls_nat X 2 (by decide)
    have e2 := cls_nat m 0 (by decide)
    rw [f0] at e1
    exact (show (cls (X : Int) ((2 : Nat) : Int) != cls (m : Int) ((0 : Nat) : Int)) = false by rw [e1, e2]; simp)
  have r0 : (bits .and .i64 ((X : Int) / 512) 1 != 0) = false := by
    rw [bit_at X 9 512 (by decide), g0]; rfl
  have q1 : (cls (X : Int) 0 != cls (m : Int) 0) = false := by
    have e1 := cls_nat X 0 (by decide)
    have e2 := cls_nat m 0 (by decide)
    rw [f1] at e1
    exact (show (cls (X : Int) ((0 : Nat) : Int) != cls (m : Int) ((0 : Nat) : Int)) = false by rw [e1, e2]; simp)
  have r1 : (bits .and .i64 ((X : Int) / 2048) 1 != bits .and .i64 ((m : Int) / 2048) 1) = false := by
    rw [bit_at X 11 2048 (by decide), bit_at m 11 2048 (by decide), g1]; simp
  have q2 : (cls (X : Int) 1 != cls (m : Int) 1) = false := by
    have e1 := cls_nat X 1 (by decide)
    have e2 := cls_nat m 1 (by decide)
    rw [f2] at e1
    exact (show (cls (X : Int) ((1 : Nat) : Int) != cls (m : Int) ((1 : Nat) : Int)) = false by rw [e1, e2]; simp)
  have r2 : (bits .and .i64 ((X : Int) / 1024) 1 != bits .and .i64 ((m : Int) / 1024) 1) = false := by
    rw [bit_at X 10 1024 (by decide), bit_at m 10 1024 (by decide), g2]; simp
  clear hX f0 g0 f1 g1 f2 g2 hum
  have Q := Lib.hid (And.intro q0 r0)
  have R1 := Lib.hid (And.intro q1 r1)
  have R2 := Lib.hid (And.intro q2 r2)
  clear q0 r0 q1 r1 q2 r2
  go_enter Tryd.func13, Tryd.ntmps13
  go_wp2_with fail
  refine (awake3_any _).mono ?_
  rintro e w1 ⟨rfl, hb1⟩
  have HB1 := Lib.hid hb1
  clear hb1
  go_wp2_with fail
  refine (HAP.out _).mono ?_
  rintro e w2 ⟨rfl, hb2⟩
  have HB2 := Lib.hid (HB1.out.trans (hb2.mono HB1.out.size))
  clear hb2
  obtain ⟨q0, r0⟩ := Q.out
  go_wp2_with (go_at_call 32; refine (class_any _ _ _).mono ?_; rintro e w' ⟨rfl, rfl⟩)
  clear q0 r0
  refine wp_loop_rounds 4 ?_
  rw [rounds_succ]
  go_wp2_with fail
  obtain ⟨qa, ra⟩ := R1.out
  go_quiet ((go_at_call 32; refine Calls.quiet_of_same ((class_any _ _ _).mono fun _ _ h => ⟨h.1, h.2.symm⟩)))
  clear qa ra
  have HBn0 := Lib.hid (show Below w.heap.size w (w2.drewN nq) from ⟨HB2.out.os, HB2.out.tape, HB2.out.output, HB2.out.size, HB2.out.block⟩)
  generalize w2.drewN nq = v0 at HBn0 ⊢
  go_wp2_with fail
  rw [rounds_succ]
  go_wp2_with fail
  obtain ⟨qa, ra⟩ := R2.out
  go_quiet ((go_at_call 32; refine Calls.quiet_of_same ((class_any _ _ _).mono fun _ _ h => ⟨h.1, h.2.symm⟩)))
  clear qa ra
  have HBn1 := Lib.hid (show Below w.heap.size w (v0.drewN nq) from ⟨HBn0.out.os, HBn0.out.tape, HBn0.out.output, HBn0.out.size, HBn0.out.block⟩)
  generalize v0.drewN nq = v1 at HBn1 ⊢
  go_wp2_with fail
  rw [rounds_succ]
  go_wp2_with fail
  go_quiet ((go_at_call 32; refine Calls.quiet_of_same ((class_any _ _ _).mono fun _ _ h => ⟨h.1, h.2.symm⟩)))
  have HBn2 := Lib.hid (show Below w.heap.size w (v1.drewN nq) from ⟨HBn1.out.os, HBn1.out.tape, HBn1.out.output, HBn1.out.size, HBn1.out.block⟩)
  generalize v1.drewN nq = v2 at HBn2 ⊢
  go_wp2_with fail
  rw [rounds_succ]
  go_wp2
  go_ret
  exact ⟨rfl, HBn2.out⟩
set_option maxRecDepth 100000 in
set_option maxHeartbeats 4000000 in
theorem copies21 (dst src mode : Int) (dir : Bool) (u : Int) (w : World) (a0 : 0 ≤ dst) (b0 : 0 ≤ src) (d0 : 0 ≤ mode) (u0 : 0 ≤ u) (u1 : u ≤ 65535) (hk : dst % 3 = 2) (hj : src % 3 = 1) : Calls Tryd.prog 13 #[.int .u8 dst, .int .u8 src, .int .u16 mode, .bool dir, .int .u16 u] w fun e w' => e = .returned (.bool true) ∧ Below w.heap.size w w' := by
  obtain ⟨m, hm⟩ : ∃ m : Nat, mode % 4096 = (m : Int) := ⟨(mode % 4096).toNat, by omega⟩
  have hm4 : m < 4096 := by omega
  obtain ⟨um, hum⟩ : ∃ um, (u % 4096).toNat = um := ⟨_, rfl⟩
  have HAP := Lib.hid (fun w => cone_apply 61 61 4 0 2 4 0 2 m dir u w rfl rfl rfl rfl (by decide) (by decide) (by decide) (by decide) (.inl rfl) hm4)
  rw [hum] at HAP
  have hx := actN_lt 61 4 um 0 2 m dir
  have f0 : clN (actN 61 4 um 0 2 m dir) 2 = clN m 1 := copies um m 2 1 dir (by decide)
  have g0 : (actN 61 4 um 0 2 m dir).testBit 9 = false := copies_top um m 2 1 dir (by decide)
  have f1 : clN (actN 61 4 um 0 2 m dir) 0 = clN m 0 := copies_other um m 2 1 0 dir (by decide) (by decide) (by decide)
  have g1 : (actN 61 4 um 0 2 m dir).testBit 11 = m.testBit 11 := copies_top_other um m 2 1 0 dir (by decide) (by decide) (by decide)
  have f2 : clN (actN 61 4 um 0 2 m dir) 1 = clN m 1 := copies_other um m 2 1 1 dir (by decide) (by decide) (by decide)
  have g2 : (actN 61 4 um 0 2 m dir).testBit 10 = m.testBit 10 := copies_top_other um m 2 1 1 dir (by decide) (by decide) (by decide)
  obtain ⟨X, hX⟩ : ∃ X, actN 61 4 um 0 2 m dir = X := ⟨_, rfl⟩
  rw [hX] at HAP hx f0 g0 f1 g1 f2 g2
  have q0 : (cls (X : Int) 2 != cls (m : Int) 1) = false := by
    have e1 := cls_nat X 2 (by decide)
    have e2 := cls_nat m 1 (by decide)
    rw [f0] at e1
    exact (show (cls (X : Int) ((2 : Nat) : Int) != cls (m : Int) ((1 : Nat) : Int)) = false by rw [e1, e2]; simp)
  have r0 : (bits .and .i64 ((X : Int) / 512) 1 != 0) = false := by
    rw [bit_at X 9 512 (by decide), g0]; rfl
  have q1 : (cls (X : Int) 0 != cls (m : Int) 0) = false := by
    have e1 := cls_nat X 0 (by decide)
    have e2 := cls_nat m 0 (by decide)
    rw [f1] at e1
    exact (show (cls (X : Int) ((0 : Nat) : Int) != cls (m : Int) ((0 : Nat) : Int)) = false by rw [e1, e2]; simp)
  have r1 : (bits .and .i64 ((X : Int) / 2048) 1 != bits .and .i64 ((m : Int) / 2048) 1) = false := by
    rw [bit_at X 11 2048 (by decide), bit_at m 11 2048 (by decide), g1]; simp
  have q2 : (cls (X : Int) 1 != cls (m : Int) 1) = false := by
    have e1 := cls_nat X 1 (by decide)
    have e2 := cls_nat m 1 (by decide)
    rw [f2] at e1
    exact (show (cls (X : Int) ((1 : Nat) : Int) != cls (m : Int) ((1 : Nat) : Int)) = false by rw [e1, e2]; simp)
  have r2 : (bits .and .i64 ((X : Int) / 1024) 1 != bits .and .i64 ((m : Int) / 1024) 1) = false := by
    rw [bit_at X 10 1024 (by decide), bit_at m 10 1024 (by decide), g2]; simp
  clear hX f0 g0 f1 g1 f2 g2 hum
  have Q := Lib.hid (And.intro q0 r0)
  have R1 := Lib.hid (And.intro q1 r1)
  have R2 := Lib.hid (And.intro q2 r2)
  clear q0 r0 q1 r1 q2 r2
  go_enter Tryd.func13, Tryd.ntmps13
  go_wp2_with fail
  refine (awake3_any _).mono ?_
  rintro e w1 ⟨rfl, hb1⟩
  have HB1 := Lib.hid hb1
  clear hb1
  go_wp2_with fail
  refine (HAP.out _).mono ?_
  rintro e w2 ⟨rfl, hb2⟩
  have HB2 := Lib.hid (HB1.out.trans (hb2.mono HB1.out.size))
  clear hb2
  obtain ⟨q0, r0⟩ := Q.out
  go_wp2_with (go_at_call 32; refine (class_any _ _ _).mono ?_; rintro e w' ⟨rfl, rfl⟩)
  clear q0 r0
  refine wp_loop_rounds 4 ?_
  rw [rounds_succ]
  go_wp2_with fail
  obtain ⟨qa, ra⟩ := R1.out
  go_quiet ((go_at_call 32; refine Calls.quiet_of_same ((class_any _ _ _).mono fun _ _ h => ⟨h.1, h.2.symm⟩)))
  clear qa ra
  have HBn0 := Lib.hid (show Below w.heap.size w (w2.drewN nq) from ⟨HB2.out.os, HB2.out.tape, HB2.out.output, HB2.out.size, HB2.out.block⟩)
  generalize w2.drewN nq = v0 at HBn0 ⊢
  go_wp2_with fail
  rw [rounds_succ]
  go_wp2_with fail
  obtain ⟨qa, ra⟩ := R2.out
  go_quiet ((go_at_call 32; refine Calls.quiet_of_same ((class_any _ _ _).mono fun _ _ h => ⟨h.1, h.2.symm⟩)))
  clear qa ra
  have HBn1 := Lib.hid (show Below w.heap.size w (v0.drewN nq) from ⟨HBn0.out.os, HBn0.out.tape, HBn0.out.output, HBn0.out.size, HBn0.out.block⟩)
  generalize v0.drewN nq = v1 at HBn1 ⊢
  go_wp2_with fail
  rw [rounds_succ]
  go_wp2_with fail
  go_quiet ((go_at_call 32; refine Calls.quiet_of_same ((class_any _ _ _).mono fun _ _ h => ⟨h.1, h.2.symm⟩)))
  have HBn2 := Lib.hid (show Below w.heap.size w (v1.drewN nq) from ⟨HBn1.out.os, HBn1.out.tape, HBn1.out.output, HBn1.out.size, HBn1.out.block⟩)
  generalize v1.drewN nq = v2 at HBn2 ⊢
  go_wp2_with fail
  rw [rounds_succ]
  go_wp2
  go_ret
  exact ⟨rfl, HBn2.out⟩
set_option maxRecDepth 100000 in
set_option maxHeartbeats 4000000 in
theorem copies22 (dst src mode : Int) (dir : Bool) (u : Int) (w : World) (a0 : 0 ≤ dst) (b0 : 0 ≤ src) (d0 : 0 ≤ mode) (u0 : 0 ≤ u) (u1 : u ≤ 65535) (hk : dst % 3 = 2) (hj : src % 3 = 2) : Calls Tryd.prog 13 #[.int .u8 dst, .int .u8 src, .int .u16 mode, .bool dir, .int .u16 u] w fun e w' => e = .returned (.bool true) ∧ Below w.heap.size w w' := by
  obtain ⟨m, hm⟩ : ∃ m : Nat, mode % 4096 = (m : Int) := ⟨(mode % 4096).toNat, by omega⟩
  have hm4 : m < 4096 := by omega
  obtain ⟨um, hum⟩ : ∃ um, (u % 4096).toNat = um := ⟨_, rfl⟩
  have HAP := Lib.hid (fun w => cone_apply 61 61 4 0 3 4 0 3 m dir u w rfl rfl rfl rfl (by decide) (by decide) (by decide) (by decide) (.inl rfl) hm4)
  rw [hum] at HAP
  have hx := actN_lt 61 4 um 0 3 m dir
  have f0 : clN (actN 61 4 um 0 3 m dir) 2 = clN m 2 := copies um m 2 2 dir (by decide)
  have g0 : (actN 61 4 um 0 3 m dir).testBit 9 = false := copies_top um m 2 2 dir (by decide)
  have f1 : clN (actN 61 4 um 0 3 m dir) 0 = clN m 0 := copies_other um m 2 2 0 dir (by decide) (by decide) (by decide)
  have g1 : (actN 61 4 um 0 3 m dir).testBit 11 = m.testBit 11 := copies_top_other um m 2 2 0 dir (by decide) (by decide) (by decide)
  have f2 : clN (actN 61 4 um 0 3 m dir) 1 = clN m 1 := copies_other um m 2 2 1 dir (by decide) (by decide) (by decide)
  have g2 : (actN 61 4 um 0 3 m dir).testBit 10 = m.testBit 10 := copies_top_other um m 2 2 1 dir (by decide) (by decide) (by decide)
  obtain ⟨X, hX⟩ : ∃ X, actN 61 4 um 0 3 m dir = X := ⟨_, rfl⟩
  rw [hX] at HAP hx f0 g0 f1 g1 f2 g2
  have q0 : (cls (X : Int) 2 != cls (m : Int) 2) = false := by
    have e1 := cls_nat X 2 (by decide)
    have e2 := cls_nat m 2 (by decide)
    rw [f0] at e1
    exact (show (cls (X : Int) ((2 : Nat) : Int) != cls (m : Int) ((2 : Nat) : Int)) = false by rw [e1, e2]; simp)
  have r0 : (bits .and .i64 ((X : Int) / 512) 1 != 0) = false := by
    rw [bit_at X 9 512 (by decide), g0]; rfl
  have q1 : (cls (X : Int) 0 != cls (m : Int) 0) = false := by
    have e1 := cls_nat X 0 (by decide)
    have e2 := cls_nat m 0 (by decide)
    rw [f1] at e1
    exact (show (cls (X : Int) ((0 : Nat) : Int) != cls (m : Int) ((0 : Nat) : Int)) = false by rw [e1, e2]; simp)
  have r1 : (bits .and .i64 ((X : Int) / 2048) 1 != bits .and .i64 ((m : Int) / 2048) 1) = false := by
    rw [bit_at X 11 2048 (by decide), bit_at m 11 2048 (by decide), g1]; simp
  have q2 : (cls (X : Int) 1 != cls (m : Int) 1) = false := by
    have e1 := cls_nat X 1 (by decide)
    have e2 := cls_nat m 1 (by decide)
    rw [f2] at e1
    exact (show (cls (X : Int) ((1 : Nat) : Int) != cls (m : Int) ((1 : Nat) : Int)) = false by rw [e1, e2]; simp)
  have r2 : (bits .and .i64 ((X : Int) / 1024) 1 != bits .and .i64 ((m : Int) / 1024) 1) = false := by
    rw [bit_at X 10 1024 (by decide), bit_at m 10 1024 (by decide), g2]; simp
  clear hX f0 g0 f1 g1 f2 g2 hum
  have Q := Lib.hid (And.intro q0 r0)
  have R1 := Lib.hid (And.intro q1 r1)
  have R2 := Lib.hid (And.intro q2 r2)
  clear q0 r0 q1 r1 q2 r2
  go_enter Tryd.func13, Tryd.ntmps13
  go_wp2_with fail
  refine (awake3_any _).mono ?_
  rintro e w1 ⟨rfl, hb1⟩
  have HB1 := Lib.hid hb1
  clear hb1
  go_wp2_with fail
  refine (HAP.out _).mono ?_
  rintro e w2 ⟨rfl, hb2⟩
  have HB2 := Lib.hid (HB1.out.trans (hb2.mono HB1.out.size))
  clear hb2
  obtain ⟨q0, r0⟩ := Q.out
  go_wp2_with (go_at_call 32; refine (class_any _ _ _).mono ?_; rintro e w' ⟨rfl, rfl⟩)
  clear q0 r0
  refine wp_loop_rounds 4 ?_
  rw [rounds_succ]
  go_wp2_with fail
  obtain ⟨qa, ra⟩ := R1.out
  go_quiet ((go_at_call 32; refine Calls.quiet_of_same ((class_any _ _ _).mono fun _ _ h => ⟨h.1, h.2.symm⟩)))
  clear qa ra
  have HBn0 := Lib.hid (show Below w.heap.size w (w2.drewN nq) from ⟨HB2.out.os, HB2.out.tape, HB2.out.output, HB2.out.size, HB2.out.block⟩)
  generalize w2.drewN nq = v0 at HBn0 ⊢
  go_wp2_with fail
  rw [rounds_succ]
  go_wp2_with fail
  obtain ⟨qa, ra⟩ := R2.out
  go_quiet ((go_at_call 32; refine Calls.quiet_of_same ((class_any _ _ _).mono fun _ _ h => ⟨h.1, h.2.symm⟩)))
  clear qa ra
  have HBn1 := Lib.hid (show Below w.heap.size w (v0.drewN nq) from ⟨HBn0.out.os, HBn0.out.tape, HBn0.out.output, HBn0.out.size, HBn0.out.block⟩)
  generalize v0.drewN nq = v1 at HBn1 ⊢
  go_wp2_with fail
  rw [rounds_succ]
  go_wp2_with fail
  go_quiet ((go_at_call 32; refine Calls.quiet_of_same ((class_any _ _ _).mono fun _ _ h => ⟨h.1, h.2.symm⟩)))
  have HBn2 := Lib.hid (show Below w.heap.size w (v1.drewN nq) from ⟨HBn1.out.os, HBn1.out.tape, HBn1.out.output, HBn1.out.size, HBn1.out.block⟩)
  generalize v1.drewN nq = v2 at HBn2 ⊢
  go_wp2_with fail
  rw [rounds_succ]
  go_wp2
  go_ret
  exact ⟨rfl, HBn2.out⟩
theorem copiesLaw (dst src mode : Int) (dir : Bool) (u : Int) (w : World) (a0 : 0 ≤ dst) (b0 : 0 ≤ src) (d0 : 0 ≤ mode) (u0 : 0 ≤ u) (u1 : u ≤ 65535) : Calls Tryd.prog 13 #[.int .u8 dst, .int .u8 src, .int .u16 mode, .bool dir, .int .u16 u] w fun e w' => e = .returned (.bool true) ∧ Below w.heap.size w w' := by
  obtain h | h | h : dst % 3 = 0 ∨ dst % 3 = 1 ∨ dst % 3 = 2 := by omega
  · obtain k | k | k : src % 3 = 0 ∨ src % 3 = 1 ∨ src % 3 = 2 := by omega
    · exact copies00 dst src mode dir u w a0 b0 d0 u0 u1 h k
    · exact copies01 dst src mode dir u w a0 b0 d0 u0 u1 h k
    · exact copies02 dst src mode dir u w a0 b0 d0 u0 u1 h k
  · obtain k | k | k : src % 3 = 0 ∨ src % 3 = 1 ∨ src % 3 = 2 := by omega
    · exact copies10 dst src mode dir u w a0 b0 d0 u0 u1 h k
    · exact copies11 dst src mode dir u w a0 b0 d0 u0 u1 h k
    · exact copies12 dst src mode dir u w a0 b0 d0 u0 u1 h k
  · obtain k | k | k : src % 3 = 0 ∨ src % 3 = 1 ∨ src % 3 = 2 := by omega
    · exact copies20 dst src mode dir u w a0 b0 d0 u0 u1 h k
    · exact copies21 dst src mode dir u w a0 b0 d0 u0 u1 h k
    · exact copies22 dst src mode dir u w a0 b0 d0 u0 u1 h k
end Go.Proofs.YtbjajipeiigodaaDoor
