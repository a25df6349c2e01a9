/-
  What apply.Of and the statements' functions of and awake answer.
-/
import Derived.Test.YtbjajipeiigodaaDoorARead
namespace Go.Proofs.YtbjajipeiigodaaDoor
open Go Go.RowKit

/-- What a mode that is told makes of another one. -/
def ofM (t : TM) (mode : Int) (dir : Bool) (u : Int) : Int := match t with
  | .bad => -1
  | .num n => n % 4096
  | .cl cs => applyM cs mode dir u
theorem aof_num (x : Int) (v : Value) (mode : Int) (dir : Bool) (u : Int) (w : World) : Calls Tryd.prog 26 #[.agg #[.bool true, .int .i64 x, v], .int .i64 mode, .bool dir, .int .i64 u] w fun e w' => e = .returned (.int .i64 (x % 4096)) ∧ Below w.heap.size w w' := by
  have HA := Lib.hid (and4095 x)
  go_enter Tryd.func26, Tryd.ntmps26
  go_wp2
  go_ret
  exact ⟨ret_int HA.out, (Below.refl _ _).alloc (Nat.le_refl _) _⟩
theorem aof_cl (cs : List CC) (x : Int) (A : Option Addr) (n c : Nat) (mode : Int) (dir : Bool) (u : Int) (w : World) (h : ClsR w (.slice A n c) cs) (hn : cs.length ≤ 1000000) (hl : ∀ c ∈ cs, c.acts.length ≤ 1000000) : Calls Tryd.prog 26 #[.agg #[.bool false, .int .i64 x, .slice A n c], .int .i64 mode, .bool dir, .int .i64 u] w fun e w' => e = .returned (.int .i64 (applyM cs mode dir u)) ∧ Below w.heap.size w w' := by
  have hb0 : Below w.heap.size w (w.alloc (.cells #[.bool false, .int .i64 x, .slice A n c] 45)) := (Below.refl _ _).alloc (Nat.le_refl _) _
  have HAP := Lib.hid (apply_any (.slice A n c) cs mode dir u _ (h.below hb0) hn hl)
  have HB0 := Lib.hid hb0
  clear hb0 hl
  go_enter Tryd.func26, Tryd.ntmps26
  go_wp2_with fail
  refine HAP.out.mono ?_
  rintro e w1 ⟨rfl, hb⟩
  have HB := Lib.hid (HB0.out.trans (hb.mono (by simp)))
  clear hb
  go_wp2
  go_ret
  exact ⟨rfl, HB.out⟩

theorem parse_small {s : ByteArray} {cs : List CC} (h : parseC s.data.toList = some cs) (hs : s.size ≤ 9000) : cs.length ≤ 1000000 ∧ ∀ c ∈ cs, c.acts.length ≤ 1000000 := by
  have h1 := allC_len h
  have h2 := pieces_count s.data.toList
  have h3 := allC_acts h (n := 9000) (fun p hp => by
    have := piece_len _ p hp
    simp at this
    omega)
  simp at h2
  exact ⟨by omega, fun c hc => Nat.le_trans (h3 c hc) (by decide)⟩
theorem rd_cl {s : ByteArray} {cs : List CC} (h : rdM s = .cl cs) : parseC s.data.toList = some cs := by
  unfold rdM at h
  split at h
  · unfold octM at h
    split at h <;> cases h
  · unfold clM at h
    split at h
    · cases h
    · rename_i hp
      injection h with h
      rw [hp, h]
set_option maxHeartbeats 1000000 in
theorem of_any (s : ByteArray) (mode : Int) (dir : Bool) (u : Int) (w : World) (hs : s.size ≤ 9000) : Calls Tryd.prog 43 #[.string s, .int .i64 mode, .bool dir, .int .i64 u] w fun e w' => e = .returned (.int .i64 (ofM (rdM s) mode dir u)) ∧ Below w.heap.size w w' := by
  have HR := Lib.hid (fun w => aread_any s w (by omega))
  cases ht : rdM s with
  | bad =>
    rw [ht] at HR
    unfold RdPost at HR
    simp only at HR
    clear ht
    go_enter Tryd.func43, Tryd.ntmps43
    go_wp2_with fail
    refine (HR.out _).mono ?_
    rintro e w1 ⟨A, n, c, hb, -, rfl⟩
    have HB := Lib.hid (hb.alloc hb.size (.cells #[.bool false, .int .i64 0, .slice none 0 0] 45))
    clear hb
    go_wp2
    go_ret
    exact ⟨rfl, HB.out⟩
  | num x =>
    rw [ht] at HR
    unfold RdPost at HR
    simp only at HR
    clear ht
    go_enter Tryd.func43, Tryd.ntmps43
    go_wp2_with fail
    refine (HR.out _).mono ?_
    rintro e w1 ⟨A, n, c, hb, -, rfl⟩
    have HB := Lib.hid (hb.alloc hb.size (.cells #[.bool true, .int .i64 x, .slice none 0 0] 45))
    clear hb
    go_wp2_with fail
    refine (aof_num x _ mode dir u _).mono ?_
    rintro e w2 ⟨rfl, hb⟩
    have HB2 := Lib.hid (HB.out.trans (hb.mono HB.out.size))
    clear hb
    go_wp2
    go_ret
    exact ⟨rfl, HB2.out⟩
  | cl cs =>
    have hsm := parse_small (rd_cl ht) hs
    rw [ht] at HR
    unfold RdPost at HR
    simp only at HR
    have HS := Lib.hid hsm
    clear ht hsm
    go_enter Tryd.func43, Tryd.ntmps43
    go_wp2_with fail
    refine (HR.out _).mono ?_
    rintro e w1 ⟨A, n, c, hb, ho, rfl⟩
    have HB := Lib.hid (hb.alloc hb.size (.cells #[.bool false, .int .i64 0, .slice A n c] 45))
    have HO := Lib.hid (ho.cls.below ((Below.refl w1.heap.size w1).alloc (Nat.le_refl _) (.cells #[.bool false, .int .i64 0, .slice A n c] 45)))
    clear hb ho
    go_wp2_with fail
    refine (aof_cl cs 0 A n c mode dir u _ HO.out HS.out.1 HS.out.2).mono ?_
    rintro e w2 ⟨rfl, hb⟩
    have HB2 := Lib.hid (HB.out.trans (hb.mono HB.out.size))
    clear hb
    go_wp2
    go_ret
    exact ⟨rfl, HB2.out⟩

theorem ex1 : ofM (rdM ⟨#[117, 61, 103]⟩) 416 false 0 = 288 := by decide +kernel
theorem ex2 : ofM (rdM ⟨#[43, 120]⟩) 420 false 18 = 493 := by decide +kernel
theorem ex3 : ofM (rdM ⟨#[43, 120]⟩) 420 false 63 = 484 := by decide +kernel
theorem ex4 : ofM (rdM ⟨#[97, 43, 88]⟩) 420 false 0 = 420 := by decide +kernel
theorem ex5 : ofM (rdM ⟨#[97, 43, 88]⟩) 420 true 0 = 493 := by decide +kernel
theorem ex6 : ofM (rdM ⟨#[48, 55, 53, 53]⟩) 1 false 0 = 493 := by decide +kernel
theorem ex7 : ofM (rdM ⟨#[113]⟩) 0 false 0 = -1 := by decide +kernel
set_option maxHeartbeats 1000000 in
theorem awake3_any (w : World) : Calls Tryd.prog 23 #[] w fun e w' => e = .returned (.bool true) ∧ Below w.heap.size w w' := by
  have H1 := Lib.hid (fun w => of_any ⟨#[117, 61, 103]⟩ 416 false 0 w (by decide))
  have H2 := Lib.hid (fun w => of_any ⟨#[43, 120]⟩ 420 false 18 w (by decide))
  have H3 := Lib.hid (fun w => of_any ⟨#[43, 120]⟩ 420 false 63 w (by decide))
  have H4 := Lib.hid (fun w => of_any ⟨#[97, 43, 88]⟩ 420 false 0 w (by decide))
  have H5 := Lib.hid (fun w => of_any ⟨#[97, 43, 88]⟩ 420 true 0 w (by decide))
  have H6 := Lib.hid (fun w => of_any ⟨#[48, 55, 53, 53]⟩ 1 false 0 w (by decide))
  have H7 := Lib.hid (fun w => of_any ⟨#[113]⟩ 0 false 0 w (by decide))
  rw [ex1] at H1
  rw [ex2] at H2
  rw [ex3] at H3
  rw [ex4] at H4
  rw [ex5] at H5
  rw [ex6] at H6
  rw [ex7] at H7
  go_enter Tryd.func23, Tryd.ntmps23
  go_wp2_with fail
  refine (H1.out _).mono ?_
  rintro e w1 ⟨rfl, hb⟩
  have B1 := Lib.hid hb
  clear hb
  go_wp2_with fail
  refine (H2.out _).mono ?_
  rintro e w2 ⟨rfl, hb⟩
  have B2 := Lib.hid (B1.out.trans (hb.mono B1.out.size))
  clear hb
  go_wp2_with fail
  refine (H3.out _).mono ?_
  rintro e w3 ⟨rfl, hb⟩
  have B3 := Lib.hid (B2.out.trans (hb.mono B2.out.size))
  clear hb
  go_wp2_with fail
  refine (H4.out _).mono ?_
  rintro e w4 ⟨rfl, hb⟩
  have B4 := Lib.hid (B3.out.trans (hb.mono B3.out.size))
  clear hb
  go_wp2_with fail
  refine (H5.out _).mono ?_
  rintro e w5 ⟨rfl, hb⟩
  have B5 := Lib.hid (B4.out.trans (hb.mono B4.out.size))
  clear hb
  go_wp2_with fail
  refine (H6.out _).mono ?_
  rintro e w6 ⟨rfl, hb⟩
  have B6 := Lib.hid (B5.out.trans (hb.mono B5.out.size))
  clear hb
  go_wp2_with fail
  refine (H7.out _).mono ?_
  rintro e w7 ⟨rfl, hb⟩
  have B7 := Lib.hid (B6.out.trans (hb.mono B6.out.size))
  clear hb
  go_wp2
  go_ret
  exact ⟨rfl, B7.out⟩
end Go.Proofs.YtbjajipeiigodaaDoor
