/-
  What applyAct, and Apply of clauses however they lie in memory, make of a mode.
-/
import Derived.Test.YtbjajipeiigodaaDoorApl2
import Derived.Test.YtbjajipeiigodaaDoorRight
namespace Go.Proofs.YtbjajipeiigodaaDoor
open Go Go.RowKit

set_option maxHeartbeats 4000000 in
theorem applyAct_any (op : UInt8) (who p c m : Nat) (dir : Bool) (u : Int) (w : World) (ho : op = 43 ∨ op = 45 ∨ op = 61) (hw : who < 8) (hp : p < 64) (hc : c ≤ 3) (hm : m < 4096) :
    Calls Tryd.prog 49 #[.int .i64 (who : Int), .agg #[.int .u8 (co op), .int .i64 (p : Int), .int .i64 (c : Int)], .int .i64 (m : Int), .bool dir, .int .i64 u] w fun e w' => e = .returned (.int .i64 (actN op who (u % 4096).toNat p c m dir : Nat)) ∧ Below w.heap.size w w' := by
  have HA := Lib.hid (fun w => actBits_any (co op) p c m dir w hp hc hm)
  have HH := Lib.hid (fun w => whoHas_any who u w hw)
  have HC := Lib.hid (fun w => whoClears_any who w hw)
  have HP := Lib.hid (act_plus who (u % 4096).toNat p c m dir hw hp hm)
  have HM := Lib.hid (act_minus who (u % 4096).toNat p c m dir hw hp)
  have HE := Lib.hid (act_equal who (u % 4096).toNat p c m dir hw hp)
  have hX := bitN_lt p c m dir hp
  have hY := hasN_lt who (u % 4096).toNat hw
  have hZ := whoN_lt ⟨who, hw⟩
  simp only at hZ
  obtain ⟨um, hum⟩ : ∃ um, (u % 4096).toNat = um := ⟨_, rfl⟩
  rw [hum] at HH HP HM HE hY ⊢
  clear hum
  obtain ⟨X, eX⟩ : ∃ X, bitN p c m dir = X := ⟨_, rfl⟩
  obtain ⟨Y, eY⟩ : ∃ Y, hasN who um = Y := ⟨_, rfl⟩
  obtain ⟨Z, eZ⟩ : ∃ Z, whoN who = Z := ⟨_, rfl⟩
  rw [eX] at HA HP HM HE hX
  rw [eY] at HH HP HM HE hY
  rw [eZ] at HC HE hZ
  clear eX eY eZ
  have HXY := Lib.hid (and_nat X Y hX hY)
  have hT : X &&& Y < 4096 := Nat.and_lt_two_pow (n := 12) _ hY
  obtain ⟨T, eT⟩ : ∃ T, X &&& Y = T := ⟨_, rfl⟩
  rw [eT] at HP HM HE HXY hT
  clear eT
  have HOR := Lib.hid (or_nat m T hm hT)
  have HAN := Lib.hid (andNot_nat m T hm)
  have HAZ := Lib.hid (andNot_nat m Z hm)
  have HOZ := Lib.hid (or_nat (clearN m Z) T (ofB_lt _ 12) hT)
  rcases ho with rfl | rfl | rfl
  · have q : co 43 = 43 := rfl
    rw [q] at HA ⊢
    go_enter Tryd.func49, Tryd.ntmps49
    go_wp2_with fail
    refine (HA.out _).mono ?_
    rintro e w1 ⟨rfl, hb1⟩
    have c6 : w1.cell? ⟨w.heap.size, 0, none⟩ = some (.int .u8 43) := (hb1.cell (by simp)).trans (by simp)
    have HB1 := Lib.hid (((Below.refl w.heap.size w).alloc (Nat.le_refl _) _).trans (hb1.mono (by simp)))
    clear hb1
    go_wp2_with fail
    refine (HH.out _).mono ?_
    rintro e w2 ⟨rfl, n2, rfl⟩
    go_wp2
    go_ret
    refine ⟨ret_int ?_, ⟨HB1.out.os, HB1.out.tape, HB1.out.output, HB1.out.size, HB1.out.block⟩⟩
    rw [HXY.out, HOR.out, HP.out]
  · have q : co 45 = 45 := rfl
    rw [q] at HA ⊢
    go_enter Tryd.func49, Tryd.ntmps49
    go_wp2_with fail
    refine (HA.out _).mono ?_
    rintro e w1 ⟨rfl, hb1⟩
    have c6 : w1.cell? ⟨w.heap.size, 0, none⟩ = some (.int .u8 45) := (hb1.cell (by simp)).trans (by simp)
    have HB1 := Lib.hid (((Below.refl w.heap.size w).alloc (Nat.le_refl _) _).trans (hb1.mono (by simp)))
    clear hb1
    go_wp2_with fail
    refine (HH.out _).mono ?_
    rintro e w2 ⟨rfl, n2, rfl⟩
    go_wp2
    go_ret
    refine ⟨ret_int ?_, ⟨HB1.out.os, HB1.out.tape, HB1.out.output, HB1.out.size, HB1.out.block⟩⟩
    rw [HXY.out, HAN.out, HM.out]
  · have q : co 61 = 61 := rfl
    rw [q] at HA ⊢
    go_enter Tryd.func49, Tryd.ntmps49
    go_wp2_with fail
    refine (HA.out _).mono ?_
    rintro e w1 ⟨rfl, hb1⟩
    have c6 : w1.cell? ⟨w.heap.size, 0, none⟩ = some (.int .u8 61) := (hb1.cell (by simp)).trans (by simp)
    have HB1 := Lib.hid (((Below.refl w.heap.size w).alloc (Nat.le_refl _) _).trans (hb1.mono (by simp)))
    clear hb1
    go_wp2_with fail
    refine (HH.out _).mono ?_
    rintro e w2 ⟨rfl, n2, rfl⟩
    go_wp2_with fail
    refine (HC.out _).mono ?_
    rintro e w3 ⟨rfl, n3, rfl⟩
    go_wp2
    go_ret
    refine ⟨ret_int ?_, ⟨HB1.out.os, HB1.out.tape, HB1.out.output, HB1.out.size, HB1.out.block⟩⟩
    rw [HXY.out, HAZ.out, HOZ.out, HE.out]
end Go.Proofs.YtbjajipeiigodaaDoor
