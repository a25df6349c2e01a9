/-
  What the reference's act makes of a mode: as one act that may be does.
-/
import Derived.Test.YtbjajipeiigodaaDoorRIn
namespace Go.Proofs.YtbjajipeiigodaaDoor
open Go Go.RowKit

theorem ofB_succ (f : Nat → Bool) (i : Nat) : ofB f (i + 1) = ofB f i + if f i = true then 2 ^ i else 0 := rfl
set_option maxRecDepth 100000 in
set_option maxHeartbeats 4000000 in
theorem ract43_any (who p c m : Nat) (dir : Bool) (u : Int) (w : World) (hw : who < 8) (hp : p < 64) (hc : c ≤ 3) (hm : m < 4096) :
    Calls Tryd.prog 50 #[.agg #[.int .u8 43, .int .i64 (p : Int), .int .i64 (c : Int)], .int .i64 (who : Int), .int .i64 (m : Int), .bool dir, .int .i64 u] w fun e w' => e = .returned (.int .i64 (actN 43 who (u % 4096).toNat p c m dir : Nat)) ∧ Below w.heap.size w w' := by
  obtain ⟨f, hf⟩ : ∃ f, actB 43 who (u % 4096).toNat p c m dir = f := ⟨_, rfl⟩
  have HV := Lib.hid (show actN 43 who (u % 4096).toNat p c m dir = ofB f 12 by rw [actN, hf])
  have HFD := Lib.hid hf
  clear hf
  obtain ⟨R, hR⟩ : ∃ R, actN 43 who (u % 4096).toNat p c m dir = R := ⟨_, rfl⟩
  rw [hR] at HV ⊢
  clear hR
  go_enter Tryd.func50, Tryd.ntmps50
  go_wp2
  go_loopg [11, 12] 12 (fun g s11 s12 wr => ∃ (i y : Nat), s12 = .int .i64 i ∧ s11 = .int .i64 (y : Int) ∧ i ≤ 12 ∧ g = 12 - i ∧ y = ofB f i ∧ Below (w.heap.size + 1) (w.alloc (.cells #[.int .u8 43, .int .i64 (p : Int), .int .i64 (c : Int)] 76)) wr)
  case atStart => exact ⟨0, 0, rfl, rfl, Nat.zero_le _, rfl, rfl, Below.refl _ _⟩
  case round =>
    obtain ⟨i, y, rfl, rfl, hi, rfl, hy, hb⟩ := hrel
    have HY := Lib.hid hy
    have hylt : y < 4096 := by
      rw [hy]
      have h1 := ofB_lt f i
      have h2 : (2 : Nat) ^ i ≤ 2 ^ 12 := Nat.pow_le_pow_right (by decide) hi
      omega
    have c0 : wr.cell? ⟨w.heap.size, 0, none⟩ = some (.int .u8 43) := (hb.cell (by simp)).trans (by simp)
    have c1 : wr.cell? ⟨w.heap.size, 1, none⟩ = some (.int .i64 (p : Int)) := (hb.cell (by simp)).trans (by simp)
    have c2 : wr.cell? ⟨w.heap.size, 2, none⟩ = some (.int .i64 (c : Int)) := (hb.cell (by simp)).trans (by simp)
    have HB := Lib.hid hb
    have hz : w.heap.size < wr.heap.size := by have := hb.size; simp at this; omega
    clear hy hb
    by_cases hlt : i < 12
    · have hlt' : (i : Int) < 12 := by omega
      have HM := Lib.hid (fun w => rbit_any m i w (by omega) (by omega))
      have HH := Lib.hid (fun w => rhas_any who i u w hw hlt)
      have HI := Lib.hid (fun w => rin_any 43 p c m i dir w hp hc hm)
      have HS := Lib.hid (show ofB f (i + 1) = y + if f i = true then 2 ^ i else 0 by rw [ofB_succ, ← HY.out])
      have HFI := Lib.hid (show f i = actB 43 who (u % 4096).toNat p c m dir i by rw [HFD.out])
      unfold actB at HFI
      have HPW := Lib.hid (fun w => pow_any (i : Int) w (by omega) (by omega))
      have hq := Nat.two_pow_pos i
      have hq2 : (2 : Nat) ^ i ≤ 2048 := Nat.le_trans (Nat.pow_le_pow_right (by decide) (show i ≤ 11 by omega)) (by decide)
      rw [show (2 : Int) ^ ((i : Int)).toNat = ((2 ^ i : Nat) : Int) by simp] at HPW
      generalize (2 : Nat) ^ i = q at HPW HS hq hq2
      generalize m.testBit i = is at HM HFI
      generalize hasB who (u % 4096).toNat i = mine at HH HFI
      generalize inB p c m dir i = inn at HI HFI
      generalize f i = F at HS HFI
      cases is with
      | true =>
        cases mine with
        | true =>
          cases inn with
          | true =>
            have HT := Lib.hid (show F = true by rw [HFI.out]; simp)
            rw [HT.out] at HS
            clear HFI HT
            go_wp2_with fail
            refine (HM.out _).mono ?_
            rintro e w2 ⟨rfl, rfl⟩
            go_wp2_with fail
            refine (HH.out _).mono ?_
            rintro e w2 ⟨rfl, rfl⟩
            go_wp2_with fail
            refine (HI.out _).mono ?_
            rintro e w3 ⟨rfl, hb3⟩
            have d0 := (hb3.cell (World.block_lt_of_cell? _ _ c0)).trans c0
            have HB3 := Lib.hid (HB.out.trans (hb3.mono (show w.heap.size + 1 ≤ wr.heap.size by omega)))
            clear hb3
            go_wp2_with fail
            refine (HPW.out _).mono ?_
            rintro e w2 ⟨rfl, rfl⟩
            go_wp2
            go_roundg (12 - (i + 1))
            case measure => omega
            case rel => exact ⟨i + 1, y + q, by go_num, by go_num, by omega, rfl, by rw [HS.out]; simp, by first | exact HB3.out | (have h := HB3.out; simpa using h)⟩
          | false =>
            have HT := Lib.hid (show F = true by rw [HFI.out]; simp)
            rw [HT.out] at HS
            clear HFI HT
            go_wp2_with fail
            refine (HM.out _).mono ?_
            rintro e w2 ⟨rfl, rfl⟩
            go_wp2_with fail
            refine (HH.out _).mono ?_
            rintro e w2 ⟨rfl, rfl⟩
            go_wp2_with fail
            refine (HI.out _).mono ?_
            rintro e w3 ⟨rfl, hb3⟩
            have d0 := (hb3.cell (World.block_lt_of_cell? _ _ c0)).trans c0
            have HB3 := Lib.hid (HB.out.trans (hb3.mono (show w.heap.size + 1 ≤ wr.heap.size by omega)))
            clear hb3
            go_wp2_with fail
            refine (HPW.out _).mono ?_
            rintro e w2 ⟨rfl, rfl⟩
            go_wp2
            go_roundg (12 - (i + 1))
            case measure => omega
            case rel => exact ⟨i + 1, y + q, by go_num, by go_num, by omega, rfl, by rw [HS.out]; simp, by first | exact HB3.out | (have h := HB3.out; simpa using h)⟩
        | false =>
          have HT := Lib.hid (show F = true by rw [HFI.out]; simp)
          rw [HT.out] at HS
          clear HFI HT
          go_wp2_with fail
          refine (HM.out _).mono ?_
          rintro e w2 ⟨rfl, rfl⟩
          go_wp2_with fail
          refine (HH.out _).mono ?_
          rintro e w2 ⟨rfl, rfl⟩
          go_wp2_with fail
          refine (HPW.out _).mono ?_
          rintro e w2 ⟨rfl, rfl⟩
          go_wp2
          go_roundg (12 - (i + 1))
          case measure => omega
          case rel => exact ⟨i + 1, y + q, by go_num, by go_num, by omega, rfl, by rw [HS.out]; simp, by first | exact HB.out | (have h := HB.out; simpa using h)⟩
      | false =>
        cases mine with
        | true =>
          cases inn with
          | true =>
            have HT := Lib.hid (show F = true by rw [HFI.out]; simp)
            rw [HT.out] at HS
            clear HFI HT
            go_wp2_with fail
            refine (HM.out _).mono ?_
            rintro e w2 ⟨rfl, rfl⟩
            go_wp2_with fail
            refine (HH.out _).mono ?_
            rintro e w2 ⟨rfl, rfl⟩
            go_wp2_with fail
            refine (HI.out _).mono ?_
            rintro e w3 ⟨rfl, hb3⟩
            have d0 := (hb3.cell (World.block_lt_of_cell? _ _ c0)).trans c0
            have HB3 := Lib.hid (HB.out.trans (hb3.mono (show w.heap.size + 1 ≤ wr.heap.size by omega)))
            clear hb3
            go_wp2_with fail
            refine (HPW.out _).mono ?_
            rintro e w2 ⟨rfl, rfl⟩
            go_wp2
            go_roundg (12 - (i + 1))
            case measure => omega
            case rel => exact ⟨i + 1, y + q, by go_num, by go_num, by omega, rfl, by rw [HS.out]; simp, by first | exact HB3.out | (have h := HB3.out; simpa using h)⟩
          | false =>
            have HT := Lib.hid (show F = false by rw [HFI.out]; simp)
            rw [HT.out] at HS
            clear HFI HT
            go_wp2_with fail
            refine (HM.out _).mono ?_
            rintro e w2 ⟨rfl, rfl⟩
            go_wp2_with fail
            refine (HH.out _).mono ?_
            rintro e w2 ⟨rfl, rfl⟩
            go_wp2_with fail
            refine (HI.out _).mono ?_
            rintro e w3 ⟨rfl, hb3⟩
            have d0 := (hb3.cell (World.block_lt_of_cell? _ _ c0)).trans c0
            have HB3 := Lib.hid (HB.out.trans (hb3.mono (show w.heap.size + 1 ≤ wr.heap.size by omega)))
            clear hb3
            go_wp2
            go_roundg (12 - (i + 1))
            case measure => omega
            case rel => exact ⟨i + 1, y, by go_num, rfl, by omega, rfl, by rw [HS.out]; simp, by first | exact HB3.out | (have h := HB3.out; simpa using h)⟩
        | false =>
          have HT := Lib.hid (show F = false by rw [HFI.out]; simp)
          rw [HT.out] at HS
          clear HFI HT
          go_wp2_with fail
          refine (HM.out _).mono ?_
          rintro e w2 ⟨rfl, rfl⟩
          go_wp2_with fail
          refine (HH.out _).mono ?_
          rintro e w2 ⟨rfl, rfl⟩
          go_wp2
          go_roundg (12 - (i + 1))
          case measure => omega
          case rel => exact ⟨i + 1, y, by go_num, rfl, by omega, rfl, by rw [HS.out]; simp, by first | exact HB.out | (have h := HB.out; simpa using h)⟩
    · have HF := Lib.hid (show (y : Int) = (R : Nat) by rw [HV.out, HY.out, show i = 12 by omega])
      have hlt' : ¬ (i : Int) < 12 := by omega
      go_wp2
      go_ret
      exact ⟨ret_int HF.out, ((Below.refl _ _).alloc (Nat.le_refl _) _).trans (HB.out.mono (Nat.le_succ _))⟩
set_option maxRecDepth 100000 in
set_option maxHeartbeats 4000000 in
theorem ract45_any (who p c m : Nat) (dir : Bool) (u : Int) (w : World) (hw : who < 8) (hp : p < 64) (hc : c ≤ 3) (hm : m < 4096) :
    Calls Tryd.prog 50 #[.agg #[.int .u8 45, .int .i64 (p : Int), .int .i64 (c : Int)], .int .i64 (who : Int), .int .i64 (m : Int), .bool dir, .int .i64 u] w fun e w' => e = .returned (.int .i64 (actN 45 who (u % 4096).toNat p c m dir : Nat)) ∧ Below w.heap.size w w' := by
  obtain ⟨f, hf⟩ : ∃ f, actB 45 who (u % 4096).toNat p c m dir = f := ⟨_, rfl⟩
  have HV := Lib.hid (show actN 45 who (u % 4096).toNat p c m dir = ofB f 12 by rw [actN, hf])
  have HFD := Lib.hid hf
  clear hf
  obtain ⟨R, hR⟩ : ∃ R, actN 45 who (u % 4096).toNat p c m dir = R := ⟨_, rfl⟩
  rw [hR] at HV ⊢
  clear hR
  go_enter Tryd.func50, Tryd.ntmps50
  go_wp2
  go_loopg [11, 12] 12 (fun g s11 s12 wr => ∃ (i y : Nat), s12 = .int .i64 i ∧ s11 = .int .i64 (y : Int) ∧ i ≤ 12 ∧ g = 12 - i ∧ y = ofB f i ∧ Below (w.heap.size + 1) (w.alloc (.cells #[.int .u8 45, .int .i64 (p : Int), .int .i64 (c : Int)] 76)) wr)
  case atStart => exact ⟨0, 0, rfl, rfl, Nat.zero_le _, rfl, rfl, Below.refl _ _⟩
  case round =>
    obtain ⟨i, y, rfl, rfl, hi, rfl, hy, hb⟩ := hrel
    have HY := Lib.hid hy
    have hylt : y < 4096 := by
      rw [hy]
      have h1 := ofB_lt f i
      have h2 : (2 : Nat) ^ i ≤ 2 ^ 12 := Nat.pow_le_pow_right (by decide) hi
      omega
    have c0 : wr.cell? ⟨w.heap.size, 0, none⟩ = some (.int .u8 45) := (hb.cell (by simp)).trans (by simp)
    have c1 : wr.cell? ⟨w.heap.size, 1, none⟩ = some (.int .i64 (p : Int)) := (hb.cell (by simp)).trans (by simp)
    have c2 : wr.cell? ⟨w.heap.size, 2, none⟩ = some (.int .i64 (c : Int)) := (hb.cell (by simp)).trans (by simp)
    have HB := Lib.hid hb
    have hz : w.heap.size < wr.heap.size := by have := hb.size; simp at this; omega
    clear hy hb
    by_cases hlt : i < 12
    · have hlt' : (i : Int) < 12 := by omega
      have HM := Lib.hid (fun w => rbit_any m i w (by omega) (by omega))
      have HH := Lib.hid (fun w => rhas_any who i u w hw hlt)
      have HI := Lib.hid (fun w => rin_any 45 p c m i dir w hp hc hm)
      have HS := Lib.hid (show ofB f (i + 1) = y + if f i = true then 2 ^ i else 0 by rw [ofB_succ, ← HY.out])
      have HFI := Lib.hid (show f i = actB 45 who (u % 4096).toNat p c m dir i by rw [HFD.out])
      unfold actB at HFI
      have HPW := Lib.hid (fun w => pow_any (i : Int) w (by omega) (by omega))
      have hq := Nat.two_pow_pos i
      have hq2 : (2 : Nat) ^ i ≤ 2048 := Nat.le_trans (Nat.pow_le_pow_right (by decide) (show i ≤ 11 by omega)) (by decide)
      rw [show (2 : Int) ^ ((i : Int)).toNat = ((2 ^ i : Nat) : Int) by simp] at HPW
      generalize (2 : Nat) ^ i = q at HPW HS hq hq2
      generalize m.testBit i = is at HM HFI
      generalize hasB who (u % 4096).toNat i = mine at HH HFI
      generalize inB p c m dir i = inn at HI HFI
      generalize f i = F at HS HFI
      cases is with
      | true =>
        cases mine with
        | true =>
          cases inn with
          | true =>
            have HT := Lib.hid (show F = false by rw [HFI.out]; simp)
            rw [HT.out] at HS
            clear HFI HT
            go_wp2_with fail
            refine (HM.out _).mono ?_
            rintro e w2 ⟨rfl, rfl⟩
            go_wp2_with fail
            refine (HH.out _).mono ?_
            rintro e w2 ⟨rfl, rfl⟩
            go_wp2_with fail
            refine (HI.out _).mono ?_
            rintro e w3 ⟨rfl, hb3⟩
            have d0 := (hb3.cell (World.block_lt_of_cell? _ _ c0)).trans c0
            have HB3 := Lib.hid (HB.out.trans (hb3.mono (show w.heap.size + 1 ≤ wr.heap.size by omega)))
            clear hb3
            go_wp2
            go_roundg (12 - (i + 1))
            case measure => omega
            case rel => exact ⟨i + 1, y, by go_num, rfl, by omega, rfl, by rw [HS.out]; simp, by first | exact HB3.out | (have h := HB3.out; simpa using h)⟩
          | false =>
            have HT := Lib.hid (show F = true by rw [HFI.out]; simp)
            rw [HT.out] at HS
            clear HFI HT
            go_wp2_with fail
            refine (HM.out _).mono ?_
            rintro e w2 ⟨rfl, rfl⟩
            go_wp2_with fail
            refine (HH.out _).mono ?_
            rintro e w2 ⟨rfl, rfl⟩
            go_wp2_with fail
            refine (HI.out _).mono ?_
            rintro e w3 ⟨rfl, hb3⟩
            have d0 := (hb3.cell (World.block_lt_of_cell? _ _ c0)).trans c0
            have HB3 := Lib.hid (HB.out.trans (hb3.mono (show w.heap.size + 1 ≤ wr.heap.size by omega)))
            clear hb3
            go_wp2_with fail
            refine (HPW.out _).mono ?_
            rintro e w2 ⟨rfl, rfl⟩
            go_wp2
            go_roundg (12 - (i + 1))
            case measure => omega
            case rel => exact ⟨i + 1, y + q, by go_num, by go_num, by omega, rfl, by rw [HS.out]; simp, by first | exact HB3.out | (have h := HB3.out; simpa using h)⟩
        | false =>
          have HT := Lib.hid (show F = true by rw [HFI.out]; simp)
          rw [HT.out] at HS
          clear HFI HT
          go_wp2_with fail
          refine (HM.out _).mono ?_
          rintro e w2 ⟨rfl, rfl⟩
          go_wp2_with fail
          refine (HH.out _).mono ?_
          rintro e w2 ⟨rfl, rfl⟩
          go_wp2_with fail
          refine (HPW.out _).mono ?_
          rintro e w2 ⟨rfl, rfl⟩
          go_wp2
          go_roundg (12 - (i + 1))
          case measure => omega
          case rel => exact ⟨i + 1, y + q, by go_num, by go_num, by omega, rfl, by rw [HS.out]; simp, by first | exact HB.out | (have h := HB.out; simpa using h)⟩
      | false =>
        cases mine with
        | true =>
          cases inn with
          | true =>
            have HT := Lib.hid (show F = false by rw [HFI.out]; simp)
            rw [HT.out] at HS
            clear HFI HT
            go_wp2_with fail
            refine (HM.out _).mono ?_
            rintro e w2 ⟨rfl, rfl⟩
            go_wp2_with fail
            refine (HH.out _).mono ?_
            rintro e w2 ⟨rfl, rfl⟩
            go_wp2_with fail
            refine (HI.out _).mono ?_
            rintro e w3 ⟨rfl, hb3⟩
            have d0 := (hb3.cell (World.block_lt_of_cell? _ _ c0)).trans c0
            have HB3 := Lib.hid (HB.out.trans (hb3.mono (show w.heap.size + 1 ≤ wr.heap.size by omega)))
            clear hb3
            go_wp2
            go_roundg (12 - (i + 1))
            case measure => omega
            case rel => exact ⟨i + 1, y, by go_num, rfl, by omega, rfl, by rw [HS.out]; simp, by first | exact HB3.out | (have h := HB3.out; simpa using h)⟩
          | false =>
            have HT := Lib.hid (show F = false by rw [HFI.out]; simp)
            rw [HT.out] at HS
            clear HFI HT
            go_wp2_with fail
            refine (HM.out _).mono ?_
            rintro e w2 ⟨rfl, rfl⟩
            go_wp2_with fail
            refine (HH.out _).mono ?_
            rintro e w2 ⟨rfl, rfl⟩
            go_wp2_with fail
            refine (HI.out _).mono ?_
            rintro e w3 ⟨rfl, hb3⟩
            have d0 := (hb3.cell (World.block_lt_of_cell? _ _ c0)).trans c0
            have HB3 := Lib.hid (HB.out.trans (hb3.mono (show w.heap.size + 1 ≤ wr.heap.size by omega)))
            clear hb3
            go_wp2
            go_roundg (12 - (i + 1))
            case measure => omega
            case rel => exact ⟨i + 1, y, by go_num, rfl, by omega, rfl, by rw [HS.out]; simp, by first | exact HB3.out | (have h := HB3.out; simpa using h)⟩
        | false =>
          have HT := Lib.hid (show F = false by rw [HFI.out]; simp)
          rw [HT.out] at HS
          clear HFI HT
          go_wp2_with fail
          refine (HM.out _).mono ?_
          rintro e w2 ⟨rfl, rfl⟩
          go_wp2_with fail
          refine (HH.out _).mono ?_
          rintro e w2 ⟨rfl, rfl⟩
          go_wp2
          go_roundg (12 - (i + 1))
          case measure => omega
          case rel => exact ⟨i + 1, y, by go_num, rfl, by omega, rfl, by rw [HS.out]; simp, by first | exact HB.out | (have h := HB.out; simpa using h)⟩
    · have HF := Lib.hid (show (y : Int) = (R : Nat) by rw [HV.out, HY.out, show i = 12 by omega])
      have hlt' : ¬ (i : Int) < 12 := by omega
      go_wp2
      go_ret
      exact ⟨ret_int HF.out, ((Below.refl _ _).alloc (Nat.le_refl _) _).trans (HB.out.mono (Nat.le_succ _))⟩
set_option maxRecDepth 100000 in
set_option maxHeartbeats 4000000 in
theorem ract61_any (who p c m : Nat) (dir : Bool) (u : Int) (w : World) (hw : who < 8) (hp : p < 64) (hc : c ≤ 3) (hm : m < 4096) :
    Calls Tryd.prog 50 #[.agg #[.int .u8 61, .int .i64 (p : Int), .int .i64 (c : Int)], .int .i64 (who : Int), .int .i64 (m : Int), .bool dir, .int .i64 u] w fun e w' => e = .returned (.int .i64 (actN 61 who (u % 4096).toNat p c m dir : Nat)) ∧ Below w.heap.size w w' := by
  obtain ⟨f, hf⟩ : ∃ f, actB 61 who (u % 4096).toNat p c m dir = f := ⟨_, rfl⟩
  have HV := Lib.hid (show actN 61 who (u % 4096).toNat p c m dir = ofB f 12 by rw [actN, hf])
  have HFD := Lib.hid hf
  clear hf
  obtain ⟨R, hR⟩ : ∃ R, actN 61 who (u % 4096).toNat p c m dir = R := ⟨_, rfl⟩
  rw [hR] at HV ⊢
  clear hR
  go_enter Tryd.func50, Tryd.ntmps50
  go_wp2
  go_loopg [11, 12] 12 (fun g s11 s12 wr => ∃ (i y : Nat), s12 = .int .i64 i ∧ s11 = .int .i64 (y : Int) ∧ i ≤ 12 ∧ g = 12 - i ∧ y = ofB f i ∧ Below (w.heap.size + 1) (w.alloc (.cells #[.int .u8 61, .int .i64 (p : Int), .int .i64 (c : Int)] 76)) wr)
  case atStart => exact ⟨0, 0, rfl, rfl, Nat.zero_le _, rfl, rfl, Below.refl _ _⟩
  case round =>
    obtain ⟨i, y, rfl, rfl, hi, rfl, hy, hb⟩ := hrel
    have HY := Lib.hid hy
    have hylt : y < 4096 := by
      rw [hy]
      have h1 := ofB_lt f i
      have h2 : (2 : Nat) ^ i ≤ 2 ^ 12 := Nat.pow_le_pow_right (by decide) hi
      omega
    have c0 : wr.cell? ⟨w.heap.size, 0, none⟩ = some (.int .u8 61) := (hb.cell (by simp)).trans (by simp)
    have c1 : wr.cell? ⟨w.heap.size, 1, none⟩ = some (.int .i64 (p : Int)) := (hb.cell (by simp)).trans (by simp)
    have c2 : wr.cell? ⟨w.heap.size, 2, none⟩ = some (.int .i64 (c : Int)) := (hb.cell (by simp)).trans (by simp)
    have HB := Lib.hid hb
    have hz : w.heap.size < wr.heap.size := by have := hb.size; simp at this; omega
    clear hy hb
    by_cases hlt : i < 12
    · have hlt' : (i : Int) < 12 := by omega
      have HM := Lib.hid (fun w => rbit_any m i w (by omega) (by omega))
      have HH := Lib.hid (fun w => rhas_any who i u w hw hlt)
      have HI := Lib.hid (fun w => rin_any 61 p c m i dir w hp hc hm)
      have HS := Lib.hid (show ofB f (i + 1) = y + if f i = true then 2 ^ i else 0 by rw [ofB_succ, ← HY.out])
      have HFI := Lib.hid (show f i = actB 61 who (u % 4096).toNat p c m dir i by rw [HFD.out])
      unfold actB at HFI
      have HPW := Lib.hid (fun w => pow_any (i : Int) w (by omega) (by omega))
      have hq := Nat.two_pow_pos i
      have hq2 : (2 : Nat) ^ i ≤ 2048 := Nat.le_trans (Nat.pow_le_pow_right (by decide) (show i ≤ 11 by omega)) (by decide)
      rw [show (2 : Int) ^ ((i : Int)).toNat = ((2 ^ i : Nat) : Int) by simp] at HPW
      generalize (2 : Nat) ^ i = q at HPW HS hq hq2
      generalize m.testBit i = is at HM HFI
      generalize hasB who (u % 4096).toNat i = mine at HH HFI
      generalize inB p c m dir i = inn at HI HFI
      generalize f i = F at HS HFI
      by_cases hz0 : (0 : Int) < who
      · cases is with
        | true =>
          cases mine with
          | true =>
            cases inn with
            | true =>
              have HT := Lib.hid (show F = true by rw [HFI.out]; simp)
              rw [HT.out] at HS
              clear HFI HT
              go_wp2_with fail
              refine (HM.out _).mono ?_
              rintro e w2 ⟨rfl, rfl⟩
              go_wp2_with fail
              refine (HH.out _).mono ?_
              rintro e w2 ⟨rfl, rfl⟩
              go_wp2_with fail
              refine (HI.out _).mono ?_
              rintro e w3 ⟨rfl, hb3⟩
              have d0 := (hb3.cell (World.block_lt_of_cell? _ _ c0)).trans c0
              have HB3 := Lib.hid (HB.out.trans (hb3.mono (show w.heap.size + 1 ≤ wr.heap.size by omega)))
              clear hb3
              go_wp2_with fail
              refine (HPW.out _).mono ?_
              rintro e w2 ⟨rfl, rfl⟩
              go_wp2
              go_roundg (12 - (i + 1))
              case measure => omega
              case rel => exact ⟨i + 1, y + q, by go_num, by go_num, by omega, rfl, by rw [HS.out]; simp, by first | exact HB3.out | (have h := HB3.out; simpa using h)⟩
            | false =>
              have HT := Lib.hid (show F = false by rw [HFI.out]; simp)
              rw [HT.out] at HS
              clear HFI HT
              go_wp2_with fail
              refine (HM.out _).mono ?_
              rintro e w2 ⟨rfl, rfl⟩
              go_wp2_with fail
              refine (HH.out _).mono ?_
              rintro e w2 ⟨rfl, rfl⟩
              go_wp2_with fail
              refine (HI.out _).mono ?_
              rintro e w3 ⟨rfl, hb3⟩
              have d0 := (hb3.cell (World.block_lt_of_cell? _ _ c0)).trans c0
              have HB3 := Lib.hid (HB.out.trans (hb3.mono (show w.heap.size + 1 ≤ wr.heap.size by omega)))
              clear hb3
              go_wp2
              go_roundg (12 - (i + 1))
              case measure => omega
              case rel => exact ⟨i + 1, y, by go_num, rfl, by omega, rfl, by rw [HS.out]; simp, by first | exact HB3.out | (have h := HB3.out; simpa using h)⟩
          | false =>
            have HT := Lib.hid (show F = true by rw [HFI.out]; simp [show 0 < who by omega])
            rw [HT.out] at HS
            clear HFI HT
            go_wp2_with fail
            refine (HM.out _).mono ?_
            rintro e w2 ⟨rfl, rfl⟩
            go_wp2_with fail
            refine (HH.out _).mono ?_
            rintro e w2 ⟨rfl, rfl⟩
            go_wp2_with fail
            refine (HPW.out _).mono ?_
            rintro e w2 ⟨rfl, rfl⟩
            go_wp2
            go_roundg (12 - (i + 1))
            case measure => omega
            case rel => exact ⟨i + 1, y + q, by go_num, by go_num, by omega, rfl, by rw [HS.out]; simp, by first | exact HB.out | (have h := HB.out; simpa using h)⟩
        | false =>
          cases mine with
          | true =>
            cases inn with
            | true =>
              have HT := Lib.hid (show F = true by rw [HFI.out]; simp)
              rw [HT.out] at HS
              clear HFI HT
              go_wp2_with fail
              refine (HM.out _).mono ?_
              rintro e w2 ⟨rfl, rfl⟩
              go_wp2_with fail
              refine (HH.out _).mono ?_
              rintro e w2 ⟨rfl, rfl⟩
              go_wp2_with fail
              refine (HI.out _).mono ?_
              rintro e w3 ⟨rfl, hb3⟩
              have d0 := (hb3.cell (World.block_lt_of_cell? _ _ c0)).trans c0
              have HB3 := Lib.hid (HB.out.trans (hb3.mono (show w.heap.size + 1 ≤ wr.heap.size by omega)))
              clear hb3
              go_wp2_with fail
              refine (HPW.out _).mono ?_
              rintro e w2 ⟨rfl, rfl⟩
              go_wp2
              go_roundg (12 - (i + 1))
              case measure => omega
              case rel => exact ⟨i + 1, y + q, by go_num, by go_num, by omega, rfl, by rw [HS.out]; simp, by first | exact HB3.out | (have h := HB3.out; simpa using h)⟩
            | false =>
              have HT := Lib.hid (show F = false by rw [HFI.out]; simp)
              rw [HT.out] at HS
              clear HFI HT
              go_wp2_with fail
              refine (HM.out _).mono ?_
              rintro e w2 ⟨rfl, rfl⟩
              go_wp2_with fail
              refine (HH.out _).mono ?_
              rintro e w2 ⟨rfl, rfl⟩
              go_wp2_with fail
              refine (HI.out _).mono ?_
              rintro e w3 ⟨rfl, hb3⟩
              have d0 := (hb3.cell (World.block_lt_of_cell? _ _ c0)).trans c0
              have HB3 := Lib.hid (HB.out.trans (hb3.mono (show w.heap.size + 1 ≤ wr.heap.size by omega)))
              clear hb3
              go_wp2
              go_roundg (12 - (i + 1))
              case measure => omega
              case rel => exact ⟨i + 1, y, by go_num, rfl, by omega, rfl, by rw [HS.out]; simp, by first | exact HB3.out | (have h := HB3.out; simpa using h)⟩
          | false =>
            have HT := Lib.hid (show F = false by rw [HFI.out]; simp)
            rw [HT.out] at HS
            clear HFI HT
            go_wp2_with fail
            refine (HM.out _).mono ?_
            rintro e w2 ⟨rfl, rfl⟩
            go_wp2_with fail
            refine (HH.out _).mono ?_
            rintro e w2 ⟨rfl, rfl⟩
            go_wp2
            go_roundg (12 - (i + 1))
            case measure => omega
            case rel => exact ⟨i + 1, y, by go_num, rfl, by omega, rfl, by rw [HS.out]; simp, by first | exact HB.out | (have h := HB.out; simpa using h)⟩
      · cases is with
        | true =>
          cases mine with
          | true =>
            cases inn with
            | true =>
              have HT := Lib.hid (show F = true by rw [HFI.out]; simp)
              rw [HT.out] at HS
              clear HFI HT
              go_wp2_with fail
              refine (HM.out _).mono ?_
              rintro e w2 ⟨rfl, rfl⟩
              go_wp2_with fail
              refine (HH.out _).mono ?_
              rintro e w2 ⟨rfl, rfl⟩
              go_wp2_with fail
              refine (HI.out _).mono ?_
              rintro e w3 ⟨rfl, hb3⟩
              have d0 := (hb3.cell (World.block_lt_of_cell? _ _ c0)).trans c0
              have HB3 := Lib.hid (HB.out.trans (hb3.mono (show w.heap.size + 1 ≤ wr.heap.size by omega)))
              clear hb3
              go_wp2_with fail
              refine (HPW.out _).mono ?_
              rintro e w2 ⟨rfl, rfl⟩
              go_wp2
              go_roundg (12 - (i + 1))
              case measure => omega
              case rel => exact ⟨i + 1, y + q, by go_num, by go_num, by omega, rfl, by rw [HS.out]; simp, by first | exact HB3.out | (have h := HB3.out; simpa using h)⟩
            | false =>
              have HT := Lib.hid (show F = false by rw [HFI.out]; simp)
              rw [HT.out] at HS
              clear HFI HT
              go_wp2_with fail
              refine (HM.out _).mono ?_
              rintro e w2 ⟨rfl, rfl⟩
              go_wp2_with fail
              refine (HH.out _).mono ?_
              rintro e w2 ⟨rfl, rfl⟩
              go_wp2_with fail
              refine (HI.out _).mono ?_
              rintro e w3 ⟨rfl, hb3⟩
              have d0 := (hb3.cell (World.block_lt_of_cell? _ _ c0)).trans c0
              have HB3 := Lib.hid (HB.out.trans (hb3.mono (show w.heap.size + 1 ≤ wr.heap.size by omega)))
              clear hb3
              go_wp2
              go_roundg (12 - (i + 1))
              case measure => omega
              case rel => exact ⟨i + 1, y, by go_num, rfl, by omega, rfl, by rw [HS.out]; simp, by first | exact HB3.out | (have h := HB3.out; simpa using h)⟩
          | false =>
            have HT := Lib.hid (show F = false by rw [HFI.out]; simp [show ¬ 0 < who by omega])
            rw [HT.out] at HS
            clear HFI HT
            go_wp2_with fail
            refine (HM.out _).mono ?_
            rintro e w2 ⟨rfl, rfl⟩
            go_wp2_with fail
            refine (HH.out _).mono ?_
            rintro e w2 ⟨rfl, rfl⟩
            go_wp2
            go_roundg (12 - (i + 1))
            case measure => omega
            case rel => exact ⟨i + 1, y, by go_num, rfl, by omega, rfl, by rw [HS.out]; simp, by first | exact HB.out | (have h := HB.out; simpa using h)⟩
        | false =>
          cases mine with
          | true =>
            cases inn with
            | true =>
              have HT := Lib.hid (show F = true by rw [HFI.out]; simp)
              rw [HT.out] at HS
              clear HFI HT
              go_wp2_with fail
              refine (HM.out _).mono ?_
              rintro e w2 ⟨rfl, rfl⟩
              go_wp2_with fail
              refine (HH.out _).mono ?_
              rintro e w2 ⟨rfl, rfl⟩
              go_wp2_with fail
              refine (HI.out _).mono ?_
              rintro e w3 ⟨rfl, hb3⟩
              have d0 := (hb3.cell (World.block_lt_of_cell? _ _ c0)).trans c0
              have HB3 := Lib.hid (HB.out.trans (hb3.mono (show w.heap.size + 1 ≤ wr.heap.size by omega)))
              clear hb3
              go_wp2_with fail
              refine (HPW.out _).mono ?_
              rintro e w2 ⟨rfl, rfl⟩
              go_wp2
              go_roundg (12 - (i + 1))
              case measure => omega
              case rel => exact ⟨i + 1, y + q, by go_num, by go_num, by omega, rfl, by rw [HS.out]; simp, by first | exact HB3.out | (have h := HB3.out; simpa using h)⟩
            | false =>
              have HT := Lib.hid (show F = false by rw [HFI.out]; simp)
              rw [HT.out] at HS
              clear HFI HT
              go_wp2_with fail
              refine (HM.out _).mono ?_
              rintro e w2 ⟨rfl, rfl⟩
              go_wp2_with fail
              refine (HH.out _).mono ?_
              rintro e w2 ⟨rfl, rfl⟩
              go_wp2_with fail
              refine (HI.out _).mono ?_
              rintro e w3 ⟨rfl, hb3⟩
              have d0 := (hb3.cell (World.block_lt_of_cell? _ _ c0)).trans c0
              have HB3 := Lib.hid (HB.out.trans (hb3.mono (show w.heap.size + 1 ≤ wr.heap.size by omega)))
              clear hb3
              go_wp2
              go_roundg (12 - (i + 1))
              case measure => omega
              case rel => exact ⟨i + 1, y, by go_num, rfl, by omega, rfl, by rw [HS.out]; simp, by first | exact HB3.out | (have h := HB3.out; simpa using h)⟩
          | false =>
            have HT := Lib.hid (show F = false by rw [HFI.out]; simp)
            rw [HT.out] at HS
            clear HFI HT
            go_wp2_with fail
            refine (HM.out _).mono ?_
            rintro e w2 ⟨rfl, rfl⟩
            go_wp2_with fail
            refine (HH.out _).mono ?_
            rintro e w2 ⟨rfl, rfl⟩
            go_wp2
            go_roundg (12 - (i + 1))
            case measure => omega
            case rel => exact ⟨i + 1, y, by go_num, rfl, by omega, rfl, by rw [HS.out]; simp, by first | exact HB.out | (have h := HB.out; simpa using h)⟩
    · have HF := Lib.hid (show (y : Int) = (R : Nat) by rw [HV.out, HY.out, show i = 12 by omega])
      have hlt' : ¬ (i : Int) < 12 := by omega
      go_wp2
      go_ret
      exact ⟨ret_int HF.out, ((Below.refl _ _).alloc (Nat.le_refl _) _).trans (HB.out.mono (Nat.le_succ _))⟩
theorem ract_any (op : UInt8) (who p c m : Nat) (dir : Bool) (u : Int) (w : World) (ho : op = 43 ∨ op = 45 ∨ op = 61) (hw : who < 8) (hp : p < 64) (hc : c ≤ 3) (hm : m < 4096) :
    Calls Tryd.prog 50 #[.agg #[.int .u8 (co op), .int .i64 (p : Int), .int .i64 (c : Int)], .int .i64 (who : Int), .int .i64 (m : Int), .bool dir, .int .i64 u] w fun e w' => e = .returned (.int .i64 (actN op who (u % 4096).toNat p c m dir : Nat)) ∧ Below w.heap.size w w' := by
  rcases ho with rfl | rfl | rfl
  · exact ract43_any who p c m dir u w hw hp hc hm
  · exact ract45_any who p c m dir u w hw hp hc hm
  · exact ract61_any who p c m dir u w hw hp hc hm
end Go.Proofs.YtbjajipeiigodaaDoor
