/-
  What the reference's Right answers of clauses, however they lie in memory: as the program's.
-/
import Derived.Test.YtbjajipeiigodaaDoorRef
namespace Go.Proofs.YtbjajipeiigodaaDoor
open Go Go.RowKit

theorem plc_sign (c : UInt8) : 0 ≤ plc [43, 45, 61] c ↔ sgR (co c) = true := by
  have h : ∀ n : Fin 256, decide (0 ≤ plc [43, 45, 61] (UInt8.ofNat n.val)) = sgR (co (UInt8.ofNat n.val)) := by decide +kernel
  have h2 := h ⟨c.toNat, c.toNat_lt⟩
  simp only [UInt8.ofNat_toNat] at h2
  rw [← h2]; simp
theorem ract_no {a : CA} (h : ract a = false) : plc [43, 45, 61] a.op < 0 ∨ (0 ≤ plc [43, 45, 61] a.op ∧ (a.perms < 0 ∨ (0 ≤ a.perms ∧ (63 < a.perms ∨ (a.perms ≤ 63 ∧ (a.copy < 0 ∨ (0 ≤ a.copy ∧ (3 < a.copy ∨ (a.copy ≤ 3 ∧ 0 < a.perms ∧ 0 < a.copy))))))))) := by
  have hs := plc_sign a.op
  by_cases h0 : 0 ≤ plc [43, 45, 61] a.op
  · right
    refine ⟨h0, ?_⟩
    have h1 := hs.1 h0
    simp only [ract, h1, Bool.true_and, Bool.and_eq_false_iff, decide_eq_false_iff_not, Bool.or_eq_false_iff, beq_eq_false_iff_ne] at h
    omega
  · left; omega
theorem ract_yes {a : CA} (h : ract a = true) : 0 ≤ plc [43, 45, 61] a.op ∧ 0 ≤ a.perms ∧ a.perms ≤ 63 ∧ 0 ≤ a.copy ∧ a.copy ≤ 3 ∧ (a.perms = 0 ∨ a.copy = 0) := by
  have hs := plc_sign a.op
  simp only [ract, Bool.and_eq_true, decide_eq_true_eq, Bool.or_eq_true, beq_iff_eq] at h
  exact ⟨hs.2 h.1.1.1.1.1, h.1.1.1.1.2, h.1.1.1.2, h.1.1.2, h.1.2, h.2⟩
set_option maxRecDepth 100000 in
set_option maxHeartbeats 4000000 in
theorem rright_any (v : Value) (cs : List CC) (w : World) (h : ClsR w v cs) (hn : cs.length ≤ 1000000) (hl : ∀ c ∈ cs, c.acts.length ≤ 1000000) : Calls Tryd.prog 20 #[v] w fun e w' => e = .returned (.bool (rightC cs)) ∧ Below w.heap.size w w' := by
  have HL := Lib.hid hl
  clear hl
  obtain ⟨A, c, rfl, hc⟩ := h
  have HC := Lib.hid hc
  clear hc
  obtain ⟨R, hR⟩ : ∃ R, rightC cs = R := ⟨_, rfl⟩
  have HR := Lib.hid hR
  rw [hR]
  clear hR
  go_enter Tryd.func20, Tryd.ntmps20
  go_wp2
  go_loopg [3] cs.length (fun g s3 wr => ∃ k : Nat, s3 = .int .i64 k ∧ k ≤ cs.length ∧ g = cs.length - k ∧ (cs.take k).all clOk = true ∧ Below w.heap.size w wr)
  case atStart => exact ⟨0, rfl, Nat.zero_le _, rfl, rfl, Below.refl _ _⟩
  case round =>
    obtain ⟨k, rfl, hk, rfl, hall, hb⟩ := hrel
    have HALL := Lib.hid hall
    have HB := Lib.hid hb
    clear hall hb
    by_cases hlt : k < cs.length
    · obtain ⟨x, hx⟩ : ∃ x, cs[k]? = some x := ⟨_, List.getElem?_eq_getElem hlt⟩
      obtain ⟨ad, va, rfl, c0, c1, hA⟩ := HC.out k x hx
      obtain ⟨who, acts⟩ := x
      simp only at c0 hA
      have d0 := (HB.out.cell (World.block_lt_of_cell? _ _ c0)).trans c0
      have d1 := (HB.out.cell (World.block_lt_of_cell? _ _ c1)).trans c1
      have HA := Lib.hid (hA.below HB.out)
      have HX := Lib.hid hx
      clear c0 c1 hx hA
      obtain ⟨A', c', rfl, hA'⟩ := HA.out
      have HA' := Lib.hid hA'
      clear hA'
      by_cases q0 : who < 0
      · have HF := Lib.hid (show R = false by rw [← HR.out]; exact right_no HX.out (by simp [clOk]; omega))
        go_wp2
        go_ret
        exact ⟨ret_bool HF.out.symm, HB.out⟩
      by_cases q1 : 7 < who
      · have HF := Lib.hid (show R = false by rw [← HR.out]; exact right_no HX.out (by simp [clOk]; omega))
        go_wp2
        go_ret
        exact ⟨ret_bool HF.out.symm, HB.out⟩
      by_cases q2 : acts.length = 0
      · have q2' : ((acts.length : Int) == 0) = true := by rw [q2]; rfl
        have HF := Lib.hid (show R = false by rw [← HR.out]; exact right_no HX.out (by rw [List.eq_nil_of_length_eq_zero q2]; simp [clOk]))
        clear q2
        go_wp2
        go_ret
        exact ⟨ret_bool HF.out.symm, HB.out⟩
      have q2' : ((acts.length : Int) == 0) = false := by rw [beq_eq_false_iff_ne]; omega
      have hal : (acts.length : Int) ≤ 1000000 := by have := HL.out _ (List.mem_of_getElem? HX.out); simp only at this; omega
      have HD0 := Lib.hid d0
      have HD1 := Lib.hid d1
      go_wp2
      go_loopg [4] acts.length (fun g s4 wq => ∃ m : Nat, s4 = .int .i64 m ∧ m ≤ acts.length ∧ g = acts.length - m ∧ (acts.take m).all ract = true ∧ Below wr.heap.size wr wq)
      case atStart => exact ⟨0, rfl, Nat.zero_le _, rfl, rfl, Below.refl _ _⟩
      case round =>
        obtain ⟨m, rfl, hm, rfl, hall, hb⟩ := hrel
        have HALL2 := Lib.hid hall
        have HB2 := Lib.hid hb
        have f1 := (hb.cell (World.block_lt_of_cell? _ _ HD1.out)).trans HD1.out
        clear hall hb d0 d1
        by_cases hlt2 : m < acts.length
        · obtain ⟨a, ha⟩ : ∃ a, acts[m]? = some a := ⟨_, List.getElem?_eq_getElem hlt2⟩
          obtain ⟨ad', rfl, e0, e1, e2⟩ := HA'.out m a ha
          have g0 := (HB2.out.cell (World.block_lt_of_cell? _ _ e0)).trans e0
          have g1 := (HB2.out.cell (World.block_lt_of_cell? _ _ e1)).trans e1
          have g2 := (HB2.out.cell (World.block_lt_of_cell? _ _ e2)).trans e2
          have HXA := Lib.hid ha
          clear e0 e1 e2 ha
          have HPL := Lib.hid (fun w => place_any ⟨#[43, 45, 61]⟩ a.op w (by decide))
          have hpe : plc (⟨#[43, 45, 61]⟩ : ByteArray).data.toList a.op = plc [43, 45, 61] a.op := rfl
          rw [hpe] at HPL
          clear hpe
          cases hra : ract a with
          | true =>
            have hy := ract_yes hra
            have HR2 := Lib.hid hra
            obtain ⟨op, perms, copy⟩ := a
            simp only at hy g0 g1 g2 HPL
            obtain ⟨y0, y1, y2, y3, y4, y5⟩ := hy
            obtain ⟨P, hP⟩ : ∃ P, plc [43, 45, 61] op = P := ⟨_, rfl⟩
            rw [hP] at y0 HPL
            clear hra hP
            have z : ¬ 0 < perms ∨ (0 < perms ∧ ¬ 0 < copy) := by omega
            clear y5
            rcases z with z | ⟨z, z'⟩
            · go_wp2_with fail
              refine (HPL.out _).mono ?_
              rintro e w3 ⟨rfl, rfl⟩
              go_wp2
              go_roundg (acts.length - (m + 1))
              case measure => omega
              case rel => exact ⟨m + 1, by go_num, by omega, rfl, by rw [take_snoc' HXA.out, List.all_append, HALL2.out]; simp [HR2.out], HB2.out.alloc HB2.out.size _⟩
            · go_wp2_with fail
              refine (HPL.out _).mono ?_
              rintro e w3 ⟨rfl, rfl⟩
              go_wp2
              go_roundg (acts.length - (m + 1))
              case measure => omega
              case rel => exact ⟨m + 1, by go_num, by omega, rfl, by rw [take_snoc' HXA.out, List.all_append, HALL2.out]; simp [HR2.out], HB2.out.alloc HB2.out.size _⟩
          | false =>
            have HF := Lib.hid (show R = false by
              rw [← HR.out]
              refine right_no HX.out ?_
              have : acts.all ract = false := by
                rw [List.all_eq_false]
                exact ⟨a, List.mem_of_getElem? HXA.out, by simp [hra]⟩
              simp [clOk, this])
            have hy := ract_no hra
            obtain ⟨op, perms, copy⟩ := a
            simp only at hy g0 g1 g2 HPL
            obtain ⟨P, hP⟩ : ∃ P, plc [43, 45, 61] op = P := ⟨_, rfl⟩
            rw [hP] at hy HPL
            clear hra hP
            have HBE := Lib.hid (HB.out.trans ((HB2.out.alloc HB2.out.size (.cells #[.int .u8 (co op), .int .i64 perms, .int .i64 copy] 76)).mono HB.out.size))
            rcases hy with y | ⟨y, y | ⟨y1, y | ⟨y2, y | ⟨y3, y | ⟨y4, y5, y6⟩⟩⟩⟩⟩
            all_goals
              go_wp2_with fail
              refine (HPL.out _).mono ?_
              rintro e w3 ⟨rfl, rfl⟩
              go_wp2
              go_ret
              exact ⟨ret_bool HF.out.symm, HBE.out⟩
        · go_wp2
          go_roundg (cs.length - (k + 1))
          case measure => omega
          case rel =>
            refine ⟨k + 1, by go_num, by omega, rfl, ?_, HB.out.trans (HB2.out.mono HB.out.size)⟩
            rw [take_snoc' HX.out, List.all_append, HALL.out]
            have h1 := HALL2.out
            rw [List.take_of_length_le (by omega)] at h1
            have h2 : acts ≠ [] := by intro e; rw [e] at q2; exact q2 rfl
            simp [clOk, h1, h2]
            omega
    · have HF := Lib.hid (show R = decide (0 < cs.length) by
        rw [← HR.out, rightC]
        have h1 := HALL.out
        rw [List.take_of_length_le (by omega)] at h1
        rw [h1]
        cases cs <;> simp)
      go_wp2
      go_ret
      exact ⟨ret_bool HF.out.symm, HB.out⟩
end Go.Proofs.YtbjajipeiigodaaDoor
