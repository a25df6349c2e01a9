/-
  What the reference's Apply makes of a mode: as the program's.
-/
import Derived.Test.YtbjajipeiigodaaDoorRAct
import Derived.Test.YtbjajipeiigodaaDoorApply
import Derived.StillTailTactics
namespace Go.Proofs.YtbjajipeiigodaaDoor
open Go Go.RowKit

theorem rapply_no (v : Value) (cs : List CC) (mode : Int) (dir : Bool) (u : Int) (w : World) (h : ClsR w v cs) (hn : cs.length ≤ 1000000) (hl : ∀ c ∈ cs, c.acts.length ≤ 1000000) (hr : rightC cs = false) :
    Calls Tryd.prog 30 #[v, .int .i64 mode, .bool dir, .int .i64 u] w fun e w' => e = .returned (.int .i64 (applyM cs mode dir u)) ∧ Below w.heap.size w w' := by
  have HR := Lib.hid (rright_any v cs w h hn hl)
  rw [hr] at HR
  have HA := Lib.hid (show mode % 4096 = applyM cs mode dir u by rw [applyM, hr, if_neg (by decide)])
  obtain ⟨R, hR⟩ : ∃ R, applyM cs mode dir u = R := ⟨_, rfl⟩
  rw [hR] at HA ⊢
  clear hr hR
  obtain ⟨A, c, rfl, -⟩ := h
  by_cases hz : (0 : Nat) < cs.length
  · go_enter Tryd.func30, Tryd.ntmps30
    go_wp2_with fail
    refine (low_any _ _).mono ?_
    rintro e w0 ⟨rfl, rfl⟩
    go_wp2_with fail
    refine HR.out.mono ?_
    rintro e w1 ⟨rfl, hb1⟩
    have HB1 := Lib.hid hb1
    clear hb1
    go_wp2
    refine wp_loop_rounds 1 ?_
    rw [rounds_succ]
    go_wp2
    go_ret
    exact ⟨ret_int HA.out, HB1.out⟩
  · go_enter Tryd.func30, Tryd.ntmps30
    go_wp2_with fail
    refine (low_any _ _).mono ?_
    rintro e w0 ⟨rfl, rfl⟩
    go_wp2_with fail
    refine HR.out.mono ?_
    rintro e w1 ⟨rfl, hb1⟩
    have HB1 := Lib.hid hb1
    clear hb1
    go_wp2
    refine wp_loop_rounds 1 ?_
    rw [rounds_succ]
    go_wp2
    go_ret
    exact ⟨ret_int HA.out, HB1.out⟩

set_option maxRecDepth 100000 in
set_option maxHeartbeats 4000000 in
theorem rapply_yes (v : Value) (cs : List CC) (mode : Int) (dir : Bool) (u : Int) (w : World) (h : ClsR w v cs) (hn : cs.length ≤ 1000000) (hl : ∀ c ∈ cs, c.acts.length ≤ 1000000) (hr : rightC cs = true) :
    Calls Tryd.prog 30 #[v, .int .i64 mode, .bool dir, .int .i64 u] w fun e w' => e = .returned (.int .i64 (applyM cs mode dir u)) ∧ Below w.heap.size w w' := by
  have HR := Lib.hid (rright_any v cs w h hn hl)
  rw [hr] at HR
  have HL := Lib.hid hl
  have HRC := Lib.hid hr
  have HV := Lib.hid (show applyM cs mode dir u = (foldM (u % 4096).toNat dir cs (mode % 4096).toNat : Nat) by rw [applyM, if_pos hr])
  have hm0 : (mode % 4096).toNat < 4096 := by omega
  have HLO := Lib.hid (fun w => low_any mode w)
  rw [show mode % 4096 = ((mode % 4096).toNat : Int) by omega] at HLO
  obtain ⟨um, hum⟩ : ∃ um, (u % 4096).toNat = um := ⟨_, rfl⟩
  obtain ⟨m0, hm0'⟩ : ∃ m0, (mode % 4096).toNat = m0 := ⟨_, rfl⟩
  have HU := Lib.hid hum
  rw [hum, hm0'] at HV
  rw [hm0'] at HLO hm0
  clear hl hr hum hm0'
  obtain ⟨A, c, rfl, hc⟩ := h
  have HC := Lib.hid hc
  clear hc
  obtain ⟨R, hR⟩ : ∃ R, applyM cs mode dir u = R := ⟨_, rfl⟩
  rw [hR] at HV ⊢
  clear hR
  go_enter Tryd.func30, Tryd.ntmps30
  go_wp2_with fail
  refine (HLO.out _).mono ?_
  rintro e w0 ⟨rfl, rfl⟩
  go_wp2_with fail
  refine HR.out.mono ?_
  rintro e w1 ⟨rfl, hb1⟩
  have HB1 := Lib.hid hb1
  clear hb1
  go_wp2
  go_loopg [9, 11] cs.length (fun g s9 s11 wr => ∃ (k m : Nat), s11 = .int .i64 k ∧ s9 = .int .i64 (m : Int) ∧ k ≤ cs.length ∧ g = cs.length - k ∧ m = foldM um dir (cs.take k) m0 ∧ Below w.heap.size w wr)
  case atStart => exact ⟨0, m0, rfl, rfl, Nat.zero_le _, rfl, rfl, HB1.out⟩
  case round =>
    obtain ⟨k, m, rfl, rfl, hk, rfl, hm, hb⟩ := hrel
    have hmlt : m < 4096 := by rw [hm]; exact foldM_lt _ _ _ _ hm0
    have HMK := Lib.hid hm
    have HB := Lib.hid hb
    clear hm hb
    by_cases hlt : k < cs.length
    · obtain ⟨x, hx⟩ : ∃ x, cs[k]? = some x := ⟨_, List.getElem?_eq_getElem hlt⟩
      obtain ⟨ad, va, rfl, c0, c1, hA⟩ := HC.out k x hx
      obtain ⟨hw0, hw7, hra⟩ := right_cl HRC.out hx
      obtain ⟨who, acts⟩ := x
      simp only at c0 hA hw0 hw7 hra
      obtain ⟨who, rfl⟩ := Int.eq_ofNat_of_zero_le hw0
      have hw8 : who < 8 := by omega
      have D0 := Lib.hid ((HB.out.cell (World.block_lt_of_cell? _ _ c0)).trans c0)
      have D1 := Lib.hid ((HB.out.cell (World.block_lt_of_cell? _ _ c1)).trans c1)
      have HA := Lib.hid (hA.below HB.out)
      have HX := Lib.hid hx
      have HRA := Lib.hid hra
      clear c0 c1 hx hA hra hw0 hw7
      obtain ⟨A', c', rfl, hA'⟩ := HA.out
      have HA' := Lib.hid hA'
      clear hA'
      have hal : (acts.length : Int) ≤ 1000000 := by have := HL.out _ (List.mem_of_getElem? HX.out); simp only at this; omega
      go_wp2
      go_loopg [9, 12] acts.length (fun g s9 s12 wq => ∃ (j y : Nat), s12 = .int .i64 j ∧ s9 = .int .i64 (y : Int) ∧ j ≤ acts.length ∧ g = acts.length - j ∧ y = (acts.take j).foldl (aStep who um dir) m ∧ Below wr.heap.size wr wq)
      case atStart => exact ⟨0, m, rfl, rfl, Nat.zero_le _, rfl, rfl, Below.refl _ _⟩
      case round =>
        obtain ⟨j, y, rfl, rfl, hj, rfl, hy, hb⟩ := hrel
        have hylt : y < 4096 := by rw [hy]; exact acts_lt _ _ _ _ _ hmlt
        have HY := Lib.hid hy
        have HB2 := Lib.hid hb
        have d0 := (hb.cell (World.block_lt_of_cell? _ _ D0.out)).trans D0.out
        have d1 := (hb.cell (World.block_lt_of_cell? _ _ D1.out)).trans D1.out
        clear hy hb
        by_cases hlt2 : j < acts.length
        · obtain ⟨a, ha⟩ : ∃ a, acts[j]? = some a := ⟨_, List.getElem?_eq_getElem hlt2⟩
          obtain ⟨ad', rfl, e0, e1, e2⟩ := HA'.out j a ha
          have g0 := (HB2.out.cell (World.block_lt_of_cell? _ _ e0)).trans e0
          have g1 := (HB2.out.cell (World.block_lt_of_cell? _ _ e1)).trans e1
          have g2 := (HB2.out.cell (World.block_lt_of_cell? _ _ e2)).trans e2
          have HXA := Lib.hid ha
          have hr := ract_of (List.all_eq_true.1 HRA.out a (List.mem_of_getElem? ha))
          clear e0 e1 e2 ha
          obtain ⟨op, perms, copy⟩ := a
          simp only at hr g0 g1 g2
          obtain ⟨ho, hp0, hp1, hq0, hq1⟩ := hr
          obtain ⟨p, rfl⟩ := Int.eq_ofNat_of_zero_le hp0
          obtain ⟨q, rfl⟩ := Int.eq_ofNat_of_zero_le hq0
          have HAP := Lib.hid (fun w => ract_any op who p q y dir u w ho hw8 (by omega) (by omega) hylt)
          rw [HU.out] at HAP
          have HN := Lib.hid (show (acts.take (j + 1)).foldl (aStep who um dir) m = actN op who um p q y dir by rw [acts_snoc HXA.out, ← HY.out]; rfl)
          clear ho hp0 hp1 hq0 hq1
          go_wp2_with fail
          go_still_tail 16, (by kernel_rfl)

          change wpList _ _ _ _ _ (World.drew _)
          go_wp2_with fail
          refine (HAP.out _).mono ?_
          rintro e w3 ⟨rfl, hb3⟩
          have HB3 := Lib.hid hb3
          clear hb3
          go_wp2
          go_roundg (acts.length - (j + 1))
          case measure => omega
          case rel => exact ⟨j + 1, _, by go_num, rfl, by omega, rfl, HN.out.symm, HB2.out.drew.trans (HB3.out.mono HB2.out.size)⟩
        · have HYE := Lib.hid (show y = foldM um dir (cs.take (k + 1)) m0 by
            rw [foldM_snoc HX.out, ← HMK.out, HY.out, List.take_of_length_le (by omega)]
            rfl)
          go_wp2
          go_roundg (cs.length - (k + 1))
          case measure => omega
          case rel => exact ⟨k + 1, y, by go_num, rfl, by omega, rfl, HYE.out, HB.out.trans (HB2.out.mono HB.out.size)⟩
    · have HF := Lib.hid (show (m : Int) = R by rw [HV.out, HMK.out, List.take_of_length_le (by omega)])
      go_wp2
      go_ret
      exact ⟨ret_int HF.out, HB.out⟩
theorem rapply_any (v : Value) (cs : List CC) (mode : Int) (dir : Bool) (u : Int) (w : World) (h : ClsR w v cs) (hn : cs.length ≤ 1000000) (hl : ∀ c ∈ cs, c.acts.length ≤ 1000000) :
    Calls Tryd.prog 30 #[v, .int .i64 mode, .bool dir, .int .i64 u] w fun e w' => e = .returned (.int .i64 (applyM cs mode dir u)) ∧ Below w.heap.size w w' := by
  cases hr : rightC cs with
  | true => exact rapply_yes v cs mode dir u w h hn hl hr
  | false => exact rapply_no v cs mode dir u w h hn hl hr
end Go.Proofs.YtbjajipeiigodaaDoor
