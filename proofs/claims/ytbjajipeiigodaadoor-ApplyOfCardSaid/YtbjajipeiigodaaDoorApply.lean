/-
  What apply.Apply makes of a mode: of clauses that may be, act by act; of others the mode's twelve bits. The only condition is that they are as few as a machine has.
-/
import Derived.Test.YtbjajipeiigodaaDoorApl3
namespace Go.Proofs.YtbjajipeiigodaaDoor
open Go Go.RowKit

/-- What an act, a clause, and clauses make of a mode. -/
def aStep (who um : Nat) (dir : Bool) (m : Nat) (a : CA) : Nat := actN a.op who um a.perms.toNat a.copy.toNat m dir
def cStep (um : Nat) (dir : Bool) (m : Nat) (c : CC) : Nat := c.acts.foldl (aStep c.who.toNat um dir) m
def foldM (um : Nat) (dir : Bool) (cs : List CC) (m : Nat) : Nat := cs.foldl (cStep um dir) m
def applyM (cs : List CC) (mode : Int) (dir : Bool) (u : Int) : Int := if rightC cs = true then (foldM (u % 4096).toNat dir cs (mode % 4096).toNat : Nat) else mode % 4096
theorem acts_lt (who um : Nat) (dir : Bool) (al : List CA) (m : Nat) (hm : m < 4096) : al.foldl (aStep who um dir) m < 4096 := by
  induction al generalizing m with
  | nil => exact hm
  | cons a al ih => exact ih _ (actN_lt ..)
theorem foldM_lt (um : Nat) (dir : Bool) (cs : List CC) (m : Nat) (hm : m < 4096) : foldM um dir cs m < 4096 := by
  unfold foldM
  induction cs generalizing m with
  | nil => exact hm
  | cons c cs ih => exact ih _ (acts_lt _ _ _ _ _ hm)
theorem foldM_snoc {um : Nat} {dir : Bool} {cs : List CC} {k : Nat} {x : CC} (h : cs[k]? = some x) (m : Nat) : foldM um dir (cs.take (k + 1)) m = cStep um dir (foldM um dir (cs.take k) m) x := by
  rw [take_snoc' h, foldM, List.foldl_append]; rfl
theorem acts_snoc {who um : Nat} {dir : Bool} {al : List CA} {k : Nat} {x : CA} (h : al[k]? = some x) (m : Nat) : (al.take (k + 1)).foldl (aStep who um dir) m = aStep who um dir ((al.take k).foldl (aStep who um dir) m) x := by
  rw [take_snoc' h, List.foldl_append]; rfl
theorem right_cl {cs : List CC} {k : Nat} {x : CC} (h : rightC cs = true) (hx : cs[k]? = some x) : 0 ≤ x.who ∧ x.who ≤ 7 ∧ x.acts.all ract = true := by
  rw [rightC, Bool.and_eq_true] at h
  have h1 := List.all_eq_true.1 h.1 x (List.mem_of_getElem? hx)
  simp only [clOk, Bool.and_eq_true, decide_eq_true_eq] at h1
  exact ⟨h1.1.1.1, h1.1.1.2, h1.2⟩
theorem ract_of {a : CA} (h : ract a = true) : (a.op = 43 ∨ a.op = 45 ∨ a.op = 61) ∧ 0 ≤ a.perms ∧ a.perms ≤ 63 ∧ 0 ≤ a.copy ∧ a.copy ≤ 3 := by
  simp only [ract, Bool.and_eq_true, decide_eq_true_eq] at h
  refine ⟨?_, h.1.1.1.1.2, h.1.1.1.2, h.1.1.2, h.1.2⟩
  have h1 := h.1.1.1.1.1
  have e : ∀ c : UInt8, sgR (co c) = true → c = 43 ∨ c = 45 ∨ c = 61 := by
    intro c hc
    simp only [sgR, Bool.or_eq_true, beq_iff_eq, co] at hc
    rcases hc with (hc | hc) | hc
    · exact .inl (UInt8.toNat_inj.1 (by show c.toNat = 43; omega))
    · exact .inr (.inl (UInt8.toNat_inj.1 (by show c.toNat = 45; omega)))
    · exact .inr (.inr (UInt8.toNat_inj.1 (by show c.toNat = 61; omega)))
  exact e _ h1

theorem apply_no (v : Value) (cs : List CC) (mode : Int) (dir : Bool) (u : Int) (w : World) (h : ClsR w v cs) (hn : cs.length ≤ 1000000) (hl : ∀ c ∈ cs, c.acts.length ≤ 1000000) (hr : rightC cs = false) :
    Calls Tryd.prog 29 #[v, .int .i64 mode, .bool dir, .int .i64 u] w fun e w' => e = .returned (.int .i64 (applyM cs mode dir u)) ∧ Below w.heap.size w w' := by
  have HR := Lib.hid (right_any v cs w h hn hl)
  rw [hr] at HR
  have HA := Lib.hid (show bits .and .i64 mode 4095 = applyM cs mode dir u by rw [and4095, applyM, hr, if_neg (by decide)])
  clear hr
  go_enter Tryd.func29, Tryd.ntmps29
  go_wp2_with fail
  refine HR.out.mono ?_
  rintro e w1 ⟨rfl, hb1⟩
  have HB1 := Lib.hid hb1
  clear hb1
  go_wp2
  go_ret
  exact ⟨ret_int HA.out, HB1.out⟩

set_option maxHeartbeats 4000000 in
theorem apply_yes (v : Value) (cs : List CC) (mode : Int) (dir : Bool) (u : Int) (w : World) (h : ClsR w v cs) (hn : cs.length ≤ 1000000) (hl : ∀ c ∈ cs, c.acts.length ≤ 1000000) (hr : rightC cs = true) :
    Calls Tryd.prog 29 #[v, .int .i64 mode, .bool dir, .int .i64 u] w fun e w' => e = .returned (.int .i64 (applyM cs mode dir u)) ∧ Below w.heap.size w w' := by
  have HR := Lib.hid (right_any v cs w h hn hl)
  rw [hr] at HR
  have HL := Lib.hid hl
  have HRC := Lib.hid hr
  have HV := Lib.hid (show applyM cs mode dir u = (foldM (u % 4096).toNat dir cs (mode % 4096).toNat : Nat) by rw [applyM, if_pos hr])
  have hm0 : (mode % 4096).toNat < 4096 := by omega
  have HM := Lib.hid (show bits .and .i64 mode 4095 = ((mode % 4096).toNat : Nat) by rw [and4095]; omega)
  obtain ⟨um, hum⟩ : ∃ um, (u % 4096).toNat = um := ⟨_, rfl⟩
  obtain ⟨m0, hm0'⟩ : ∃ m0, (mode % 4096).toNat = m0 := ⟨_, rfl⟩
  have HU := Lib.hid hum
  rw [hum, hm0'] at HV
  rw [hm0'] at HM hm0
  clear hl hr hum hm0'
  obtain ⟨A, c, rfl, hc⟩ := h
  have HC := Lib.hid hc
  clear hc
  obtain ⟨R, hR⟩ : ∃ R, applyM cs mode dir u = R := ⟨_, rfl⟩
  rw [hR] at HV ⊢
  clear hR
  obtain ⟨M, hM⟩ : ∃ M, bits .and .i64 mode 4095 = M := ⟨_, rfl⟩
  rw [hM] at HM
  have HMM := Lib.hid hM
  clear hM
  go_enter Tryd.func29, Tryd.ntmps29
  go_wp2_with fail
  refine HR.out.mono ?_
  rintro e w1 ⟨rfl, hb1⟩
  have HB1 := Lib.hid hb1
  clear hb1
  go_wp2
  go_loopg [1, 21] cs.length (fun g s1 s21 wr => ∃ (k m : Nat), s21 = .int .i64 k ∧ s1 = .int .i64 (m : Int) ∧ k ≤ cs.length ∧ g = cs.length - k ∧ m = foldM um dir (cs.take k) m0 ∧ Below w.heap.size w wr)
  case atStart => exact ⟨0, m0, rfl, by rw [HMM.out, HM.out], Nat.zero_le _, rfl, rfl, HB1.out⟩
  case round =>
    obtain ⟨k, m, rfl, rfl, hk, rfl, hm, hb⟩ := hrel
    have hmlt : m < 4096 := by rw [hm]; exact foldM_lt _ _ _ _ hm0
    have HMK := Lib.hid hm
    have HB := Lib.hid hb
    clear hm hb
    by_cases hlt : k < cs.length
    · obtain ⟨x, hx⟩ : ∃ x, cs[k]? = some x := ⟨_, List.getElem?_eq_getElem hlt⟩
      obtain ⟨ad, va, rfl, c0, c1, hA⟩ := HC.out k x hx
      obtain ⟨hw0, hw7, hra⟩ := right_cl HRC.out hx
      obtain ⟨who, acts⟩ := x
      simp only at c0 hA hw0 hw7 hra
      obtain ⟨who, rfl⟩ := Int.eq_ofNat_of_zero_le hw0
      have hw8 : who < 8 := by omega
      have d0 := (HB.out.cell (World.block_lt_of_cell? _ _ c0)).trans c0
      have d1 := (HB.out.cell (World.block_lt_of_cell? _ _ c1)).trans c1
      have HA := Lib.hid (hA.below HB.out)
      have HX := Lib.hid hx
      have HRA := Lib.hid hra
      clear c0 c1 hx hA hra hw0 hw7
      obtain ⟨A', c', rfl, hA'⟩ := HA.out
      have HA' := Lib.hid hA'
      clear hA'
      have hal : (acts.length : Int) ≤ 1000000 := by have := HL.out _ (List.mem_of_getElem? HX.out); simp only at this; omega
      go_wp2
      go_loopg [1, 28] acts.length (fun g s1 s28 wq => ∃ (j y : Nat), s28 = .int .i64 j ∧ s1 = .int .i64 (y : Int) ∧ j ≤ acts.length ∧ g = acts.length - j ∧ y = (acts.take j).foldl (aStep who um dir) m ∧ wr.heap.size < wq.heap.size ∧ wq.cell? ⟨wr.heap.size, 0, none⟩ = some (.int .i64 (who : Int)) ∧ Below wr.heap.size wr wq)
      case atStart => exact ⟨0, m, rfl, rfl, Nat.zero_le _, rfl, rfl, by simp, by simp, (Below.refl _ _).alloc (Nat.le_refl _) _⟩
      case round =>
        obtain ⟨j, y, rfl, rfl, hj, rfl, hy, hz, hcw, hb⟩ := hrel
        have hylt : y < 4096 := by rw [hy]; exact acts_lt _ _ _ _ _ hmlt
        have HY := Lib.hid hy
        have HB2 := Lib.hid hb
        have HCW := Lib.hid hcw
        clear hy hb
        by_cases hlt2 : j < acts.length
        · obtain ⟨a, ha⟩ : ∃ a, acts[j]? = some a := ⟨_, List.getElem?_eq_getElem hlt2⟩
          obtain ⟨ad', rfl, e0, e1, e2⟩ := HA'.out j a ha
          have g0 := (HB2.out.cell (World.block_lt_of_cell? _ _ e0)).trans e0
          have g1 := (HB2.out.cell (World.block_lt_of_cell? _ _ e1)).trans e1
          have g2 := (HB2.out.cell (World.block_lt_of_cell? _ _ e2)).trans e2
          have HXA := Lib.hid ha
          have hr := ract_of (List.all_eq_true.1 HRA.out a (List.mem_of_getElem? ha))
          clear e0 e1 e2 ha
          obtain ⟨op, perms, copy⟩ := a
          simp only at hr g0 g1 g2
          obtain ⟨ho, hp0, hp1, hq0, hq1⟩ := hr
          obtain ⟨p, rfl⟩ := Int.eq_ofNat_of_zero_le hp0
          obtain ⟨q, rfl⟩ := Int.eq_ofNat_of_zero_le hq0
          have HAP := Lib.hid (fun w => applyAct_any op who p q y dir u w ho hw8 (by omega) (by omega) hylt)
          rw [HU.out] at HAP
          have HN := Lib.hid (show (acts.take (j + 1)).foldl (aStep who um dir) m = actN op who um p q y dir by rw [acts_snoc HXA.out, ← HY.out]; rfl)
          clear ho hp0 hp1 hq0 hq1
          have hcw2 := hcw
          go_wp2_with fail
          refine (HAP.out _).mono ?_
          rintro e w3 ⟨rfl, hb3⟩
          have HB3 := Lib.hid hb3
          clear hb3
          go_wp2
          go_roundg (acts.length - (j + 1))
          case measure => omega
          case rel => exact ⟨j + 1, _, by go_num, rfl, by omega, rfl, HN.out.symm, by have := HB3.out.size; simp at this; omega, (HB3.out.cell (by simp; omega)).trans (by rw [World.cell?_alloc_lt _ _ _ (by simpa using hz)]; exact HCW.out), (HB2.out.alloc HB2.out.size _).trans (HB3.out.mono (by simp; have := HB2.out.size; omega))⟩
        · have HYE := Lib.hid (show y = foldM um dir (cs.take (k + 1)) m0 by
            rw [foldM_snoc HX.out, ← HMK.out, HY.out, List.take_of_length_le (by omega)]
            rfl)
          go_wp2
          go_roundg (cs.length - (k + 1))
          case measure => omega
          case rel => exact ⟨k + 1, y, by go_num, rfl, by omega, rfl, HYE.out, HB.out.trans (HB2.out.mono HB.out.size)⟩
    · have HF := Lib.hid (show (m : Int) = R by rw [HV.out, HMK.out, List.take_of_length_le (by omega)])
      go_wp2
      go_ret
      exact ⟨ret_int HF.out, HB.out⟩
theorem apply_any (v : Value) (cs : List CC) (mode : Int) (dir : Bool) (u : Int) (w : World) (h : ClsR w v cs) (hn : cs.length ≤ 1000000) (hl : ∀ c ∈ cs, c.acts.length ≤ 1000000) :
    Calls Tryd.prog 29 #[v, .int .i64 mode, .bool dir, .int .i64 u] w fun e w' => e = .returned (.int .i64 (applyM cs mode dir u)) ∧ Below w.heap.size w w' := by
  cases hr : rightC cs with
  | true => exact apply_yes v cs mode dir u w h hn hl hr
  | false => exact apply_no v cs mode dir u w h hn hl hr
end Go.Proofs.YtbjajipeiigodaaDoor
