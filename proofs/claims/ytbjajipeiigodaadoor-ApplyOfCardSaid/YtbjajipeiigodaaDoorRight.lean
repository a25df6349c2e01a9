/-
  What clause.Right answers of clauses, however they lie in memory.
-/
import Derived.Test.YtbjajipeiigodaaDoorPActs
namespace Go.Proofs.YtbjajipeiigodaaDoor
open Go Go.RowKit

theorem add_two (a : Addr) (i j : Nat) : (a.add i).add j = a.add (i + j) := by
  unfold Addr.add
  by_cases hi : i = 0 <;> by_cases hj : j = 0 <;> simp [hi, hj, Nat.add_assoc]
theorem add_pos (a : Addr) (j : Nat) (hj : j ≠ 0) : a.add j = ⟨a.block, a.off + j, none⟩ := by unfold Addr.add; rw [if_neg hj]
/-- A slice that reads as acts. -/
def ActsR (w : World) (v : Value) (al : List CA) : Prop := ∃ A c, v = .slice A al.length c ∧ ∀ (k : Nat) (a : CA), al[k]? = some a → ∃ ad : Addr, A = some ad ∧
  w.cell? (ad.add (k * 3)) = some (.int .u8 (co a.op)) ∧ w.cell? ⟨(ad.add (k * 3)).block, (ad.add (k * 3)).off + 1, none⟩ = some (.int .i64 a.perms) ∧ w.cell? ⟨(ad.add (k * 3)).block, (ad.add (k * 3)).off + 2, none⟩ = some (.int .i64 a.copy)
/-- A slice that reads as clauses. -/
def ClsR (w : World) (v : Value) (cs : List CC) : Prop := ∃ A c, v = .slice A cs.length c ∧ ∀ (k : Nat) (x : CC), cs[k]? = some x → ∃ (ad : Addr) (va : Value), A = some ad ∧
  w.cell? (ad.add (k * 2)) = some (.int .i64 x.who) ∧ w.cell? ⟨(ad.add (k * 2)).block, (ad.add (k * 2)).off + 1, none⟩ = some va ∧ ActsR w va x.acts
theorem ActsR.below {w w' : World} {v : Value} {al : List CA} (h : ActsR w v al) (hb : Below w.heap.size w w') : ActsR w' v al := by
  obtain ⟨A, c, hv, hc⟩ := h
  refine ⟨A, c, hv, fun k a hk => ?_⟩
  obtain ⟨ad, hA, h0, h1, h2⟩ := hc k a hk
  exact ⟨ad, hA, (hb.cell (World.block_lt_of_cell? _ _ h0)).trans h0, (hb.cell (World.block_lt_of_cell? _ _ h1)).trans h1, (hb.cell (World.block_lt_of_cell? _ _ h2)).trans h2⟩
theorem ClsR.below {w w' : World} {v : Value} {cs : List CC} (h : ClsR w v cs) (hb : Below w.heap.size w w') : ClsR w' v cs := by
  obtain ⟨A, c, hv, hc⟩ := h
  refine ⟨A, c, hv, fun k a hk => ?_⟩
  obtain ⟨ad, va, hA, h0, h1, h2⟩ := hc k a hk
  exact ⟨ad, va, hA, (hb.cell (World.block_lt_of_cell? _ _ h0)).trans h0, (hb.cell (World.block_lt_of_cell? _ _ h1)).trans h1, h2.below hb⟩

def clOk (c : CC) : Bool := decide (0 ≤ c.who) && decide (c.who ≤ 7) && !c.acts.isEmpty && c.acts.all ract
def rightC (cs : List CC) : Bool := cs.all clOk && !cs.isEmpty

theorem take_snoc' {α : Type} {l : List α} {k : Nat} {x : α} (h : l[k]? = some x) : l.take (k + 1) = l.take k ++ [x] := by rw [List.take_add_one, h]; rfl
theorem right_no {cs : List CC} {k : Nat} {x : CC} (h : cs[k]? = some x) (hx : clOk x = false) : rightC cs = false := by
  have : cs.all clOk = false := by
    rw [List.all_eq_false]
    exact ⟨x, List.mem_of_getElem? h, by simp [hx]⟩
  rw [rightC, this]; rfl
set_option maxHeartbeats 2000000 in
theorem right_any (v : Value) (cs : List CC) (w : World) (h : ClsR w v cs) (hn : cs.length ≤ 1000000) (hl : ∀ c ∈ cs, c.acts.length ≤ 1000000) : Calls Tryd.prog 19 #[v] w fun e w' => e = .returned (.bool (rightC cs)) ∧ Below w.heap.size w w' := by
  have HL := Lib.hid hl
  clear hl
  obtain ⟨A, c, rfl, hc⟩ := h
  have HC := Lib.hid hc
  clear hc
  obtain ⟨R, hR⟩ : ∃ R, rightC cs = R := ⟨_, rfl⟩
  have HR := Lib.hid hR
  rw [hR]
  clear hR
  go_enter Tryd.func19, Tryd.ntmps19
  go_wp2
  go_loopg [9] cs.length (fun g s9 wr => ∃ k : Nat, s9 = .int .i64 k ∧ k ≤ cs.length ∧ g = cs.length - k ∧ (cs.take k).all clOk = true ∧ Below w.heap.size w wr)
  case atStart => exact ⟨0, rfl, Nat.zero_le _, rfl, rfl, Below.refl _ _⟩
  case round =>
    obtain ⟨k, rfl, hk, rfl, hall, hb⟩ := hrel
    have HALL := Lib.hid hall
    have HB := Lib.hid hb
    clear hall hb
    by_cases hlt : k < cs.length
    · obtain ⟨x, hx⟩ : ∃ x, cs[k]? = some x := ⟨_, List.getElem?_eq_getElem hlt⟩
      obtain ⟨ad, va, rfl, c0, c1, hA⟩ := HC.out k x hx
      obtain ⟨who, acts⟩ := x
      simp only at c0 hA
      have d0 := (HB.out.cell (World.block_lt_of_cell? _ _ c0)).trans c0
      have d1 := (HB.out.cell (World.block_lt_of_cell? _ _ c1)).trans c1
      have HA := Lib.hid (hA.below HB.out)
      have HX := Lib.hid hx
      clear c0 c1 hx hA
      obtain ⟨A', c', rfl, hA'⟩ := HA.out
      have HA' := Lib.hid hA'
      clear hA'
      by_cases q0 : who < 0
      · have HF := Lib.hid (show R = false by rw [← HR.out]; exact right_no HX.out (by simp [clOk]; omega))
        go_wp2
        go_ret
        exact ⟨ret_bool HF.out.symm, HB.out.alloc HB.out.size _⟩
      by_cases q1 : 7 < who
      · have HF := Lib.hid (show R = false by rw [← HR.out]; exact right_no HX.out (by simp [clOk]; omega))
        go_wp2
        go_ret
        exact ⟨ret_bool HF.out.symm, HB.out.alloc HB.out.size _⟩
      by_cases q2 : acts.length = 0
      · have q2' : ((acts.length : Int) == 0) = true := by rw [q2]; rfl
        have HF := Lib.hid (show R = false by rw [← HR.out]; exact right_no HX.out (by rw [List.eq_nil_of_length_eq_zero q2]; simp [clOk]))
        clear q2
        go_wp2
        go_ret
        exact ⟨ret_bool HF.out.symm, HB.out.alloc HB.out.size _⟩
      have q2' : ((acts.length : Int) == 0) = false := by rw [beq_eq_false_iff_ne]; omega
      have hal : (acts.length : Int) ≤ 1000000 := by have := HL.out _ (List.mem_of_getElem? HX.out); simp only at this; omega
      go_wp2
      go_loopg [30] acts.length (fun g s30 wq => ∃ m : Nat, s30 = .int .i64 m ∧ m ≤ acts.length ∧ g = acts.length - m ∧ (acts.take m).all ract = true ∧ Below wr.heap.size wr wq)
      case atStart => exact ⟨0, rfl, Nat.zero_le _, rfl, rfl, (Below.refl _ _).alloc (Nat.le_refl _) _⟩
      case round =>
        obtain ⟨m, rfl, hm, rfl, hall, hb⟩ := hrel
        have HALL2 := Lib.hid hall
        have HB2 := Lib.hid hb
        clear hall hb
        by_cases hlt2 : m < acts.length
        · obtain ⟨a, ha⟩ : ∃ a, acts[m]? = some a := ⟨_, List.getElem?_eq_getElem hlt2⟩
          obtain ⟨ad', rfl, e0, e1, e2⟩ := HA'.out m a ha
          have g0 := (HB2.out.cell (World.block_lt_of_cell? _ _ e0)).trans e0
          have g1 := (HB2.out.cell (World.block_lt_of_cell? _ _ e1)).trans e1
          have g2 := (HB2.out.cell (World.block_lt_of_cell? _ _ e2)).trans e2
          have HXA := Lib.hid ha
          clear e0 e1 e2 ha
          cases hra : ract a with
          | true =>
            have HRA := Lib.hid (rightAct_any a)
            rw [hra] at HRA
            have HR2 := Lib.hid hra
            clear hra
            obtain ⟨op, perms, copy⟩ := a
            go_wp2_with fail
            refine (HRA.out _).mono ?_
            rintro e w3 ⟨rfl, hb3⟩
            have HB3 := Lib.hid hb3
            clear hb3
            go_wp2
            go_roundg (acts.length - (m + 1))
            case measure => omega
            case rel => exact ⟨m + 1, by go_num, by omega, rfl, by rw [take_snoc' HXA.out, List.all_append, HALL2.out]; simp [HR2.out], (HB2.out.alloc HB2.out.size _).trans (HB3.out.mono (by simp; have := HB2.out.size; omega))⟩
          | false =>
            have HRA := Lib.hid (rightAct_any a)
            rw [hra] at HRA
            have HF := Lib.hid (show R = false by
              rw [← HR.out]
              refine right_no HX.out ?_
              have : acts.all ract = false := by
                rw [List.all_eq_false]
                exact ⟨a, List.mem_of_getElem? HXA.out, by simp [hra]⟩
              simp [clOk, this])
            clear hra
            obtain ⟨op, perms, copy⟩ := a
            go_wp2_with fail
            refine (HRA.out _).mono ?_
            rintro e w3 ⟨rfl, hb3⟩
            have HB3 := Lib.hid hb3
            clear hb3
            go_wp2
            go_ret
            exact ⟨ret_bool HF.out.symm, HB.out.trans (((HB2.out.alloc HB2.out.size _).trans (HB3.out.mono (by simp; have := HB2.out.size; omega))).mono HB.out.size)⟩
        · go_wp2
          go_roundg (cs.length - (k + 1))
          case measure => omega
          case rel =>
            refine ⟨k + 1, by go_num, by omega, rfl, ?_, HB.out.trans (HB2.out.mono HB.out.size)⟩
            rw [take_snoc' HX.out, List.all_append, HALL.out]
            have h1 := HALL2.out
            rw [List.take_of_length_le (by omega)] at h1
            have h2 : acts ≠ [] := by intro e; rw [e] at q2; exact q2 rfl
            simp [clOk, h1, h2]
            omega
    · have HF := Lib.hid (show R = decide (0 < cs.length) by
        rw [← HR.out, rightC]
        have h1 := HALL.out
        rw [List.take_of_length_le (by omega)] at h1
        rw [h1]
        cases cs <;> simp)
      go_wp2
      go_ret
      exact ⟨ret_bool HF.out.symm, HB.out⟩
end Go.Proofs.YtbjajipeiigodaaDoor
