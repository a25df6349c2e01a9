/-
  What clause.newAct, withLetter and rightAct answer, of any act and rune.
-/
import Derived.Test.YtbjajipeiigodaaDoorRune
namespace Go.Proofs.YtbjajipeiigodaaDoor
open Go Go.RowKit

/-- An act as a value. -/
def aV (a : CA) : Value := .agg #[.int .u8 (co a.op), .int .i64 a.perms, .int .i64 a.copy]
def aO : Option CA → Value
  | none => .agg #[.int .u8 0, .int .i64 0, .int .i64 0]
  | some a => aV a
theorem ret_val {a b : Value} (h : a = b) : Ending.returned a = .returned b := by rw [h]
theorem isSign_at (r : Int) (b : Bool) (w : World) (h : sgR r = b) : Calls Tryd.prog 56 #[.int .i32 r] w fun e w' => e = .returned (.bool b) ∧ w = w' := h ▸ isSign_any r w
theorem permBit_at (r p : Int) (w : World) (h : perR r = p) : Calls Tryd.prog 59 #[.int .i32 r] w fun e w' => e = .returned (.int .i64 p) ∧ w = w' := h ▸ permBit_any r w
theorem whoBits_at (r p : Int) (w : World) (h : whoR r = p) : Calls Tryd.prog 54 #[.int .i32 r] w fun e w' => e = .returned (.int .i64 p) ∧ w = w' := h ▸ whoBits_any r w
theorem copyClass_at (r p : Int) (w : World) (h0 : 0 ≤ r) (h : copR r = p) : Calls Tryd.prog 72 #[.int .i32 r] w fun e w' => e = .returned (.int .i64 p) ∧ Below w.heap.size w w' := h ▸ copyClass_any r w h0
theorem co_bd (c : UInt8) : 0 ≤ co c ∧ co c ≤ 255 := by
  have := c.toNat_lt
  unfold co
  omega

theorem newAct_any (c : UInt8) (w : World) : Calls Tryd.prog 55 #[.int .u8 (co c)] w fun e w' => e = .returned (aO (if sgR (co c) = true then some ⟨c, 0, 0⟩ else none)) ∧ Below w.heap.size w w' := by
  have hn := co_bd c
  have hn0 := hn.1
  have hn1 := hn.2
  clear hn
  cases hs : sgR (co c) with
  | true =>
    have HP := Lib.hid (show Value.agg #[.int .u8 (co c), .int .i64 0, .int .i64 0] = aO (if true = true then some ⟨c, 0, 0⟩ else none) from rfl)
    generalize aO (if true = true then some ⟨c, 0, 0⟩ else none) = X at HP ⊢
    have H := Lib.hid hs
    clear hs
    go_enter Tryd.func55, Tryd.ntmps55
    go_wp2_with fail
    refine (isSign_at _ true _ H.out).mono ?_
    rintro e w' ⟨rfl, rfl⟩
    go_wp2
    exact bodyPost_ret (v := .agg #[.int .u8 (co c), .int .i64 0, .int .i64 0]) (by simp [results, Tryd.results55, go_sem]) rfl ⟨ret_val HP.out, (Below.refl _ _).alloc (Nat.le_refl _) _⟩
  | false =>
    have HP := Lib.hid (show Value.agg #[.int .u8 0, .int .i64 0, .int .i64 0] = aO (if false = true then some ⟨c, 0, 0⟩ else none) from rfl)
    generalize aO (if false = true then some ⟨c, 0, 0⟩ else none) = X at HP ⊢
    have H := Lib.hid hs
    clear hs
    go_enter Tryd.func55, Tryd.ntmps55
    go_wp2_with fail
    refine (isSign_at _ false _ H.out).mono ?_
    rintro e w' ⟨rfl, rfl⟩
    go_wp2
    exact bodyPost_ret (v := .agg #[.int .u8 0, .int .i64 0, .int .i64 0]) (by simp [results, Tryd.results55, go_sem]) rfl ⟨ret_val HP.out, (Below.refl _ _).alloc (Nat.le_refl _) _⟩

theorem bcell {W w1 : World} {B : Nat} (hb : Below B W w1) : (∀ b o, b < B → w1.cell? ⟨b, o, none⟩ = W.cell? ⟨b, o, none⟩) ∧ (∀ b o, b < B → w1.frozen? ⟨b, o, none⟩ = W.frozen? ⟨b, o, none⟩) :=
  ⟨fun b o h => hb.cell (p := ⟨b, o, none⟩) h, fun b o h => hb.frozen (p := ⟨b, o, none⟩) h⟩

theorem cell_set_off (W : World) (b i j : Nat) (v : Value) (h : i ≠ j) : (W.setCell ⟨b, i, none⟩ v).cell? ⟨b, j, none⟩ = W.cell? ⟨b, j, none⟩ :=
  World.cell?_setCell_other _ _ _ _ (fun e => h (by injection e))
theorem cell_set_blk (W : World) (b b' i j : Nat) (v : Value) (h : b ≠ b') : (W.setCell ⟨b, i, none⟩ v).cell? ⟨b', j, none⟩ = W.cell? ⟨b', j, none⟩ :=
  World.cell?_setCell_other _ _ _ _ (fun e => h (by injection e))
attribute [local go_sem] cell_set_off cell_set_blk
set_option maxHeartbeats 1000000 in
theorem withLetter_any (a : CA) (r : Int) (w : World) (h0 : 0 ≤ r) : Calls Tryd.prog 57 #[aV a, .int .i32 r] w fun e w' => e = .returned (aO (wl a r)) ∧ Below w.heap.size w w' := by
  obtain ⟨op, perms, copy⟩ := a
  obtain ⟨p, hp⟩ : ∃ p, perR r = p := ⟨_, rfl⟩
  obtain ⟨c, hc⟩ : ∃ c, copR r = c := ⟨_, rfl⟩
  obtain ⟨X, hX⟩ : ∃ X, aO (wl ⟨op, perms, copy⟩ r) = X := ⟨_, rfl⟩
  rw [hX]
  unfold wl at hX
  rw [hp, hc] at hX
  have HP := Lib.hid hp
  have HC := Lib.hid hc
  have HX := Lib.hid hX
  clear hX hp hc
  unfold aV
  simp only
  by_cases h1 : copy = 0
  · have h1' : (copy != 0) = false := by simpa using h1
    by_cases h2 : p = 0
    · have h2' : (p != 0) = false := by simpa using h2
      by_cases h3 : c = 0
      · have h3' : (c != 0) = false := by simpa using h3
        have HE := Lib.hid (show X = .agg #[.int .u8 0, .int .i64 0, .int .i64 0] by rw [← HX.out, if_neg (by simp [h1]), if_neg (by simp [h2]), if_neg (by simp [h3])]; rfl)
        clear h1 h2 h3
        go_enter Tryd.func57, Tryd.ntmps57
        go_wp2_with fail
        refine (permBit_at _ p _ HP.out).mono ?_
        rintro e w' ⟨rfl, rfl⟩
        go_wp2_with fail
        refine (copyClass_at _ c _ h0 HC.out).mono ?_
        rintro e w1 ⟨rfl, hb⟩
        obtain ⟨hcl, hfr⟩ := bcell hb
        have s1 : ∀ v, (w1.setCell ⟨w.heap.size, 1, none⟩ v).cell? ⟨w.heap.size, 1, none⟩ = some v := fun v => World.cell?_setCell_same' _ _ _ (by rw [hcl _ _ (by simp; omega)]; simp [go_sem])
        have s2 : ∀ v, (w1.setCell ⟨w.heap.size, 2, none⟩ v).cell? ⟨w.heap.size, 2, none⟩ = some v := fun v => World.cell?_setCell_same' _ _ _ (by rw [hcl _ _ (by simp; omega)]; simp [go_sem])
        have hz : w.heap.size + 1 < w1.heap.size := by have := hb.size; simp at this; omega
        have HB := Lib.hid hb
        clear hb
        go_wp2
        have hbb : Below w.heap.size w w1 := (((Below.refl _ _).alloc (Nat.le_refl _) _).alloc (by simp) _).trans (HB.out.mono (by simp; omega))
        exact bodyPost_ret (v := .agg #[.int .u8 0, .int .i64 0, .int .i64 0]) (by simp [results, Tryd.results57, go_sem, hcl]) rfl ⟨ret_val HE.out.symm, by repeat (first | exact hbb | refine Below.setCell ?_ (by simp) _)⟩
      · have h3' : (c != 0) = true := by simpa using h3
        by_cases h4 : perms = 0
        · have h4' : (perms == 0) = true := by simpa using h4
          have HE := Lib.hid (show X = .agg #[.int .u8 (co op), .int .i64 perms, .int .i64 c] by rw [← HX.out, if_neg (by simp [h1]), if_neg (by simp [h2]), if_pos ⟨h3, h4⟩]; rfl)
          clear h1 h2 h3 h4
          go_enter Tryd.func57, Tryd.ntmps57
          go_wp2_with fail
          refine (permBit_at _ p _ HP.out).mono ?_
          rintro e w' ⟨rfl, rfl⟩
          go_wp2_with fail
          refine (copyClass_at _ c _ h0 HC.out).mono ?_
          rintro e w1 ⟨rfl, hb⟩
          obtain ⟨hcl, hfr⟩ := bcell hb
          have s1 : ∀ v, (w1.setCell ⟨w.heap.size, 1, none⟩ v).cell? ⟨w.heap.size, 1, none⟩ = some v := fun v => World.cell?_setCell_same' _ _ _ (by rw [hcl _ _ (by simp; omega)]; simp [go_sem])
          have s2 : ∀ v, (w1.setCell ⟨w.heap.size, 2, none⟩ v).cell? ⟨w.heap.size, 2, none⟩ = some v := fun v => World.cell?_setCell_same' _ _ _ (by rw [hcl _ _ (by simp; omega)]; simp [go_sem])
          have hz : w.heap.size + 1 < w1.heap.size := by have := hb.size; simp at this; omega
          have HB := Lib.hid hb
          clear hb
          go_wp2
          have hbb : Below w.heap.size w w1 := (((Below.refl _ _).alloc (Nat.le_refl _) _).alloc (by simp) _).trans (HB.out.mono (by simp; omega))
          exact bodyPost_ret (v := .agg #[.int .u8 (co op), .int .i64 perms, .int .i64 c]) (by simp [results, Tryd.results57, go_sem, hcl]) rfl ⟨ret_val HE.out.symm, by repeat (first | exact hbb | refine Below.setCell ?_ (by simp) _)⟩
        · have h4' : (perms == 0) = false := by simpa using h4
          have HE := Lib.hid (show X = .agg #[.int .u8 0, .int .i64 0, .int .i64 0] by rw [← HX.out, if_neg (by simp [h1]), if_neg (by simp [h2]), if_neg (by simp [h4])]; rfl)
          clear h1 h2 h3 h4
          go_enter Tryd.func57, Tryd.ntmps57
          go_wp2_with fail
          refine (permBit_at _ p _ HP.out).mono ?_
          rintro e w' ⟨rfl, rfl⟩
          go_wp2_with fail
          refine (copyClass_at _ c _ h0 HC.out).mono ?_
          rintro e w1 ⟨rfl, hb⟩
          obtain ⟨hcl, hfr⟩ := bcell hb
          have s1 : ∀ v, (w1.setCell ⟨w.heap.size, 1, none⟩ v).cell? ⟨w.heap.size, 1, none⟩ = some v := fun v => World.cell?_setCell_same' _ _ _ (by rw [hcl _ _ (by simp; omega)]; simp [go_sem])
          have s2 : ∀ v, (w1.setCell ⟨w.heap.size, 2, none⟩ v).cell? ⟨w.heap.size, 2, none⟩ = some v := fun v => World.cell?_setCell_same' _ _ _ (by rw [hcl _ _ (by simp; omega)]; simp [go_sem])
          have hz : w.heap.size + 1 < w1.heap.size := by have := hb.size; simp at this; omega
          have HB := Lib.hid hb
          clear hb
          go_wp2
          have hbb : Below w.heap.size w w1 := (((Below.refl _ _).alloc (Nat.le_refl _) _).alloc (by simp) _).trans (HB.out.mono (by simp; omega))
          exact bodyPost_ret (v := .agg #[.int .u8 0, .int .i64 0, .int .i64 0]) (by simp [results, Tryd.results57, go_sem, hcl]) rfl ⟨ret_val HE.out.symm, by repeat (first | exact hbb | refine Below.setCell ?_ (by simp) _)⟩
    · have h2' : (p != 0) = true := by simpa using h2
      have HE := Lib.hid (show X = .agg #[.int .u8 (co op), .int .i64 (bits .or .i64 perms p), .int .i64 copy] by rw [← HX.out, if_neg (by simp [h1]), if_pos h2]; rfl)
      clear h1 h2
      go_enter Tryd.func57, Tryd.ntmps57
      go_wp2_with fail
      refine (permBit_at _ p _ HP.out).mono ?_
      rintro e w' ⟨rfl, rfl⟩
      go_wp2_with fail
      refine (copyClass_at _ c _ h0 HC.out).mono ?_
      rintro e w1 ⟨rfl, hb⟩
      obtain ⟨hcl, hfr⟩ := bcell hb
      have s1 : ∀ v, (w1.setCell ⟨w.heap.size, 1, none⟩ v).cell? ⟨w.heap.size, 1, none⟩ = some v := fun v => World.cell?_setCell_same' _ _ _ (by rw [hcl _ _ (by simp; omega)]; simp [go_sem])
      have s2 : ∀ v, (w1.setCell ⟨w.heap.size, 2, none⟩ v).cell? ⟨w.heap.size, 2, none⟩ = some v := fun v => World.cell?_setCell_same' _ _ _ (by rw [hcl _ _ (by simp; omega)]; simp [go_sem])
      have hz : w.heap.size + 1 < w1.heap.size := by have := hb.size; simp at this; omega
      have HB := Lib.hid hb
      clear hb
      go_wp2
      have hbb : Below w.heap.size w w1 := (((Below.refl _ _).alloc (Nat.le_refl _) _).alloc (by simp) _).trans (HB.out.mono (by simp; omega))
      exact bodyPost_ret (v := .agg #[.int .u8 (co op), .int .i64 (bits .or .i64 perms p), .int .i64 copy]) (by simp [results, Tryd.results57, go_sem, hcl]) rfl ⟨ret_val HE.out.symm, by repeat (first | exact hbb | refine Below.setCell ?_ (by simp) _)⟩
  · have h1' : (copy != 0) = true := by simpa using h1
    have HE := Lib.hid (show X = .agg #[.int .u8 0, .int .i64 0, .int .i64 0] by rw [← HX.out, if_pos h1]; rfl)
    clear h1
    go_enter Tryd.func57, Tryd.ntmps57
    go_wp2_with fail
    refine (permBit_at _ p _ HP.out).mono ?_
    rintro e w' ⟨rfl, rfl⟩
    go_wp2_with fail
    refine (copyClass_at _ c _ h0 HC.out).mono ?_
    rintro e w1 ⟨rfl, hb⟩
    obtain ⟨hcl, hfr⟩ := bcell hb
    have s1 : ∀ v, (w1.setCell ⟨w.heap.size, 1, none⟩ v).cell? ⟨w.heap.size, 1, none⟩ = some v := fun v => World.cell?_setCell_same' _ _ _ (by rw [hcl _ _ (by simp; omega)]; simp [go_sem])
    have s2 : ∀ v, (w1.setCell ⟨w.heap.size, 2, none⟩ v).cell? ⟨w.heap.size, 2, none⟩ = some v := fun v => World.cell?_setCell_same' _ _ _ (by rw [hcl _ _ (by simp; omega)]; simp [go_sem])
    have hz : w.heap.size + 1 < w1.heap.size := by have := hb.size; simp at this; omega
    have HB := Lib.hid hb
    clear hb
    go_wp2
    have hbb : Below w.heap.size w w1 := (((Below.refl _ _).alloc (Nat.le_refl _) _).alloc (by simp) _).trans (HB.out.mono (by simp; omega))
    exact bodyPost_ret (v := .agg #[.int .u8 0, .int .i64 0, .int .i64 0]) (by simp [results, Tryd.results57, go_sem, hcl]) rfl ⟨ret_val HE.out.symm, by repeat (first | exact hbb | refine Below.setCell ?_ (by simp) _)⟩

def ract (a : CA) : Bool := sgR (co a.op) && decide (0 ≤ a.perms) && decide (a.perms ≤ 63) && decide (0 ≤ a.copy) && decide (a.copy ≤ 3) && (a.perms == 0 || a.copy == 0)
set_option maxHeartbeats 1000000 in
theorem rightAct_any (a : CA) (w : World) : Calls Tryd.prog 38 #[aV a] w fun e w' => e = .returned (.bool (ract a)) ∧ Below w.heap.size w w' := by
  obtain ⟨op, perms, copy⟩ := a
  have hn := co_bd op
  have hn0 := hn.1
  have hn1 := hn.2
  clear hn
  obtain ⟨X, hX⟩ : ∃ X, ract ⟨op, perms, copy⟩ = X := ⟨_, rfl⟩
  rw [hX]
  unfold ract at hX
  simp only at hX
  unfold aV
  simp only
  cases hs : sgR (co op) with
  | false =>
    have HX := Lib.hid (show X = false by rw [← hX, hs]; rfl)
    have H := Lib.hid hs
    clear hs hX
    go_enter Tryd.func38, Tryd.ntmps38
    go_wp2_with fail
    refine (isSign_at _ false _ H.out).mono ?_
    rintro e w' ⟨rfl, rfl⟩
    go_wp2
    go_ret
    exact ⟨ret_bool HX.out.symm, (Below.refl _ _).alloc (Nat.le_refl _) _⟩
  | true =>
    rw [hs] at hX
    have HX := Lib.hid hX
    have H := Lib.hid hs
    clear hs hX
    go_enter Tryd.func38, Tryd.ntmps38
    go_wp2_with fail
    refine (isSign_at _ true _ H.out).mono ?_
    rintro e w' ⟨rfl, rfl⟩
    go_wp2
    all_goals
      go_ret
      exact ⟨ret_bool (by rw [← HX.out]; simp_all <;> omega), (Below.refl _ _).alloc (Nat.le_refl _) _⟩
end Go.Proofs.YtbjajipeiigodaaDoor
