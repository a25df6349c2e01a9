/-
  Whether a slice of numbers, or of bools, holds one: slices.Index and slices.Contains at the two types, and anyOf. The condition: the slice is no longer than what a machine has.
-/
import Derived.Test.YtnbpglaklhfgmaaLeaf
import Derived.Deep.LoopGhost
namespace Go.Proofs.Ytnbpglaklhfgmaa
open Go Go.RowKit

/-- A slice reads as a list of numbers. -/
def IntsR (w : World) (v : Value) (gs : List Int) : Prop :=
  ∃ (A : Option Addr) (c : Nat), v = .slice A gs.length c ∧ ∀ (k : Nat) (g : Int), gs[k]? = some g → ∃ ad, A = some ad ∧ w.cell? (ad.add k) = some (.int .i64 g)
/-- A slice reads as a list of bools. -/
def BoolsR (w : World) (v : Value) (bs : List Bool) : Prop :=
  ∃ (A : Option Addr) (c : Nat), v = .slice A bs.length c ∧ ∀ (k : Nat) (b : Bool), bs[k]? = some b → ∃ ad, A = some ad ∧ w.cell? (ad.add k) = some (.bool b)
theorem IntsR.below {w w' : World} {v : Value} {gs : List Int} (h : IntsR w v gs) (hb : Below w.heap.size w w') : IntsR w' v gs := by
  obtain ⟨A, c, rfl, h⟩ := h
  refine ⟨A, c, rfl, fun k g hk => ?_⟩
  obtain ⟨ad, rfl, h1⟩ := h k g hk
  exact ⟨ad, rfl, bc hb h1⟩

theorem take_snoc' {α : Type} {l : List α} {k : Nat} {x : α} (h : l[k]? = some x) : l.take (k + 1) = l.take k ++ [x] := by rw [List.take_add_one, h]; rfl
theorem has_at {α : Type} [BEq α] [LawfulBEq α] {l : List α} {k : Nat} {x : α} (h : l[k]? = some x) : l.contains x = true := by simpa using List.mem_of_getElem? h
theorem has_next {α : Type} [BEq α] [LawfulBEq α] {l : List α} {k : Nat} {x y : α} (h : l[k]? = some y) (hn : (l.take k).contains x = false) (hy : ¬ x = y) : (l.take (k + 1)).contains x = false := by
  rw [take_snoc' h, List.contains_append, hn]
  simpa using hy

theorem idxB (v : Value) (l : List Bool) (x : Bool) (w : World) (h : BoolsR w v l) (hn : l.length ≤ 1000000) :
    Calls Try.prog 42 #[v, .bool x] w fun e w' => ∃ i : Int, e = .returned (.int .i64 i) ∧ -1 ≤ i ∧ i ≤ 1000000 ∧ decide (0 ≤ i) = l.contains x ∧ w = w' := by
  obtain ⟨A, c, rfl, hc⟩ := h
  have HC := Lib.hid hc
  clear hc
  go_enter Try.func42, Try.ntmps42
  go_wp2
  go_loopg [8] l.length (fun g s8 wr => ∃ k : Nat, s8 = .int .i64 k ∧ k ≤ l.length ∧ g = l.length - k ∧ (l.take k).contains x = false ∧ w = wr)
  case atStart => exact ⟨0, rfl, Nat.zero_le _, rfl, rfl, rfl⟩
  case round =>
    obtain ⟨k, rfl, hk, rfl, hno, rfl⟩ := hrel
    have HNO := Lib.hid hno
    clear hno
    by_cases hlt : k < l.length
    · obtain ⟨y, hy⟩ : ∃ y, l[k]? = some y := ⟨_, List.getElem?_eq_getElem hlt⟩
      obtain ⟨ad, rfl, c0⟩ := HC.out k y hy
      have HY := Lib.hid hy
      clear hy
      by_cases hxy : x = y
      · subst hxy
        go_wp2
        go_ret
        exact ⟨_, rfl, by omega, by omega, by rw [has_at HY.out]; simp, rfl⟩
      · have hne : (x == y) = false := by simpa using hxy
        have HN := Lib.hid hxy
        clear hxy
        go_wp2
        go_roundg (l.length - (k + 1))
        case measure => omega
        case rel => exact ⟨k + 1, by go_num, by omega, rfl, has_next HY.out HNO.out HN.out, rfl⟩
    · have hke : k = l.length := by omega
      subst hke
      have HF := Lib.hid (show l.contains x = false by have := HNO.out; rwa [List.take_length] at this)
      go_wp2
      go_ret
      exact ⟨_, rfl, by omega, by omega, by rw [HF.out]; rfl, rfl⟩

theorem idxI (v : Value) (l : List Int) (x : Int) (w : World) (h : IntsR w v l) (hn : l.length ≤ 1000000) :
    Calls Try.prog 39 #[v, .int .i64 x] w fun e w' => ∃ i : Int, e = .returned (.int .i64 i) ∧ -1 ≤ i ∧ i ≤ 1000000 ∧ decide (0 ≤ i) = l.contains x ∧ w = w' := by
  obtain ⟨A, c, rfl, hc⟩ := h
  have HC := Lib.hid hc
  clear hc
  go_enter Try.func39, Try.ntmps39
  go_wp2
  go_loopg [8] l.length (fun g s8 wr => ∃ k : Nat, s8 = .int .i64 k ∧ k ≤ l.length ∧ g = l.length - k ∧ (l.take k).contains x = false ∧ w = wr)
  case atStart => exact ⟨0, rfl, Nat.zero_le _, rfl, rfl, rfl⟩
  case round =>
    obtain ⟨k, rfl, hk, rfl, hno, rfl⟩ := hrel
    have HNO := Lib.hid hno
    clear hno
    by_cases hlt : k < l.length
    · obtain ⟨y, hy⟩ : ∃ y, l[k]? = some y := ⟨_, List.getElem?_eq_getElem hlt⟩
      obtain ⟨ad, rfl, c0⟩ := HC.out k y hy
      have HY := Lib.hid hy
      clear hy
      by_cases hxy : x = y
      · subst hxy
        go_wp2
        go_ret
        exact ⟨_, rfl, by omega, by omega, by rw [has_at HY.out]; simp, rfl⟩
      · have hne : (x == y) = false := by simpa using hxy
        have HN := Lib.hid hxy
        clear hxy
        go_wp2
        go_roundg (l.length - (k + 1))
        case measure => omega
        case rel => exact ⟨k + 1, by go_num, by omega, rfl, has_next HY.out HNO.out HN.out, rfl⟩
    · have hke : k = l.length := by omega
      subst hke
      have HF := Lib.hid (show l.contains x = false by have := HNO.out; rwa [List.take_length] at this)
      go_wp2
      go_ret
      exact ⟨_, rfl, by omega, by omega, by rw [HF.out]; rfl, rfl⟩

theorem conB (v : Value) (l : List Bool) (x : Bool) (w : World) (h : BoolsR w v l) (hn : l.length ≤ 1000000) :
    Calls Try.prog 38 #[v, .bool x] w fun e w' => e = .returned (.bool (l.contains x)) ∧ w = w' := by
  have H := Lib.hid (idxB v l x w h hn)
  obtain ⟨R, hR⟩ : ∃ R, l.contains x = R := ⟨_, rfl⟩
  rw [hR] at H ⊢
  clear hR
  obtain ⟨A, c, rfl, -⟩ := h
  go_enter Try.func38, Try.ntmps38
  go_wp2_with fail
  refine H.out.mono ?_
  rintro e w' ⟨i, rfl, h0, h1, hi, rfl⟩
  by_cases hp : 0 ≤ i
  · have HI := Lib.hid hi
    clear hi
    go_wp2
    go_ret
    exact ⟨ret_bool (by first | exact HI.out | (rw [← HI.out]; simp [hp])), rfl⟩
  · have HI := Lib.hid hi
    clear hi
    go_wp2
    go_ret
    exact ⟨ret_bool (by first | exact HI.out | (rw [← HI.out]; simp [hp])), rfl⟩

theorem conI (v : Value) (l : List Int) (x : Int) (w : World) (h : IntsR w v l) (hn : l.length ≤ 1000000) :
    Calls Try.prog 29 #[v, .int .i64 x] w fun e w' => e = .returned (.bool (l.contains x)) ∧ w = w' := by
  have H := Lib.hid (idxI v l x w h hn)
  obtain ⟨R, hR⟩ : ∃ R, l.contains x = R := ⟨_, rfl⟩
  rw [hR] at H ⊢
  clear hR
  obtain ⟨A, c, rfl, -⟩ := h
  go_enter Try.func29, Try.ntmps29
  go_wp2_with fail
  refine H.out.mono ?_
  rintro e w' ⟨i, rfl, h0, h1, hi, rfl⟩
  by_cases hp : 0 ≤ i
  · have HI := Lib.hid hi
    clear hi
    go_wp2
    go_ret
    exact ⟨ret_bool (by first | exact HI.out | (rw [← HI.out]; simp [hp])), rfl⟩
  · have HI := Lib.hid hi
    clear hi
    go_wp2
    go_ret
    exact ⟨ret_bool (by first | exact HI.out | (rw [← HI.out]; simp [hp])), rfl⟩

theorem anyOf_any (v : Value) (l : List Bool) (w : World) (h : BoolsR w v l) (hn : l.length ≤ 1000000) :
    Calls Try.prog 28 #[v] w fun e w' => e = .returned (.bool (l.contains true)) ∧ w = w' := by
  have H := Lib.hid (conB v l true w h hn)
  obtain ⟨R, hR⟩ : ∃ R, l.contains true = R := ⟨_, rfl⟩
  rw [hR] at H ⊢
  clear hR
  obtain ⟨A, c, rfl, -⟩ := h
  go_enter Try.func28, Try.ntmps28
  go_wp2_with fail
  refine H.out.mono ?_
  rintro e w' ⟨rfl, rfl⟩
  go_wp2
  go_ret
  exact ⟨rfl, rfl⟩
end Go.Proofs.Ytnbpglaklhfgmaa
