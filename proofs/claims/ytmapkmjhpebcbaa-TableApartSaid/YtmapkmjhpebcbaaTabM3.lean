/-
  What is put, added and dropped, and how many nodes there are then, as plain mathematics. No condition.
-/
import Derived.Test.YtmapkmjhpebcbaaTabM2
namespace Go.Proofs.Ytmapkmjhpebcbaa
open Go Go.RowKit

theorem tis_in {t : List Nd} {i : Int} (h : tis t i = true) : 1 ≤ i ∧ i ≤ t.length := by
  by_cases q : 1 ≤ i ∧ i ≤ t.length
  · exact q
  · rw [tis, tget_out q] at h
    exact absurd rfl (of_decide_eq_true h)
theorem tis_set {t : List Nd} {i j : Int} {n : Nd} (h : 1 ≤ i ∧ i ≤ t.length) : tis (setT t i n) j = if j = i then decide (n.kind ≠ 0) else tis t j := by
  unfold tis
  rw [tget_set h]
  split <;> rfl
theorem used_setT {t : List Nd} {i : Int} (h : 1 ≤ i ∧ i ≤ t.length) (n : Nd) : usedT (setT t i n) + (if tis t i = true then 1 else 0) = usedT t + if n.kind ≠ 0 then 1 else 0 := by
  have hk : (i - 1).toNat < t.length := by omega
  have h1 := used_set hk n
  have h2 := tget_at hk
  rw [show (((i - 1).toNat : Nat) : Int) + 1 = i by omega] at h2
  unfold tis setT
  rw [h2]
  simp only [decide_eq_true_eq]
  exact h1
/-- A node that is added: its number is the least one that is free. -/
theorem free_is {t : List Nd} (h : freeT t 0 ≠ 0) : (1 ≤ (freeT t 0 : Int) ∧ (freeT t 0 : Int) ≤ t.length) ∧ tis t (freeT t 0) = false ∧ ∀ j : Int, 1 ≤ j → j < freeT t 0 → tis t j = true := by
  obtain ⟨k, hk, h1, h2, h3⟩ := free_some h
  have e : ((freeT t 0 : Nat) : Int) = (k : Int) + 1 := by omega
  refine ⟨by omega, ?_, fun j hj hj2 => ?_⟩
  · rw [e, tis, tget_at hk]
    exact decide_eq_false (fun q => q h2)
  · have hl : (j - 1).toNat < k := by omega
    have e2 : j = (((j - 1).toNat : Nat) : Int) + 1 := by omega
    rw [e2, tis, tget_at (by omega)]
    exact decide_eq_true (h3 _ hl)
theorem used_add {t : List Nd} (h : freeT t 0 ≠ 0) {n : Nd} (hn : rightP n) : usedT (setT t (freeT t 0) n) = usedT t + 1 := by
  obtain ⟨h1, h2, _⟩ := free_is h
  have := used_setT h1 n
  rw [if_neg (by rw [h2]; exact Bool.false_ne_true), if_pos (right_kind hn)] at this
  exact this
theorem used_drop {t : List Nd} {i : Int} (h : tis t i = true) : usedT (setT t i Nd.zero) + 1 = usedT t := by
  have := used_setT (tis_in h) Nd.zero
  rw [if_pos h, if_neg (fun q => q rfl)] at this
  exact this
theorem used_put {t : List Nd} {i : Int} (h : tis t i = true) {n : Nd} (hn : rightP n) : usedT (setT t i n) = usedT t := by
  have := used_setT (tis_in h) n
  rw [if_pos h, if_pos (right_kind hn)] at this
  omega
theorem used_le (t : List Nd) : usedT t ≤ t.length := List.countP_le_length
theorem used_new (r : Nat) : usedT (List.replicate r Nd.zero) = 0 := by
  unfold usedT
  refine List.countP_eq_zero.2 (fun n hn => ?_)
  rw [List.eq_of_mem_replicate hn]
  exact fun q => of_decide_eq_true q rfl
theorem tget_new (r : Nat) (i : Int) : tget (List.replicate r Nd.zero) i = Nd.zero := by
  rcases (show (1 ≤ i ∧ i ≤ (List.replicate r Nd.zero).length) ∨ ¬ (1 ≤ i ∧ i ≤ (List.replicate r Nd.zero).length) from Classical.em _) with q | q
  · have e : i = (((i - 1).toNat : Nat) : Int) + 1 := by omega
    rw [e, tget_at (by omega), List.getElem_replicate]
  · exact tget_out q
theorem tis_new (r : Nat) (i : Int) : tis (List.replicate r Nd.zero) i = false := by
  rw [tis, tget_new]
  rfl
/-- One act: 0 puts, 1 adds, another one drops; r: may the node be? -/
def actT (t : List Nd) (d i : Int) (n : Nd) (r : Bool) : List Nd :=
  if d = 0 then (if tis t i = true ∧ r = true then setT t i n else t)
  else if d = 1 then (if r = true ∧ freeT t 0 ≠ 0 then setT t (freeT t 0) n else t)
  else if tis t i = true then setT t i Nd.zero else t
theorem ok_setT {t : List Nd} (h : okT t) (i : Int) {n : Nd} (hn : n = Nd.zero ∨ rightP n) : okT (setT t i n) := ok_set h _ hn
theorem ok_act {t : List Nd} (h : okT t) {d i : Int} {n : Nd} {r : Bool} (hr : r = true → rightP n) : okT (actT t d i n r) := by
  unfold actT
  repeat' split
  · rename_i q; exact ok_setT h i (Or.inr (hr q.2))
  · exact h
  · rename_i q; exact ok_setT h _ (Or.inr (hr q.1))
  · exact h
  · exact ok_setT h i (Or.inl rfl)
  · exact h
theorem len_act (t : List Nd) (d i : Int) (n : Nd) (r : Bool) : (actT t d i n r).length = t.length := by
  unfold actT
  repeat' split
  all_goals first | exact len_setT .. | rfl
/-- Two tables are the same, by number. -/
def sameT (t u : List Nd) : Prop := ∀ i : Int, tget t i = tget u i
theorem same_24 {t u : List Nd} (ht : t.length ≤ 24) (hu : u.length ≤ 24) : sameT t u ↔ ∀ k : Nat, k < 24 → tget t (k + 1) = tget u (k + 1) := by
  constructor
  · intro h k _; exact h _
  · intro h i
    by_cases q : 1 ≤ i ∧ i ≤ 24
    · have := h (i - 1).toNat (by omega)
      rwa [show (((i - 1).toNat : Nat) : Int) + 1 = i by omega] at this
    · rw [tget_out (by omega), tget_out (by omega)]
/-- Flags of what is used, as TableLeast keeps them. -/
def flagT (t : List Nd) (k : Nat) : Bool := tis t k
theorem flag_add {t : List Nd} (h : freeT t 0 ≠ 0) {n : Nd} (hn : rightP n) (k : Nat) : flagT (setT t (freeT t 0) n) k = if k = freeT t 0 then true else flagT t k := by
  unfold flagT
  rw [tis_set (free_is h).1]
  by_cases q : k = freeT t 0
  · rw [if_pos (by rw [q]), if_pos q]; exact decide_eq_true (right_kind hn)
  · rw [if_neg (by omega), if_neg q]
theorem flag_drop {t : List Nd} {i : Int} (h : tis t i = true) (k : Nat) : flagT (setT t i Nd.zero) k = if (k : Int) = i then false else flagT t k := by
  unfold flagT
  rw [tis_set (tis_in h)]
  split
  · rfl
  · rfl
end Go.Proofs.Ytmapkmjhpebcbaa
