/-
  Entries that are put in, in whatever order, as plain mathematics. No condition.
-/
import Derived.Test.YtibmnafnandodaaNodeM2
namespace Go.Proofs.Ytibmnafnandodaa
open Go Go.RowKit

/-- Names with one more, if it may be one, is new, and there is room. -/
def addN (l : List Nm) (n : Nm) : List Nm := if nok n = true ∧ ¬ n ∈ l ∧ l.length < 8 then insN n l else l
/-- There is no room, but for it it would be put in. -/
def fullN (l : List Nm) (n : Nm) : Prop := nok n = true ∧ ¬ n ∈ l ∧ 8 ≤ l.length
/-- Names as they are put in so far, of those seen. -/
structure PutP (seen l : List Nm) : Prop where
  up : rise l
  small : l.length ≤ 8
  sub : ∀ x ∈ l, nok x = true ∧ x ∈ seen
theorem PutP.nil : PutP [] [] := ⟨List.Pairwise.nil, by decide, fun x h => by cases h⟩
theorem PutP.add {seen l : List Nm} (h : PutP seen l) (n : Nm) : PutP (seen ++ [n]) (addN l n) := by
  unfold addN
  split
  · rename_i hc
    refine ⟨rise_insN h.up hc.2.1, by rw [len_insN]; omega, fun x hx => ?_⟩
    rcases (mem_insN n x l).1 hx with rfl | hx
    · exact ⟨hc.1, by simp⟩
    · exact ⟨(h.sub x hx).1, by simp [(h.sub x hx).2]⟩
  · exact ⟨h.up, h.small, fun x hx => ⟨(h.sub x hx).1, by simp [(h.sub x hx).2]⟩⟩
/-- All that may be put in is there. -/
def AllP (seen l : List Nm) : Prop := ∀ x ∈ seen, nok x = true → x ∈ l
theorem mem_addN {l : List Nm} {n x : Nm} (h : x ∈ l) : x ∈ addN l n := by
  unfold addN
  split
  · exact (mem_insN n x l).2 (.inr h)
  · exact h
theorem AllP.add {seen l : List Nm} (h : AllP seen l) {n : Nm} (hf : ¬ fullN l n) : AllP (seen ++ [n]) (addN l n) := by
  intro x hx hok
  rcases List.mem_append.1 hx with hx | hx
  · exact mem_addN (h x hx hok)
  · rw [List.mem_singleton] at hx
    subst hx
    by_cases hm : x ∈ l
    · exact mem_addN hm
    · have hl : l.length < 8 := by
        by_cases h8 : 8 ≤ l.length
        · exact absurd ⟨hok, hm, h8⟩ hf
        · omega
      unfold addN
      rw [if_pos ⟨hok, hm, hl⟩]
      exact (mem_insN x x l).2 (.inl rfl)
theorem nodup_len : ∀ {l a : List Nm}, l.Nodup → (∀ x ∈ l, x ∈ a) → l.length ≤ a.length
  | [], _, _, _ => Nat.zero_le _
  | x :: l, a, hn, hs => by
    obtain ⟨h1, h2⟩ := List.nodup_cons.1 hn
    have hx : x ∈ a := hs x (List.mem_cons_self ..)
    have ih := nodup_len (a := a.erase x) h2 (fun y hy => (List.mem_erase_of_ne (fun e => h1 (by rw [← e]; exact hy))).2 (hs y (List.mem_cons_of_mem _ hy)))
    rw [List.length_erase_of_mem hx] at ih
    have := List.length_pos_of_mem hx
    rw [List.length_cons]
    omega
/-- Where others are all there, there is room for each of them. -/
theorem room {seen s2 a b : List Nm} (ha : PutP seen a) (hall : AllP seen a) (hb : PutP s2 b) (hs : ∀ x ∈ s2, x ∈ seen) {n : Nm} (hn : n ∈ seen) : ¬ fullN b n := by
  rintro ⟨hok, hm, h8⟩
  have hsub : ∀ x ∈ n :: b, x ∈ a := by
    intro x hx
    rcases List.mem_cons.1 hx with rfl | hx
    · exact hall x hn hok
    · exact hall x (hs x (hb.sub x hx).2) (hb.sub x hx).1
  have hnd : (n :: b).Nodup := List.nodup_cons.2 ⟨hm, rise_nodup hb.up⟩
  have h1 : (n :: b).length ≤ a.length := by
    exact nodup_len hnd hsub
  have := ha.small
  rw [List.length_cons] at h1
  omega
/-- Two lists of what is put in, all of it, are one. -/
theorem put_same {seen s2 a b : List Nm} (ha : PutP seen a) (hall : AllP seen a) (hb : PutP s2 b) (hall2 : AllP s2 b) (hs : ∀ x, x ∈ s2 ↔ x ∈ seen) : a = b := by
  refine rise_ext ha.up hb.up (fun x => ⟨fun hx => ?_, fun hx => ?_⟩)
  · exact hall2 x ((hs x).2 (ha.sub x hx).2) (ha.sub x hx).1
  · exact hall x ((hs x).1 (hb.sub x hx).2) (hb.sub x hx).1
/-- The names in turn, begun at another place. -/
def turnd (l : List Nm) (t k : Nat) : List Nm := (List.range k).map fun i => l.getD ((i + t) % l.length) []
theorem turnd_snoc (l : List Nm) (t k : Nat) : turnd l t (k + 1) = turnd l t k ++ [l.getD ((k + t) % l.length) []] := by
  rw [turnd, List.range_succ, List.map_append]
  rfl
theorem mem_turnd {l : List Nm} (t : Nat) {k : Nat} {x : Nm} (h : x ∈ turnd l t k) (hl : 0 < l.length) : x ∈ l := by
  obtain ⟨i, _, rfl⟩ := List.mem_map.1 h
  have hlt := Nat.mod_lt (i + t) hl
  rw [List.getD_eq_getElem?_getD, List.getElem?_eq_getElem hlt]
  exact List.getElem_mem ..
theorem turnd_all {l : List Nm} (t : Nat) (hl : 0 < l.length) (x : Nm) : x ∈ turnd l t l.length ↔ x ∈ l := by
  refine ⟨fun h => mem_turnd t h hl, fun h => ?_⟩
  obtain ⟨j, hj, rfl⟩ := List.mem_iff_getElem.1 h
  refine List.mem_map.2 ⟨(j + (l.length - t % l.length)) % l.length, List.mem_range.2 (Nat.mod_lt _ hl), ?_⟩
  have ht := Nat.mod_lt t hl
  have e : ((j + (l.length - t % l.length)) % l.length + t) % l.length = j := by
    rw [Nat.mod_add_mod]
    have h2 : j + (l.length - t % l.length) + t = j + l.length * (t / l.length + 1) := by
      have h3 := Nat.div_add_mod t l.length
      rw [Nat.mul_add, Nat.mul_one]
      omega
    rw [h2, Nat.add_mul_mod_self_left, Nat.mod_eq_of_lt hj]
  rw [e, List.getD_eq_getElem?_getD, List.getElem?_eq_getElem hj]
  rfl
end Go.Proofs.Ytibmnafnandodaa
