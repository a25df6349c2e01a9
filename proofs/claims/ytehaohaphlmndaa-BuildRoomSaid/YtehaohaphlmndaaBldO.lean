/-
  What is told is built alike, whatever the room, as plain mathematics. No condition.
-/
import Derived.Test.YtehaohaphlmndaaBldR
namespace Go.Proofs.Ytehaohaphlmndaa
open Go Go.RowKit
set_option maxRecDepth 100000

theorem same_tis {t u : List Nd} (h : sameT t u) (i : Int) : tis t i = tis u i := by unfold tis; rw [h i]
theorem same_used {t u : List Nd} (h : sameT t u) (ht : Trx t) (hu : Trx u) : usedT t = usedT u := by
  have h1 : ∀ {a b : List Nd}, sameT a b → Trx a → Trx b → usedT a ≤ usedT b := fun {a b} h ha hb => by
    by_cases q : usedT a = 0
    · omega
    · have := (ha.num (usedT a)).2 ⟨by omega, Int.le_refl _⟩
      rw [same_tis h] at this
      have := (hb.num _).1 this
      omega
  exact Nat.le_antisymm (h1 h ht hu) (h1 (fun i => (h i).symm) hu ht)
theorem same_room {t u : List Nd} {r : Rw} (h : sameT t u) (ht : Trx t) (hu : Trx u) (hz : blE t r = 0) :
    ((r.kind = 4 ∨ freeT u 0 ≠ 0) → blE u r = 0 ∧ sameT (blT t r) (blT u r)) ∧ (¬ (r.kind = 4 ∨ freeT u 0 ≠ 0) → blE u r = 28 ∧ u.length = usedT t) := by
  obtain ⟨hp, he, hw⟩ := bl_zero.1 hz
  have hpu : tis u r.parent = true := by rw [← same_tis h]; exact hp
  have hpl := tis_in hp
  have hpl2 := tis_in hpu
  constructor
  · intro hq
    have heu : enE u r = 0 := by
      rcases en_zero.1 he with ⟨h4, h5, h6⟩ | ⟨h4, h5, h6⟩
      · exact en_zero.2 (.inl ⟨h4, by rw [← same_tis h]; exact h5, by rw [← h r.node]; exact h6⟩)
      · rcases hq with hq | hq
        · exact absurd hq h4
        · exact en_zero.2 (.inr ⟨h4, h5, hq⟩)
    have hI : enI u r = enI t r := by
      unfold enI
      rw [if_pos he, if_pos heu]
      by_cases h4 : r.kind = 4
      · rw [if_pos h4, if_pos h4]
      · rw [if_neg h4, if_neg h4]
        rcases en_zero.1 he with h5 | h5
        · exact absurd h5.1 h4
        · rcases en_zero.1 heu with h6 | h6
          · exact absurd h6.1 h4
          · rw [free_at ht.num h5.2.2, free_at hu.num h6.2.2, same_used h ht hu]
    have hT : sameT (enT t r) (enT u r) := by
      unfold enT
      rw [if_pos he, if_pos heu]
      by_cases h4 : r.kind = 4
      · rw [if_pos h4, if_pos h4]; exact h
      · rw [if_neg h4, if_neg h4]
        rcases en_zero.1 he with h5 | h5
        · exact absurd h5.1 h4
        · rcases en_zero.1 heu with h6 | h6
          · exact absurd h6.1 h4
          · intro i
            have e : freeT u 0 = freeT t 0 := by rw [free_at ht.num h5.2.2, free_at hu.num h6.2.2, same_used h ht hu]
            rw [tget_set (free_is h5.2.2).1, tget_set (free_is h6.2.2).1, e, h i]
    refine ⟨bl_zero.2 ⟨hpu, heu, by rw [← h r.parent, hI]; exact hw⟩, fun i => ?_⟩
    unfold blT
    rw [tget_set (by rw [en_len]; exact hpl), tget_set (by rw [en_len]; exact hpl2), hI, ← h r.parent, hT i]
  · intro hq
    have h4 : ¬ r.kind = 4 := fun q => hq (.inl q)
    have hf : freeT u 0 = 0 := Classical.byContradiction (fun q => hq (.inr q))
    have h5 : rightP r.nd := by
      rcases en_zero.1 he with h5 | h5
      · exact absurd h5.1 h4
      · exact h5.2.1
    have heu : enE u r = 28 := by
      unfold enE addE
      rw [if_neg h4, toB_true h5, if_neg (by decide), if_pos hf]
    refine ⟨?_, by rw [same_used h ht hu]; exact (free_none.1 hf).symm⟩
    unfold blE
    rw [if_neg (by rw [hpu]; decide), heu, if_neg (by decide)]
theorem room_bld : ∀ (l : List Rw) (t u : List Nd) (k : Nat) (T : List Nd), sameT t u → Trx t → Trx u → bld t k l = .good T →
    (usedT T ≤ u.length → ∃ U, bld u k l = .good U ∧ sameT T U) ∧ (u.length < usedT T → ∃ j, bld u k l = .bad j 28 ∧ k ≤ j)
  | [], t, u, k, T, h, ht, hu, hb => by
    rw [bld] at hb
    injection hb with hb
    subst hb
    refine ⟨fun _ => ⟨u, rfl, h⟩, fun hl => ?_⟩
    have := used_le u
    have := same_used h ht hu
    omega
  | r :: l, t, u, k, T, h, ht, hu, hb => by
    rw [bld] at hb
    split at hb
    · rename_i hz
      obtain ⟨ht1, hus, -⟩ := tre_step ht hz
      have hmon := (tre_bld l _ _ T ht1 hb).2.1
      by_cases q : r.kind = 4 ∨ freeT u 0 ≠ 0
      · obtain ⟨h1, h2⟩ := (same_room h ht hu hz).1 q
        have hu1 := (tre_step hu h1).1
        have ih := room_bld l _ _ (k + 1) T h2 ht1 hu1 hb
        rw [bl_len] at ih
        rw [bld, if_pos h1]
        exact ⟨ih.1, fun hl => by obtain ⟨j, h3, h4⟩ := ih.2 hl; exact ⟨j, h3, by omega⟩⟩
      · obtain ⟨h1, h2⟩ := (same_room h ht hu hz).2 q
        have h4 : ¬ r.kind = 4 := fun z => q (.inl z)
        rw [if_neg h4] at hus
        refine ⟨fun hl => by omega, fun _ => ⟨k, ?_, Nat.le_refl _⟩⟩
        rw [bld, if_neg (by rw [h1]; decide), h1]
    · cases hb
theorem room_all {m m' : Int} {l : List Rw} {T : List Nd} (h : bldA m l = .good T) :
    (usedT T ≤ newL m' → ∃ U, bldA m' l = .good U ∧ sameT T U) ∧ (newL m' < usedT T → ∃ j, bldA m' l = .bad j 28 ∧ 1 ≤ j) := by
  cases l with
  | nil => cases h
  | cons r l =>
    rw [bldA] at h
    split at h
    · rename_i hz
      have hz' : rtE (newN m') r = 0 := by
        obtain ⟨h1, h2, h3, h4, -⟩ := rt_zero.1 hz
        exact rt_zero.2 ⟨h1, h2, h3, h4, by rw [new_free]; decide⟩
      have hs : sameT (rtT (newN m) r) (rtT (newN m') r) := fun i => by
        have a1 := newL_bd m
        have a2 := newL_bd m'
        unfold rtT
        rw [new_free, new_free, tget_set ⟨by decide, by rw [new_len]; omega⟩, tget_set ⟨by decide, by rw [new_len]; omega⟩]
        unfold newN
        rw [tget_new, tget_new]
      have ih := room_bld l _ _ 1 T hs (tre_root hz).1 (tre_root hz').1 h
      rw [rt_len, new_len] at ih
      rw [bldA, if_pos hz']
      exact ih
    · cases h
theorem newL_id {r : Int} (h1 : 1 ≤ r) (h2 : r ≤ 24) : (newL r : Int) = r := by
  unfold newL
  rw [if_neg (by omega), if_neg (by omega)]
  omega
theorem newL_up {r s : Int} (h1 : 1 ≤ r) (h2 : r ≤ 24) (h : r ≤ s) : r ≤ (newL s : Int) := by
  unfold newL
  rw [if_neg (by omega)]
  split
  · omega
  · omega
theorem same_sam {t u : List Nd} (h : sameT t u) : toB (sam24 u t) = true := toB_true (fun _ _ => (h _).symm)
end Go.Proofs.Ytehaohaphlmndaa
