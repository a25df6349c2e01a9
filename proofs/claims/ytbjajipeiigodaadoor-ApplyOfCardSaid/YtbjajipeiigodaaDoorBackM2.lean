/-
  Plain mathematics of the way back: what is parsed may be, and is shown as a text that is no longer.
-/
import Derived.Test.YtbjajipeiigodaaDoorBackM
namespace Go.Proofs.YtbjajipeiigodaaDoor
open Go

theorem whoR_cases (r : Int) : whoR r = 0 ∨ whoR r = 1 ∨ whoR r = 2 ∨ whoR r = 4 ∨ whoR r = 7 := by
  unfold whoR
  repeat' split
  all_goals simp
theorem who_or : ∀ k : Fin 8, ∀ x : Fin 8, 0 ≤ bits .or .i64 (k.val : Int) (x.val : Int) ∧ bits .or .i64 (k.val : Int) (x.val : Int) ≤ 7 := by decide +kernel
theorem who_len : ∀ k : Fin 8, ∀ x : Fin 8, (x.val = 1 ∨ x.val = 2 ∨ x.val = 4 ∨ x.val = 7) → (whoL (bits .or .i64 (k.val : Int) (x.val : Int))).length ≤ (whoL (k.val : Int)).length + 1 := by decide +kernel
theorem whoF_good : ∀ (l : List UInt8) (w : Int), 0 ≤ w → w ≤ 7 → 0 ≤ (whoF w l).1 ∧ (whoF w l).1 ≤ 7 ∧ (whoL (whoF w l).1).length + (whoF w l).2.length ≤ (whoL w).length + l.length
  | [], w, h0, h1 => ⟨h0, h1, by simp [whoF]⟩
  | c :: l, w, h0, h1 => by
    rw [whoF]
    split
    · exact ⟨h0, h1, by simp⟩
    · rename_i hz
      obtain ⟨k, rfl⟩ := Int.eq_ofNat_of_zero_le h0
      obtain ⟨x, hx, hx4⟩ : ∃ x : Fin 8, whoR (co c) = (x.val : Int) ∧ (x.val = 1 ∨ x.val = 2 ∨ x.val = 4 ∨ x.val = 7) := by
        rcases whoR_cases (co c) with h | h | h | h | h
        · exact absurd h hz
        · exact ⟨1, h, .inl rfl⟩
        · exact ⟨2, h, .inr (.inl rfl)⟩
        · exact ⟨4, h, .inr (.inr (.inl rfl))⟩
        · exact ⟨7, h, .inr (.inr (.inr rfl))⟩
      rw [hx]
      have hb := who_or ⟨k, by omega⟩ x
      have hl := who_len ⟨k, by omega⟩ x hx4
      simp only at hb hl
      have ih := whoF_good l _ hb.1 hb.2
      refine ⟨ih.1, ih.2.1, ?_⟩
      have := ih.2.2
      rw [List.length_cons]
      omega
theorem perR_cases (r : Int) : perR r = 0 ∨ perR r = 1 ∨ perR r = 2 ∨ perR r = 4 ∨ perR r = 8 ∨ perR r = 16 ∨ perR r = 32 := by
  unfold perR
  repeat' split
  all_goals simp
theorem per_or : ∀ k : Fin 64, ∀ x : Fin 64, (x.val = 1 ∨ x.val = 2 ∨ x.val = 4 ∨ x.val = 8 ∨ x.val = 16 ∨ x.val = 32) → 0 ≤ bits .or .i64 (k.val : Int) (x.val : Int) ∧ bits .or .i64 (k.val : Int) (x.val : Int) ≤ 63 ∧ (perP (bits .or .i64 (k.val : Int) (x.val : Int)) 6).length ≤ (perP (k.val : Int) 6).length + 1 := by decide +kernel
theorem copR_cases (r : Int) : copR r = 0 ∨ copR r = 1 ∨ copR r = 2 ∨ copR r = 3 := by
  unfold copR
  repeat' split
  all_goals simp
theorem ract_iff (a : CA) : ract a = true ↔ sgR (co a.op) = true ∧ 0 ≤ a.perms ∧ a.perms ≤ 63 ∧ 0 ≤ a.copy ∧ a.copy ≤ 3 ∧ (a.perms = 0 ∨ a.copy = 0) := by
  simp only [ract, Bool.and_eq_true, decide_eq_true_eq, Bool.or_eq_true, beq_iff_eq]
  constructor
  · rintro ⟨⟨⟨⟨⟨h0, h1⟩, h2⟩, h3⟩, h4⟩, h5⟩
    exact ⟨h0, h1, h2, h3, h4, h5⟩
  · rintro ⟨h0, h1, h2, h3, h4, h5⟩
    exact ⟨⟨⟨⟨⟨h0, h1⟩, h2⟩, h3⟩, h4⟩, h5⟩
theorem wl_good {a b : CA} {r : Int} (ha : ract a = true) (h : wl a r = some b) : ract b = true ∧ (actL b).length ≤ (actL a).length + 1 := by
  obtain ⟨op, perms, copy⟩ := a
  rw [ract_iff] at ha
  simp only at ha
  obtain ⟨h0, h1, h2, h3, h4, h5⟩ := ha
  unfold wl at h
  simp only at h
  split at h
  · cases h
  · rename_i hc
    have hc0 : copy = 0 := by omega
    subst hc0
    split at h
    · rename_i hp
      injection h with h
      subst h
      obtain ⟨k, rfl⟩ := Int.eq_ofNat_of_zero_le h1
      obtain ⟨x, hx, hx6⟩ : ∃ x : Fin 64, perR r = (x.val : Int) ∧ (x.val = 1 ∨ x.val = 2 ∨ x.val = 4 ∨ x.val = 8 ∨ x.val = 16 ∨ x.val = 32) := by
        rcases perR_cases r with h | h | h | h | h | h | h
        · exact absurd h hp
        · exact ⟨1, h, by decide⟩
        · exact ⟨2, h, by decide⟩
        · exact ⟨4, h, by decide⟩
        · exact ⟨8, h, by decide⟩
        · exact ⟨16, h, by decide⟩
        · exact ⟨32, h, by decide⟩
      rw [hx]
      have hb := per_or ⟨k, by omega⟩ x hx6
      simp only at hb
      refine ⟨(ract_iff _).2 ⟨h0, hb.1, hb.2.1, by simp, by simp, .inr rfl⟩, ?_⟩
      simp only [actL, List.length_cons]
      simp only [ne_eq, not_true_eq_false, if_false]
      omega
    · split at h
      · rename_i hq
        injection h with h
        subst h
        refine ⟨(ract_iff _).2 ⟨h0, h1, h2, ?_, ?_, .inl hq.2⟩, ?_⟩
        · simp only
          rcases copR_cases r with h | h | h | h <;> omega
        · simp only
          rcases copR_cases r with h | h | h | h <;> omega
        · simp only [actL, List.length_cons]
          rw [if_pos hq.1]
          simp
      · cases h
theorem new_len (c : UInt8) : (actL ⟨c, 0, 0⟩).length = 1 := by
  have h : perP 0 6 = [] := by decide +kernel
  simp [actL, h]
theorem actsF_good : ∀ (l : List UInt8) (cur : CA) (al : List CA), ract cur = true → actsF cur l = some al → al.all ract = true ∧ (al.flatMap actL).length ≤ (actL cur).length + l.length
  | [], cur, al, hc, h => by
    rw [actsF] at h
    injection h with h
    subst h
    simp [hc]
  | c :: l, cur, al, hc, h => by
    rw [actsF] at h
    split at h
    · rename_i hs
      simp only [Option.map_eq_some_iff] at h
      obtain ⟨al', h', rfl⟩ := h
      have hn : ract ⟨c, 0, 0⟩ = true := (ract_iff _).2 ⟨hs, by simp, by simp, by simp, by simp, .inl rfl⟩
      have ih := actsF_good l _ al' hn h'
      have hl : (actL ⟨c, 0, 0⟩).length = 1 := new_len c
      refine ⟨by rw [List.all_cons, hc, ih.1]; rfl, ?_⟩
      rw [List.flatMap_cons, List.length_append, List.length_cons]
      have := ih.2
      omega
    · split at h
      · cases h
      · rename_i a' hw
        have hg := wl_good hc hw
        have ih := actsF_good l a' al hg.1 h
        refine ⟨ih.1, ?_⟩
        have := ih.2
        rw [List.length_cons]
        omega
theorem one_good {p : List UInt8} {c : CC} (h : oneC p = some c) : clOk c = true ∧ (clL c).length ≤ p.length := by
  unfold oneC at h
  simp only [Option.map_eq_some_iff] at h
  obtain ⟨al, ha, rfl⟩ := h
  have hw := whoF_good p 0 (by decide) (by decide)
  have hne := acts_ne ha
  cases hr : (whoF 0 p).2 with
  | nil => rw [hr] at ha; cases ha
  | cons d r =>
    rw [hr] at ha hw
    rw [acts] at ha
    split at ha
    · rename_i hs
      have hn : ract ⟨d, 0, 0⟩ = true := (ract_iff _).2 ⟨hs, by simp, by simp, by simp, by simp, .inl rfl⟩
      have hg := actsF_good r _ al hn ha
      have hl : (actL ⟨d, 0, 0⟩).length = 1 := new_len d
      have hz : (whoL 0).length = 0 := rfl
      refine ⟨?_, ?_⟩
      · simp only [clOk, Bool.and_eq_true, decide_eq_true_eq]
        exact ⟨⟨⟨hw.1, hw.2.1⟩, by cases al <;> simp_all⟩, hg.1⟩
      · simp only [clL, List.length_append]
        have h1 := hw.2.2
        have h2 := hg.2
        rw [List.length_cons] at h1
        omega
    · cases ha
/-- How long texts with commas between are. -/
def lenT (ps : List (List UInt8)) : Nat := (ps.map (·.length + 1)).sum
theorem pieces_sum : ∀ l : List UInt8, lenT (pieces l) = l.length + 1
  | [] => rfl
  | c :: l => by
    rw [pieces]
    have ih := pieces_sum l
    split
    · simp only [lenT, List.map_cons, List.sum_cons, List.length_nil, List.length_cons] at ih ⊢
      omega
    · split
      · rename_i h
        exact absurd h (pieces_ne l)
      · rename_i h
        rw [h] at ih
        simp only [lenT, List.map_cons, List.sum_cons, List.length_cons] at ih ⊢
        omega
theorem all_good : ∀ (ps : List (List UInt8)) (cs : List CC), allC ps = some cs → cs.all clOk = true ∧ (showT false cs).length ≤ lenT ps
  | [], cs, h => by
    rw [allC] at h
    injection h with h
    subst h
    simp [showT]
  | p :: ps, cs, h => by
    rw [allC] at h
    cases ho : oneC p with
    | none => rw [ho] at h; cases h
    | some c =>
      rw [ho] at h
      simp only [Option.map_eq_some_iff] at h
      obtain ⟨cs', h', rfl⟩ := h
      have hg := one_good ho
      have ih := all_good ps cs' h'
      refine ⟨by rw [List.all_cons, hg.1, ih.1]; rfl, ?_⟩
      have h1 := hg.2
      have h2 := ih.2
      simp only [showT, lenT, List.map_cons, List.sum_cons, List.length_append] at h2 ⊢
      simp
      omega
theorem showT_first {c : CC} {cs : List CC} : (showT false (c :: cs)).length = (showT true (c :: cs)).length + 1 := by
  simp [showT]
/-- What is parsed may be. -/
theorem parse_right {l : List UInt8} {cs : List CC} (h : parseC l = some cs) : rightC cs = true := by
  have hg := all_good _ cs h
  have hn := parseC_ne h
  rw [rightC, hg.1]
  cases cs with
  | nil => exact absurd rfl hn
  | cons c cs => rfl
/-- What is parsed is shown as a text that is no longer. -/
theorem parse_len {l : List UInt8} {cs : List CC} (h : parseC l = some cs) : (showC cs).length ≤ l.length := by
  have hg := all_good _ cs h
  have hn := parseC_ne h
  rw [showC, if_pos (parse_right h)]
  have h1 := hg.2
  rw [pieces_sum] at h1
  cases cs with
  | nil => exact absurd rfl hn
  | cons c cs =>
    rw [showT_first] at h1
    omega
end Go.Proofs.YtbjajipeiigodaaDoor
