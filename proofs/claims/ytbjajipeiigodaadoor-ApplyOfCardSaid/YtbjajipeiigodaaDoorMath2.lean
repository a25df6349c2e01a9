/-
  Plain mathematics: texts with a comma between have the clauses of both.
-/
import Derived.Test.YtbjajipeiigodaaDoorMath
namespace Go.Proofs.YtbjajipeiigodaaDoor
open Go

theorem pieces_comma (s t : List UInt8) : pieces (s ++ 44 :: t) = pieces s ++ pieces t := by
  induction s with
  | nil => simp [pieces]
  | cons c r ih =>
    rw [List.cons_append, pieces, pieces, ih]
    by_cases hc : c = 44
    · rw [if_pos hc, if_pos hc]; rfl
    · rw [if_neg hc, if_neg hc]
      cases h : pieces r with
      | nil => exact absurd h (pieces_ne r)
      | cons p ps => rfl
theorem allC_append (a b : List (List UInt8)) : allC (a ++ b) = (allC a).bind fun x => (allC b).map (x ++ ·) := by
  induction a with
  | nil => rw [List.nil_append, allC]; simp
  | cons p ps ih =>
    rw [List.cons_append, allC, allC, ih]
    cases oneC p with
    | none => rfl
    | some c =>
      cases allC ps with
      | none => rfl
      | some x => simp [Option.map_map]; rfl
theorem parseC_comma (s t : List UInt8) : parseC (s ++ 44 :: t) = (parseC s).bind fun x => (parseC t).map (x ++ ·) := by
  unfold parseC
  rw [pieces_comma, allC_append]
theorem allC_ne {ps : List (List UInt8)} {cs : List CC} (h : allC ps = some cs) (hp : ps ≠ []) : cs ≠ [] := by
  cases ps with
  | nil => exact absurd rfl hp
  | cons p ps =>
    rw [allC] at h
    cases ho : oneC p with
    | none => rw [ho] at h; cases h
    | some c =>
      rw [ho] at h
      simp only [Option.map_eq_some_iff] at h
      obtain ⟨x, _, rfl⟩ := h
      simp
theorem parseC_ne {s : List UInt8} {cs : List CC} (h : parseC s = some cs) : cs ≠ [] := allC_ne h (pieces_ne s)
theorem allC_len : ∀ {ps : List (List UInt8)} {cs : List CC}, allC ps = some cs → cs.length = ps.length
  | [], cs, h => by rw [allC] at h; injection h with h; rw [← h]; rfl
  | p :: ps, cs, h => by
    rw [allC] at h
    cases ho : oneC p with
    | none => rw [ho] at h; cases h
    | some c =>
      rw [ho] at h
      simp only [Option.map_eq_some_iff] at h
      obtain ⟨x, hx, rfl⟩ := h
      rw [List.length_cons, allC_len hx, List.length_cons]
/-- A clause has no more acts than its text has letters. -/
theorem oneC_acts {p : List UInt8} {c : CC} (h : oneC p = some c) : c.acts.length ≤ p.length := by
  unfold oneC at h
  simp only [Option.map_eq_some_iff] at h
  obtain ⟨al, ha, rfl⟩ := h
  obtain ⟨pre, hpre⟩ := whoF_suffix p 0
  have h1 := congrArg List.length hpre
  rw [List.length_append] at h1
  cases hr : (whoF 0 p).2 with
  | nil => rw [hr] at ha; cases ha
  | cons d r =>
    rw [hr] at ha h1
    rw [acts] at ha
    split at ha
    · have := actsF_len _ _ _ ha
      simp at h1 ⊢
      omega
    · cases ha
theorem allC_acts : ∀ {ps : List (List UInt8)} {cs : List CC} {n : Nat}, allC ps = some cs → (∀ p ∈ ps, p.length ≤ n) → ∀ c ∈ cs, c.acts.length ≤ n
  | [], cs, n, h, _ => by rw [allC] at h; injection h with h; rw [← h]; simp
  | p :: ps, cs, n, h, hp => by
    rw [allC] at h
    cases ho : oneC p with
    | none => rw [ho] at h; cases h
    | some c =>
      rw [ho] at h
      simp only [Option.map_eq_some_iff] at h
      obtain ⟨x, hx, rfl⟩ := h
      intro d hd
      rcases List.mem_cons.1 hd with rfl | hd
      · exact Nat.le_trans (oneC_acts ho) (hp p (List.mem_cons_self ..))
      · exact allC_acts hx (fun q hq => hp q (List.mem_cons_of_mem _ hq)) d hd
end Go.Proofs.YtbjajipeiigodaaDoor
