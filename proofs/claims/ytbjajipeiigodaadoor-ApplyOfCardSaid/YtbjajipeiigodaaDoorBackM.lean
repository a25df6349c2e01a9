/-
  Plain mathematics of the way back: what is shown of clauses that may be is parsed as they were; what is parsed may be, and is shown as a text that is no longer.
-/
import Derived.Test.YtbjajipeiigodaaDoorShow
import Derived.Test.YtbjajipeiigodaaDoorMath2
import Derived.Test.YtbjajipeiigodaaDoorBit
namespace Go.Proofs.YtbjajipeiigodaaDoor
open Go

theorem per_letters (c : UInt8) (h : c ∈ [114, 119, 120, 88, 115, 116]) : perR (co c) ≠ 0 ∧ sgR (co c) = false ∧ c ≠ 44 := by
  simp only [List.mem_cons, List.mem_nil_iff, or_false] at h
  rcases h with rfl | rfl | rfl | rfl | rfl | rfl <;> decide
theorem perP_mem {n : Int} {k : Nat} {c : UInt8} (h : c ∈ perP n k) : c ∈ [114, 119, 120, 88, 115, 116] := List.mem_of_mem_take (List.mem_filter.1 h).1
def orF (q : Int) (l : List UInt8) : Int := l.foldl (fun q c => bits .or .i64 q (perR (co c))) q
theorem actsF_perms (op : UInt8) (rest : List UInt8) : ∀ (L : List UInt8) (q : Int), (∀ c ∈ L, c ∈ [114, 119, 120, 88, 115, 116]) → actsF ⟨op, q, 0⟩ (L ++ rest) = actsF ⟨op, orF q L, 0⟩ rest
  | [], q, _ => rfl
  | c :: L, q, h => by
    have hc := per_letters c (h c (List.mem_cons_self ..))
    rw [List.cons_append, actsF, hc.2.1, if_neg (by decide)]
    have hw : wl ⟨op, q, 0⟩ (co c) = some ⟨op, bits .or .i64 q (perR (co c)), 0⟩ := by
      rw [wl, if_neg (by simp), if_pos hc.1]
    rw [hw]
    exact actsF_perms op rest L _ (fun d hd => h d (List.mem_cons_of_mem _ hd))
theorem orF_perP : ∀ p : Fin 64, orF 0 (perP (p.val : Int) 6) = (p.val : Int) := by decide +kernel
theorem act_text {a : CA} (h : ract a = true) (rest : List UInt8) : actsF ⟨a.op, 0, 0⟩ ((actL a).tail ++ rest) = actsF a rest ∧ sgR (co a.op) = true ∧ actL a = a.op :: (actL a).tail := by
  obtain ⟨op, perms, copy⟩ := a
  simp only [ract, Bool.and_eq_true, decide_eq_true_eq, Bool.or_eq_true, beq_iff_eq] at h
  obtain ⟨⟨⟨⟨⟨h0, h1⟩, h2⟩, h3⟩, h4⟩, h5⟩ := h
  refine ⟨?_, h0, rfl⟩
  by_cases hc : copy = 0
  · subst hc
    have e : (actL ⟨op, perms, 0⟩).tail = perP perms 6 := rfl
    rw [e, actsF_perms op rest _ 0 (fun c hc => perP_mem hc)]
    obtain ⟨p, rfl⟩ := Int.eq_ofNat_of_zero_le h1
    rw [orF_perP ⟨p, by omega⟩]
  · have hp : perms = 0 := by omega
    subst hp
    have e : (actL ⟨op, 0, copy⟩).tail = [ugoC copy] := by
      simp only [actL]
      rw [if_pos hc]
      rfl
    rw [e]
    obtain rfl | rfl | rfl : copy = 1 ∨ copy = 2 ∨ copy = 3 := by omega
    · rfl
    · rfl
    · rfl
theorem acts_text : ∀ (al : List CA) (cur : CA), al.all ract = true → actsF cur (al.flatMap actL) = some (cur :: al)
  | [], cur, _ => rfl
  | a :: al, cur, h => by
    rw [List.all_cons, Bool.and_eq_true] at h
    obtain ⟨h1, h2, h3⟩ := act_text h.1 (al.flatMap actL)
    rw [List.flatMap_cons, h3, List.cons_append, actsF, h2, if_pos rfl, h1, acts_text al a h.2]
    rfl
theorem who_text : ∀ k : Fin 8, whoL (k.val : Int) = [] ∧ k.val = 0 ∨ (whoF 0 (whoL (k.val : Int)) = ((k.val : Int), [])) := by decide +kernel
theorem whoF_stop (r : List UInt8) (c : UInt8) (hc : whoR (co c) = 0) : ∀ (L : List UInt8) (q w : Int), whoF q L = (w, []) → whoF q (L ++ c :: r) = (w, c :: r)
  | [], q, w, h => by
    rw [whoF] at h
    injection h with h _
    rw [List.nil_append, whoF, if_pos hc, h]
  | d :: L, q, w, h => by
    rw [whoF] at h
    rw [List.cons_append, whoF]
    split at h
    · injection h with _ h
      cases h
    · rename_i hd
      rw [if_neg hd]
      exact whoF_stop r c hc L _ w h
theorem one_text {c : CC} (h : clOk c = true) : oneC (clL c) = some c := by
  obtain ⟨who, al⟩ := c
  simp only [clOk, Bool.and_eq_true, decide_eq_true_eq] at h
  obtain ⟨⟨⟨h0, h1⟩, h2⟩, h3⟩ := h
  cases al with
  | nil => simp at h2
  | cons a al =>
    rw [List.all_cons, Bool.and_eq_true] at h3
    obtain ⟨t1, t2, t3⟩ := act_text h3.1 (al.flatMap actL)
    obtain ⟨k, rfl⟩ := Int.eq_ofNat_of_zero_le h0
    have e : clL ⟨(k : Int), a :: al⟩ = whoL (k : Int) ++ a.op :: ((actL a).tail ++ al.flatMap actL) := by
      simp only [clL]
      rw [List.flatMap_cons]
      conv => lhs; rw [t3]
      rfl
    have hz : whoR (co a.op) = 0 := by
      have h := t2
      simp only [sgR, Bool.or_eq_true, beq_iff_eq] at h
      unfold whoR
      rw [if_neg (by omega), if_neg (by omega), if_neg (by omega), if_neg (by omega)]
    have hw : whoF 0 (whoL (k : Int)) = ((k : Int), []) := by
      rcases who_text ⟨k, by omega⟩ with ⟨h4, h5⟩ | h4
      · simp only at h4 h5
        subst h5
        rfl
      · exact h4
    have hF := whoF_stop ((actL a).tail ++ al.flatMap actL) a.op hz (whoL (k : Int)) 0 (k : Int) hw
    have ha : acts (a.op :: ((actL a).tail ++ al.flatMap actL)) = some (a :: al) := by
      rw [acts, t2, if_pos rfl, t1]
      exact acts_text al a h3.2
    unfold oneC
    rw [e, hF]
    simp only
    rw [ha]
    rfl
theorem whoL_no (n : Int) : ∀ c ∈ whoL n, c ≠ 44 := by
  intro c hc
  unfold whoL at hc
  split at hc
  · simp at hc; rw [hc]; decide
  · have := List.mem_of_mem_take (List.mem_filter.1 hc).1
    simp at this
    rcases this with rfl | rfl | rfl <;> decide
theorem actL_no {a : CA} (h : ract a = true) : ∀ c ∈ actL a, c ≠ 44 := by
  intro c hc
  obtain ⟨op, perms, copy⟩ := a
  simp only [ract, Bool.and_eq_true] at h
  have h0 := h.1.1.1.1.1
  simp only [actL] at hc
  rcases List.mem_cons.1 hc with rfl | hc
  · intro e
    subst e
    simp [sgR, co] at h0
  · split at hc
    · rw [List.mem_singleton] at hc
      rw [hc]
      unfold ugoC
      repeat' split
      all_goals decide
    · exact (per_letters c (perP_mem hc)).2.2
theorem clL_no {c : CC} (h : clOk c = true) : ∀ d ∈ clL c, d ≠ 44 := by
  intro d hd
  simp only [clOk, Bool.and_eq_true] at h
  unfold clL at hd
  rcases List.mem_append.1 hd with hd | hd
  · exact whoL_no _ d hd
  · rw [List.mem_flatMap] at hd
    obtain ⟨a, ha, hd⟩ := hd
    exact actL_no (List.all_eq_true.1 h.2 a ha) d hd
theorem pieces_none : ∀ (l : List UInt8), (∀ c ∈ l, c ≠ 44) → pieces l = [l]
  | [], _ => rfl
  | c :: l, h => by
    rw [pieces, if_neg (h c (List.mem_cons_self ..)), pieces_none l (fun d hd => h d (List.mem_cons_of_mem _ hd))]
theorem parse_text : ∀ (cs : List CC), cs ≠ [] → cs.all clOk = true → parseC (showT true cs) = some cs
  | [c], _, h => by
    rw [List.all_cons, Bool.and_eq_true] at h
    have e : showT true [c] = clL c := by simp [showT]
    rw [e, parseC, pieces_none _ (clL_no h.1), allC, one_text h.1]
    rfl
  | c :: d :: cs, _, h => by
    rw [List.all_cons, Bool.and_eq_true] at h
    have ih := parse_text (d :: cs) (by simp) h.2
    have e : showT true (c :: d :: cs) = clL c ++ 44 :: showT true (d :: cs) := by simp [showT]
    rw [e, parseC_comma, ih]
    have h1 : parseC (clL c) = some [c] := by
      rw [parseC, pieces_none _ (clL_no h.1), allC, one_text h.1]
      rfl
    rw [h1]
    rfl
/-- What is shown is parsed as it was. -/
theorem back_show {cs : List CC} (h : rightC cs = true) : parseC (showC cs) = some cs := by
  rw [showC, if_pos h]
  simp only [rightC, Bool.and_eq_true] at h
  exact parse_text cs (by intro e; rw [e] at h; simp at h) h.1
end Go.Proofs.YtbjajipeiigodaaDoor
