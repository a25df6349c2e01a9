/-
  Tables of nodes, as plain mathematics. No condition.
-/
import Derived.Test.YtmapkmjhpebcbaaNodeM2
namespace Go.Proofs.Ytmapkmjhpebcbaa
open Go Go.RowKit

/-- The node of a number; the zero one: there is none. -/
def tget (t : List Nd) (i : Int) : Nd := if 1 ≤ i ∧ i ≤ t.length then t.getD (i - 1).toNat Nd.zero else Nd.zero
/-- Is there a node of a number? -/
def tis (t : List Nd) (i : Int) : Bool := decide ((tget t i).kind ≠ 0)
/-- How many entries have a node. -/
def cntE (l : List En) (i : Int) : Nat := l.countP (fun e => decide (e.2 = i))
def linkT (t : List Nd) (i : Int) : Nat := (t.map (fun n => cntE n.ents i)).sum
/-- The least number of a node that has an entry that has it, counted on from a number; 0: there is none. -/
def parT : List Nd → Nat → Int → Nat
  | [], _, _ => 0
  | n :: t, d, i => if cntE n.ents i = 0 then parT t (d + 1) i else d + 1
def usedT (t : List Nd) : Nat := t.countP (fun n => decide (n.kind ≠ 0))
/-- The least number that has no node, counted on from a number; 0: there is none. -/
def freeT : List Nd → Nat → Nat
  | [], _ => 0
  | n :: t, d => if n.kind = 0 then d + 1 else freeT t (d + 1)
/-- All nodes may be. -/
def okT (t : List Nd) : Prop := ∀ n ∈ t, n = Nd.zero ∨ rightP n

theorem right_kind {n : Nd} (h : rightP n) : n.kind ≠ 0 := by
  rcases h.2 with h | h | h <;> omega
theorem ok_new (r : Nat) : okT (List.replicate r Nd.zero) := fun _ h => Or.inl (List.eq_of_mem_replicate h)
theorem ok_set {t : List Nd} (h : okT t) (k : Nat) {n : Nd} (hn : n = Nd.zero ∨ rightP n) : okT (t.set k n) := by
  intro m hm
  rcases List.mem_or_eq_of_mem_set hm with q | q
  · exact h m q
  · rw [q]; exact hn
theorem tget_at {t : List Nd} {k : Nat} (h : k < t.length) : tget t (k + 1) = t[k] := by
  unfold tget
  rw [if_pos ⟨by omega, by omega⟩, show ((k : Int) + 1 - 1).toNat = k by omega, List.getD_eq_getElem?_getD, List.getElem?_eq_getElem h]
  rfl
theorem tget_out {t : List Nd} {i : Int} (h : ¬ (1 ≤ i ∧ i ≤ t.length)) : tget t i = Nd.zero := if_neg h
theorem ok_tget {t : List Nd} (h : okT t) (i : Int) : tget t i = Nd.zero ∨ rightP (tget t i) := by
  by_cases q : 1 ≤ i ∧ i ≤ t.length
  · have e : i = ((i - 1).toNat : Int) + 1 := by omega
    rw [e, tget_at (by omega)]
    exact h _ (List.getElem_mem _)
  · exact Or.inl (tget_out q)
theorem tis_right {t : List Nd} (h : okT t) {i : Int} (hi : tis t i = true) : rightP (tget t i) := by
  rcases ok_tget h i with q | q
  · have hi := of_decide_eq_true hi
    rw [q] at hi
    exact absurd rfl hi
  · exact q
theorem tis_not {t : List Nd} (h : okT t) {i : Int} (hi : tis t i = false) : tget t i = Nd.zero := by
  rcases ok_tget h i with q | q
  · exact q
  · exact absurd (right_kind q) (of_decide_eq_false hi)
/-- Only directories have entries. -/
theorem ok_ents {t : List Nd} (h : okT t) {n : Nd} (hn : n ∈ t) (hk : n.kind ≠ 2) : n.ents = [] := by
  rcases h n hn with q | q
  · rw [q]; rfl
  · rcases q.2 with q | q | q
    · exact q.2.1
    · exact absurd q.1 hk
    · exact q.2.2.1
theorem par_zero {i : Int} : ∀ (t : List Nd) (d : Nat), parT t d i = 0 ↔ linkT t i = 0
  | [], _ => by simp [parT, linkT]
  | n :: t, d => by
    have ih := par_zero (i := i) t (d + 1)
    unfold linkT at ih ⊢
    rw [List.map_cons, List.sum_cons, parT]
    split
    · rename_i q
      rw [ih, q, Nat.zero_add]
    · rename_i q
      constructor
      · intro h; omega
      · intro h; omega
theorem par_le {i : Int} : ∀ (t : List Nd) (d : Nat), parT t d i ≤ d + t.length
  | [], _ => Nat.zero_le _
  | n :: t, d => by
    have ih := par_le (i := i) t (d + 1)
    rw [parT, List.length_cons]
    split <;> omega

/-- How many entries have a number that is told. -/
theorem cnt_list (l : List En) : ∀ (L : List Int), L.Nodup → (L.map (fun i => cntE l i)).sum = l.countP (fun e => decide (e.2 ∈ L))
  | [], _ => by simp
  | i :: L, h => by
    obtain ⟨h1, h2⟩ := List.nodup_cons.1 h
    rw [List.map_cons, List.sum_cons, cnt_list l L h2]
    unfold cntE
    clear h h2
    induction l with
    | nil => rfl
    | cons e l ih =>
      simp only [List.mem_cons] at ih ⊢
      rw [List.countP_cons, List.countP_cons, List.countP_cons]
      by_cases q : e.2 = i
      · have q2 : ¬ e.2 ∈ L := by rw [q]; exact h1
        simp only [q, decide_true, true_or, if_true, h1, decide_false, Bool.false_eq_true, if_false]
        omega
      · by_cases q2 : e.2 ∈ L
        · simp only [q, q2, or_true, decide_true, decide_false, if_true, Bool.false_eq_true, if_false]
          omega
        · simp only [q, q2, or_self, decide_false, Bool.false_eq_true, if_false]
          omega
theorem link_list (L : List Int) (h : L.Nodup) : ∀ (t : List Nd), (L.map (fun i => linkT t i)).sum = (t.map (fun n => n.ents.countP (fun e => decide (e.2 ∈ L)))).sum
  | [] => by
    unfold linkT
    induction L with
    | nil => rfl
    | cons i L ih =>
      rw [List.map_cons, List.sum_cons, ih (List.nodup_cons.1 h).2]
      rfl
  | n :: t => by
    have ih := link_list L h t
    rw [List.map_cons, List.sum_cons, ← ih, ← cnt_list n.ents L h]
    clear ih h
    induction L with
    | nil => rfl
    | cons i L ih =>
      rw [List.map_cons, List.sum_cons, ih, List.map_cons, List.sum_cons, List.map_cons, List.sum_cons]
      have : linkT (n :: t) i = cntE n.ents i + linkT t i := by
        unfold linkT
        rw [List.map_cons, List.sum_cons]
      rw [this]
      omega
/-- All entries of a table. -/
def entT (t : List Nd) : Nat := (t.map (fun n => n.ents.length)).sum
theorem link_le (L : List Int) (h : L.Nodup) (t : List Nd) : (L.map (fun i => linkT t i)).sum ≤ entT t := by
  rw [link_list L h t]
  unfold entT
  induction t with
  | nil => exact Nat.le_refl _
  | cons n t ih =>
    rw [List.map_cons, List.sum_cons, List.map_cons, List.sum_cons]
    have := List.countP_le_length (p := fun e : En => decide (e.2 ∈ L)) (l := n.ents)
    omega
theorem link_all (L : List Int) (h : L.Nodup) (t : List Nd) (hw : ∀ n ∈ t, ∀ e ∈ n.ents, e.2 ∈ L) : (L.map (fun i => linkT t i)).sum = entT t := by
  rw [link_list L h t]
  unfold entT
  induction t with
  | nil => rfl
  | cons n t ih =>
    rw [List.map_cons, List.sum_cons, List.map_cons, List.sum_cons, ih (fun m hm => hw m (List.mem_cons_of_mem _ hm))]
    have : n.ents.countP (fun e => decide (e.2 ∈ L)) = n.ents.length :=
      List.countP_eq_length.2 (fun e he => decide_eq_true (hw n (List.mem_cons_self ..) e he))
    omega
/-- The numbers from 1 that have nodes, up to a number. -/
def numT (t : List Nd) : Nat → List Int
  | 0 => []
  | k + 1 => if tis t (k + 1) = true then ((k : Int) + 1) :: numT t k else numT t k
theorem mem_numT {t : List Nd} {i : Int} : ∀ {k : Nat}, i ∈ numT t k ↔ 1 ≤ i ∧ i ≤ k ∧ tis t i = true
  | 0 => by
    constructor
    · intro h; cases h
    · intro h; omega
  | k + 1 => by
    have ih := mem_numT (t := t) (i := i) (k := k)
    rw [numT]
    by_cases q : i = (k : Int) + 1
    · subst q
      split
      · rename_i q2
        exact ⟨fun _ => ⟨by omega, by omega, q2⟩, fun _ => List.mem_cons_self ..⟩
      · rename_i q2
        constructor
        · intro h
          have := ih.1 h
          omega
        · intro h; exact absurd h.2.2 q2
    · split
      · rw [List.mem_cons]
        constructor
        · rintro (h | h)
          · exact absurd h q
          · have := ih.1 h
            exact ⟨this.1, by omega, this.2.2⟩
        · intro h
          exact Or.inr (ih.2 ⟨h.1, by omega, h.2.2⟩)
      · rw [ih]
        constructor
        · intro h; exact ⟨h.1, by omega, h.2.2⟩
        · intro h; exact ⟨h.1, by omega, h.2.2⟩
theorem nodup_numT (t : List Nd) : ∀ k, (numT t k).Nodup
  | 0 => List.nodup_nil
  | k + 1 => by
    rw [numT]
    split
    · refine List.nodup_cons.2 ⟨fun h => ?_, nodup_numT t k⟩
      have := mem_numT.1 h
      omega
    · exact nodup_numT t k
/-- All links of the nodes up to a number, as a loop counts them. -/
def lnkT (t : List Nd) : Nat → Nat
  | 0 => 0
  | k + 1 => lnkT t k + if tis t (k + 1) = true then linkT t (k + 1) else 0
theorem lnk_num (t : List Nd) : ∀ k, lnkT t k = ((numT t k).map (fun i => linkT t i)).sum
  | 0 => rfl
  | k + 1 => by
    rw [lnkT, lnk_num t k, numT]
    split
    · rw [List.map_cons, List.sum_cons]; omega
    · omega
theorem lnk_le (t : List Nd) (k : Nat) : lnkT t k ≤ entT t := by
  rw [lnk_num]; exact link_le _ (nodup_numT t k) t
theorem lnk_all {t : List Nd} {k : Nat} (hk : t.length ≤ k) (hw : ∀ n ∈ t, ∀ e ∈ n.ents, tis t e.2 = true) : lnkT t k = entT t := by
  rw [lnk_num]
  refine link_all _ (nodup_numT t k) t (fun n hn e he => mem_numT.2 ?_)
  have h := hw n hn e he
  refine ⟨?_, ?_, h⟩
  · by_cases q : 1 ≤ e.2 ∧ e.2 ≤ t.length
    · exact q.1
    · rw [tis, tget_out q] at h; exact absurd rfl (of_decide_eq_true h)
  · by_cases q : 1 ≤ e.2 ∧ e.2 ≤ t.length
    · omega
    · rw [tis, tget_out q] at h; exact absurd rfl (of_decide_eq_true h)

/-- The least free number. -/
theorem free_none : ∀ {t : List Nd} {d : Nat}, freeT t d = 0 ↔ usedT t = t.length
  | [], _ => by simp [freeT, usedT]
  | n :: t, d => by
    have ih := free_none (t := t) (d := d + 1)
    have hl : usedT t ≤ t.length := List.countP_le_length
    have hc : usedT (n :: t) = usedT t + if decide (n.kind ≠ 0) = true then 1 else 0 := List.countP_cons ..
    rw [freeT, hc, List.length_cons]
    by_cases q : n.kind = 0
    · rw [if_pos q, if_neg (by simp [q])]; omega
    · rw [if_neg q, if_pos (by simp [q]), ih]; omega
theorem free_some : ∀ {t : List Nd} {d : Nat}, freeT t d ≠ 0 → ∃ k, ∃ h : k < t.length, freeT t d = d + k + 1 ∧ (t[k]).kind = 0 ∧ ∀ j, ∀ hj : j < k, (t[j]'(by omega)).kind ≠ 0
  | [], _, h => absurd rfl h
  | n :: t, d, h => by
    rw [freeT] at h ⊢
    by_cases q : n.kind = 0
    · rw [if_pos q]
      exact ⟨0, Nat.succ_pos _, by omega, q, fun j hj => absurd hj (Nat.not_lt_zero j)⟩
    · rw [if_neg q] at h ⊢
      obtain ⟨k, hk, h1, h2, h3⟩ := free_some h
      refine ⟨k + 1, by rw [List.length_cons]; omega, by omega, h2, fun j hj => ?_⟩
      cases j with
      | zero => exact q
      | succ j => exact h3 j (by omega)
theorem used_set : ∀ {t : List Nd} {k : Nat} (h : k < t.length) (n : Nd), usedT (t.set k n) + (if (t[k]).kind ≠ 0 then 1 else 0) = usedT t + if n.kind ≠ 0 then 1 else 0
  | [], _, h, _ => absurd h (Nat.not_lt_zero _)
  | m :: t, 0, _, n => by
    have h1 : usedT (n :: t) = usedT t + if decide (n.kind ≠ 0) = true then 1 else 0 := List.countP_cons ..
    have h2 : usedT (m :: t) = usedT t + if decide (m.kind ≠ 0) = true then 1 else 0 := List.countP_cons ..
    rw [List.set_cons_zero, h1, h2]
    simp only [decide_eq_true_eq, List.getElem_cons_zero]
    omega
  | m :: t, k + 1, h, n => by
    have ih := used_set (t := t) (k := k) (by rw [List.length_cons] at h; omega) n
    have h1 : usedT (m :: t.set k n) = usedT (t.set k n) + if decide (m.kind ≠ 0) = true then 1 else 0 := List.countP_cons ..
    have h2 : usedT (m :: t) = usedT t + if decide (m.kind ≠ 0) = true then 1 else 0 := List.countP_cons ..
    rw [List.set_cons_succ, h1, h2]
    simp only [List.getElem_cons_succ]
    omega

/-- What is put, added and dropped: the table, and the answer. -/
def putE (t : List Nd) (i : Int) (right : Bool) : Int := if tis t i = false then 2 else if right = false then 22 else 0
def setT (t : List Nd) (i : Int) (n : Nd) : List Nd := t.set (i - 1).toNat n
def addE (t : List Nd) (right : Bool) : Int := if right = false then 22 else if freeT t 0 = 0 then 28 else 0
theorem len_setT (t : List Nd) (i : Int) (n : Nd) : (setT t i n).length = t.length := List.length_set ..
theorem tget_set {t : List Nd} {i j : Int} {n : Nd} (h : 1 ≤ i ∧ i ≤ t.length) : tget (setT t i n) j = if j = i then n else tget t j := by
  by_cases q : 1 ≤ j ∧ j ≤ t.length
  · have e : j = ((j - 1).toNat : Int) + 1 := by omega
    have hl : (j - 1).toNat < (setT t i n).length := by rw [len_setT]; omega
    have h1 : tget (setT t i n) j = (setT t i n)[(j - 1).toNat] := by
      have := tget_at hl
      rw [← e] at this
      exact this
    have h2 : tget t j = t[(j - 1).toNat]'(by omega) := by
      have := tget_at (t := t) (k := (j - 1).toNat) (by omega)
      rw [← e] at this
      exact this
    rw [h1, h2, show (setT t i n)[(j - 1).toNat] = if (i - 1).toNat = (j - 1).toNat then n else t[(j - 1).toNat]'(by omega) from List.getElem_set ..]
    by_cases q2 : j = i
    · rw [if_pos (by rw [q2]), if_pos q2]
    · rw [if_neg (by omega), if_neg q2]
  · rw [tget_out (by rw [len_setT]; exact q), tget_out q, if_neg (by rintro rfl; exact q h)]
theorem tget_ext {t u : List Nd} (hl : t.length = u.length) (h : ∀ k : Nat, k < t.length → tget t (k + 1) = tget u (k + 1)) : t = u := by
  refine List.ext_getElem hl (fun k h1 h2 => ?_)
  have := h k h1
  rwa [tget_at h1, tget_at h2] at this
theorem cnt_pos {l : List En} {i : Int} : cntE l i ≠ 0 ↔ ∃ e ∈ l, e.2 = i := by
  unfold cntE
  constructor
  · intro h
    obtain ⟨e, h1, h2⟩ := List.countP_pos_iff.1 (Nat.pos_of_ne_zero h)
    exact ⟨e, h1, of_decide_eq_true h2⟩
  · rintro ⟨e, h1, h2⟩
    exact Nat.pos_iff_ne_zero.1 (List.countP_pos_iff.2 ⟨e, h1, decide_eq_true h2⟩)
end Go.Proofs.Ytmapkmjhpebcbaa
