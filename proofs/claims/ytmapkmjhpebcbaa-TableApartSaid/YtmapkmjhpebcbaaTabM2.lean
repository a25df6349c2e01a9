/-
  From each directory by its parents to the first one: how far one has to go, as plain mathematics. No condition.
-/
import Derived.Test.YtmapkmjhpebcbaaTabM
namespace Go.Proofs.Ytmapkmjhpebcbaa
open Go Go.RowKit

theorem fil_len (a : Int) : ∀ (l : List Int), l.Nodup → l.length ≤ (l.filter (fun x => decide (x ≠ a))).length + 1
  | [], _ => Nat.zero_le _
  | x :: l, h => by
    obtain ⟨h1, h2⟩ := List.nodup_cons.1 h
    by_cases q : x = a
    · have e : l.filter (fun x => decide (x ≠ a)) = l := by
        refine List.filter_eq_self.2 (fun y hy => decide_eq_true ?_)
        rintro rfl
        exact h1 (q ▸ hy)
      rw [List.filter_cons_of_neg (by simp [q]), e, List.length_cons]
      exact Nat.le_refl _
    · have ih := fil_len a l h2
      rw [List.filter_cons_of_pos (by simp [q]), List.length_cons, List.length_cons]
      omega
/-- Different numbers from 1 to L are no more than L. -/
theorem pig : ∀ (L : Nat) (l : List Int), l.Nodup → (∀ x ∈ l, 1 ≤ x ∧ x ≤ L) → l.length ≤ L
  | 0, l, _, h => by
    cases l with
    | nil => exact Nat.le_refl _
    | cons x l =>
      have := h x (List.mem_cons_self ..)
      omega
  | L + 1, l, hn, h => by
    have h1 := pig L (l.filter (fun x => decide (x ≠ (L : Int) + 1))) (List.Pairwise.filter _ hn) (fun x hx => by
      obtain ⟨ha, hb⟩ := List.mem_filter.1 hx
      have hb := of_decide_eq_true hb
      have := h x ha
      omega)
    have h2 := fil_len ((L : Int) + 1) l hn
    omega
/-- Going on, some times. -/
def itr (f : Int → Int) : Nat → Int → Int
  | 0, i => i
  | m + 1, i => itr f m (f i)
theorem itr_add (f : Int → Int) : ∀ (a b : Nat) (i : Int), itr f (a + b) i = itr f b (itr f a i)
  | 0, b, i => by rw [Nat.zero_add]; rfl
  | a + 1, b, i => by
    rw [show a + 1 + b = (a + b) + 1 by omega]
    exact itr_add f a b (f i)
/-- Does one come to 1, in less than so many steps? -/
def rootT (f : Int → Int) : Nat → Int → Bool
  | 0, _ => false
  | k + 1, i => decide (i = 1) || rootT f k (f i)
theorem root_iff {f : Int → Int} : ∀ {k : Nat} {i : Int}, rootT f k i = true ↔ ∃ m, m < k ∧ itr f m i = 1
  | 0, i => by
    constructor
    · intro h; cases h
    · rintro ⟨m, h, _⟩; omega
  | k + 1, i => by
    have ih := root_iff (f := f) (k := k) (i := f i)
    rw [rootT, Bool.or_eq_true, ih]
    constructor
    · rintro (h | ⟨m, h, h2⟩)
      · exact ⟨0, Nat.succ_pos _, of_decide_eq_true h⟩
      · exact ⟨m + 1, by omega, h2⟩
    · rintro ⟨m, h, h2⟩
      cases m with
      | zero => exact Or.inl (decide_eq_true h2)
      | succ m => exact Or.inr ⟨m, by omega, h2⟩
theorem itr_zero {f : Int → Int} (h : f 0 = 0) : ∀ m, itr f m 0 = 0
  | 0 => rfl
  | m + 1 => by
    rw [itr, h]
    exact itr_zero h m
/-- Numbers that one comes through. -/
def ways (f : Int → Int) : Nat → Int → List Int
  | 0, i => [i]
  | m + 1, i => i :: ways f m (f i)
theorem len_ways (f : Int → Int) : ∀ (m : Nat) (i : Int), (ways f m i).length = m + 1
  | 0, _ => rfl
  | m + 1, i => by rw [ways, List.length_cons, len_ways f m (f i)]
theorem mem_ways {f : Int → Int} {x : Int} : ∀ {m : Nat} {i : Int}, x ∈ ways f m i → ∃ a, a ≤ m ∧ itr f a i = x
  | 0, i, h => ⟨0, Nat.le_refl _, by rw [ways, List.mem_singleton] at h; exact h.symm⟩
  | m + 1, i, h => by
    rw [ways] at h
    rcases List.mem_cons.1 h with h | h
    · exact ⟨0, Nat.zero_le _, h.symm⟩
    · obtain ⟨a, h1, h2⟩ := mem_ways h
      exact ⟨a + 1, by omega, h2⟩
/-- The shortest way to 1 has no number twice. -/
theorem nodup_ways {f : Int → Int} : ∀ {m : Nat} {i : Int}, itr f m i = 1 → (∀ a, a < m → itr f a i ≠ 1) → (ways f m i).Nodup
  | 0, i, _, _ => by rw [ways]; exact List.nodup_cons.2 ⟨List.not_mem_nil, List.nodup_nil⟩
  | m + 1, i, h, hmin => by
    rw [ways]
    refine List.nodup_cons.2 ⟨fun hx => ?_, nodup_ways (i := f i) h (fun a ha => hmin (a + 1) (by omega))⟩
    obtain ⟨a, h1, h2⟩ := mem_ways hx
    -- behind a + 1 steps one is at i again, so 1 comes earlier
    have h3 : itr f (a + 1) i = i := h2
    have h4 : itr f (m - a) i = 1 := by
      have h5 := itr_add f (a + 1) (m - a) i
      rw [show a + 1 + (m - a) = m + 1 by omega, h3] at h5
      rw [← h5]; exact h
    exact hmin (m - a) (by omega) h4
theorem least_way {f : Int → Int} {i : Int} : ∀ (m : Nat), itr f m i = 1 → ∃ k, k ≤ m ∧ itr f k i = 1 ∧ ∀ a, a < k → itr f a i ≠ 1 := by
  intro m
  induction m using Nat.strongRecOn with
  | ind m ih =>
    intro h
    by_cases q : ∃ a, a < m ∧ itr f a i = 1
    · obtain ⟨a, h1, h2⟩ := q
      obtain ⟨k, h3, h4, h5⟩ := ih a h1 h2
      exact ⟨k, by omega, h4, h5⟩
    · exact ⟨m, Nat.le_refl _, h, fun a ha hb => q ⟨a, ha, hb⟩⟩
/-- If one ever comes to 1, then in less steps than there are numbers. -/
theorem root_bound {f : Int → Int} {L : Nat} (h0 : f 0 = 0) (hf : ∀ x, 0 ≤ f x ∧ f x ≤ L) {i : Int} (hi : 0 ≤ i ∧ i ≤ L) {m : Nat} (h : itr f m i = 1) : ∃ k, k < L ∧ itr f k i = 1 := by
  obtain ⟨k, _, h2, h3⟩ := least_way m h
  have hr : ∀ a, 0 ≤ itr f a i ∧ itr f a i ≤ L := by
    intro a
    cases a with
    | zero => exact hi
    | succ a =>
      have := itr_add f a 1 i
      rw [this]
      exact hf _
  refine ⟨k, ?_, h2⟩
  have h4 := pig L (ways f k i) (nodup_ways h2 h3) (fun x hx => by
    obtain ⟨a, ha, hb⟩ := mem_ways hx
    have h5 := hr a
    rw [hb] at h5
    by_cases q : x = 0
    · have h6 := itr_add f a (k - a) i
      rw [hb, q, itr_zero h0, show a + (k - a) = k by omega, h2] at h6
      omega
    · omega)
  rw [len_ways] at h4
  omega
theorem root_same {f : Int → Int} {L k l : Nat} (h0 : f 0 = 0) (hf : ∀ x, 0 ≤ f x ∧ f x ≤ L) {i : Int} (hi : 0 ≤ i ∧ i ≤ L) (hk : L ≤ k) (hl : L ≤ l) : rootT f k i = rootT f l i := by
  have h : ∀ {a b : Nat}, L ≤ a → L ≤ b → rootT f a i = true → rootT f b i = true := by
    intro a b _ hb h
    obtain ⟨m, _, h2⟩ := root_iff.1 h
    obtain ⟨k, h3, h4⟩ := root_bound h0 hf hi h2
    exact root_iff.2 ⟨k, by omega, h4⟩
  cases q : rootT f l i with
  | true => exact h hl hk q
  | false =>
    cases q2 : rootT f k i with
    | false => rfl
    | true => rw [h hk hl q2] at q; cases q
/-- The parents of a table whose nodes may be. -/
def parF (t : List Nd) (i : Int) : Int := (parT t 0 i : Int)
theorem parF_le (t : List Nd) (i : Int) : 0 ≤ parF t i ∧ parF t i ≤ t.length := by
  have := par_le (i := i) t 0
  unfold parF
  omega
theorem link_low {t : List Nd} (h : okT t) {i : Int} (hi : i < 1) : linkT t i = 0 := by
  unfold linkT
  induction t with
  | nil => rfl
  | cons n t ih =>
    rw [List.map_cons, List.sum_cons, ih (fun m hm => h m (List.mem_cons_of_mem _ hm)), Nat.add_zero]
    by_cases q : cntE n.ents i = 0
    · exact q
    · obtain ⟨e, h1, h2⟩ := cnt_pos.1 q
      rcases h n (List.mem_cons_self ..) with q | q
      · rw [q] at h1; cases h1
      · rcases q.2 with q | q | q
        · rw [q.2.1] at h1; cases h1
        · have := (q.2.2.2.1 e h1).2
          omega
        · rw [q.2.2.1] at h1; cases h1
theorem parF_zero {t : List Nd} (h : okT t) : parF t 0 = 0 := by
  unfold parF
  rw [(par_zero t 0).2 (link_low h (by omega))]
  rfl
/-- Is a table a tree, but for some that are open? -/
def treeP (t : List Nd) (op : List Int) : Prop :=
  (tget t 1).kind = 2 ∧ linkT t 1 = 0 ∧ (∀ n ∈ t, ∀ e ∈ n.ents, tis t e.2 = true) ∧
  ∀ k : Nat, k < t.length → ((tget t (k + 1)).kind = 2 → 0 < k → linkT t (k + 1) = 1 ∧ ∃ m, itr (parF t) m (k + 1) = 1) ∧
    ((tget t (k + 1)).kind = 1 ∨ (tget t (k + 1)).kind = 3 → linkT t (k + 1) = 0 → ((k : Int) + 1) ∈ op)
theorem tree_root {t : List Nd} (h : okT t) {L k : Nat} (hL : t.length ≤ L) (hk : k < t.length) : (∃ m, itr (parF t) m (k + 1) = 1) ↔ rootT (parF t) L (k + 1) = true := by
  constructor
  · rintro ⟨m, hm⟩
    obtain ⟨a, h1, h2⟩ := root_bound (L := t.length) (parF_zero h) (parF_le t) (i := (k : Int) + 1) ⟨by omega, by omega⟩ hm
    exact root_iff.2 ⟨a, by omega, h2⟩
  · intro q
    obtain ⟨m, _, h2⟩ := root_iff.1 q
    exact ⟨m, h2⟩
end Go.Proofs.Ytmapkmjhpebcbaa
