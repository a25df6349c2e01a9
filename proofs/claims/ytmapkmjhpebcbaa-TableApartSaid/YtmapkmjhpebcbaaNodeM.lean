/-
  Names that rise, entries that are put in and taken out, as plain mathematics. No condition.
-/
import Derived.Test.YtmapkmjhpebcbaaLeaf
namespace Go.Proofs.Ytmapkmjhpebcbaa
open Go Go.RowKit

abbrev Nm := List UInt8
/-- An entry: its name, and its node. -/
abbrev En := Nm × Int
/-- Does a name stand ahead of another one? -/
abbrev lss : Nm → Nm → Bool := Op.bytesLess
theorem lss_nil (a : Nm) : lss a [] = false := by cases a <;> rfl
theorem lss_cons (a b : UInt8) (x y : Nm) : lss (a :: x) (b :: y) = if a = b then lss x y else decide (a < b) := by
  show (decide (a < b) || (a == b && Op.bytesLess x y)) = _
  by_cases h : a = b
  · subst h
    have : ¬ a < a := UInt8.lt_irrefl a
    simp [this]
  · simp [h]
theorem lss_irrefl : ∀ a : Nm, lss a a = false
  | [] => rfl
  | c :: a => by rw [lss_cons, if_pos rfl]; exact lss_irrefl a
theorem lss_tri : ∀ a b : Nm, lss a b = false → lss b a = false → a = b
  | [], [], _, _ => rfl
  | [], _ :: _, h, _ => by cases h
  | _ :: _, [], _, h => by cases h
  | a :: x, b :: y, h1, h2 => by
    rw [lss_cons] at h1 h2
    by_cases h : a = b
    · subst h
      rw [if_pos rfl] at h1 h2
      rw [lss_tri x y h1 h2]
    · rw [if_neg h] at h1
      rw [if_neg (fun e => h e.symm)] at h2
      exfalso
      have h3 : ¬ a < b := by simpa using h1
      have h4 : ¬ b < a := by simpa using h2
      exact h (UInt8.le_antisymm (UInt8.not_lt.1 h4) (UInt8.not_lt.1 h3))
theorem lss_trans : ∀ a b c : Nm, lss a b = true → lss b c = true → lss a c = true
  | _, [], _, h, _ => by rw [lss_nil] at h; cases h
  | _, _ :: _, [], _, h => by rw [lss_nil] at h; cases h
  | [], _ :: _, _ :: _, _, _ => rfl
  | a :: x, b :: y, c :: z, h1, h2 => by
    rw [lss_cons] at h1 h2 ⊢
    by_cases hab : a = b
    · subst hab
      rw [if_pos rfl] at h1
      by_cases hac : a = c
      · subst hac
        rw [if_pos rfl] at h2 ⊢
        exact lss_trans x y z h1 h2
      · rw [if_neg hac] at h2 ⊢
        exact h2
    · rw [if_neg hab] at h1
      have h3 : a < b := by simpa using h1
      by_cases hbc : b = c
      · subst hbc
        rw [if_neg hab]
        exact h1
      · rw [if_neg hbc] at h2
        have h4 : b < c := by simpa using h2
        have h5 : a < c := UInt8.lt_trans h3 h4
        have h6 : ¬ a = c := fun e => UInt8.lt_irrefl c (by rw [e] at h5; exact h5)
        rw [if_neg h6]
        simpa using h5
theorem lss_asymm {a b : Nm} (h : lss a b = true) : lss b a = false := by
  cases hb : lss b a with
  | false => rfl
  | true =>
    have := lss_trans a b a h hb
    rw [lss_irrefl] at this
    cases this
theorem lss_ne {a b : Nm} (h : lss a b = true) : ¬ a = b := by
  intro e
  rw [e, lss_irrefl] at h
  cases h
/-- Not less, and not the same: greater. -/
theorem lss_of {a b : Nm} (h : lss a b = false) (hne : ¬ a = b) : lss b a = true := by
  cases hb : lss b a with
  | true => rfl
  | false => exact absurd (lss_tri a b h hb) hne
theorem lss_ge_trans {a b c : Nm} (h1 : lss b a = false) (h2 : lss b c = true) : lss a c = true := by
  by_cases h : a = b
  · rw [h]; exact h2
  · exact lss_trans _ _ _ (lss_of h1 (fun e => h e.symm)) h2
/-- Two names that begin alike. -/
theorem lss_drop : ∀ (k : Nat) (a b : Nm), a.take k = b.take k → k ≤ a.length → k ≤ b.length → lss a b = lss (a.drop k) (b.drop k)
  | 0, a, b, _, _, _ => by simp
  | k + 1, [], b, _, h, _ => by simp at h
  | k + 1, _ :: _, [], _, _, h => by simp at h
  | k + 1, c :: a, d :: b, ht, ha, hb => by
    rw [List.take_succ_cons, List.take_succ_cons] at ht
    injection ht with h1 h2
    subst h1
    rw [lss_cons, if_pos rfl, List.drop_succ_cons, List.drop_succ_cons]
    exact lss_drop k a b h2 (by simpa using ha) (by simpa using hb)
/-- Where they part. -/
theorem lss_at {a b : Nm} {k : Nat} {c d : UInt8} (ht : a.take k = b.take k) (ha : a[k]? = some c) (hb : b[k]? = some d) (hne : ¬ c = d) : lss a b = decide (c < d) := by
  obtain ⟨h1, e1⟩ := List.getElem?_eq_some_iff.1 ha
  obtain ⟨h2, e2⟩ := List.getElem?_eq_some_iff.1 hb
  rw [lss_drop k a b ht (by omega) (by omega), List.drop_eq_getElem_cons h1, List.drop_eq_getElem_cons h2, e1, e2, lss_cons, if_neg hne]
/-- Where one ends. -/
theorem lss_len {a b : Nm} {k : Nat} (ht : a.take k = b.take k) (ha : k ≤ a.length) (hb : k ≤ b.length) (he : k = a.length ∨ k = b.length) : lss a b = decide (a.length < b.length) := by
  rw [lss_drop k a b ht ha hb]
  by_cases h : k = b.length
  · rw [show b.drop k = [] from List.drop_eq_nil_of_le (by omega), lss_nil]
    rw [decide_eq_false (by omega)]
  · have h2 : k = a.length := by rcases he with he | he; exact he; exact absurd he h
    rw [show a.drop k = [] from List.drop_eq_nil_of_le (by omega)]
    have h3 : k < b.length := by omega
    rw [List.drop_eq_getElem_cons h3, decide_eq_true (by omega)]
    rfl

/-- Names that rise, each above the one ahead. -/
def rise (l : List Nm) : Prop := l.Pairwise fun a b => lss a b = true
/-- Names that don't fall. -/
def upw (l : List Nm) : Prop := l.Pairwise fun a b => lss b a = false
theorem rise_upw {l : List Nm} (h : rise l) : upw l := List.Pairwise.imp (fun h => lss_asymm h) h
theorem rise_nodup {l : List Nm} (h : rise l) : l.Nodup := List.Pairwise.imp (fun h => lss_ne h) h
/-- A name put in ahead of the first that is greater. -/
def insN (x : Nm) : List Nm → List Nm
  | [] => [x]
  | y :: l => if lss x y = true then x :: y :: l else y :: insN x l
def ins (x : En) : List En → List En
  | [] => [x]
  | y :: l => if lss x.1 y.1 = true then x :: y :: l else y :: ins x l
theorem ins_names (x : En) : ∀ l : List En, (ins x l).map Prod.fst = insN x.1 (l.map Prod.fst)
  | [] => rfl
  | y :: l => by
    rw [ins, List.map_cons, insN]
    split
    · rfl
    · rw [List.map_cons, ins_names x l]
theorem mem_insN (x y : Nm) : ∀ l : List Nm, y ∈ insN x l ↔ y = x ∨ y ∈ l
  | [] => by simp [insN]
  | z :: l => by
    rw [insN]
    split
    · simp
    · rw [List.mem_cons, mem_insN x y l, List.mem_cons]
      constructor
      · rintro (h | h | h)
        · exact .inr (.inl h)
        · exact .inl h
        · exact .inr (.inr h)
      · rintro (h | h | h)
        · exact .inr (.inl h)
        · exact .inl h
        · exact .inr (.inr h)
theorem len_insN (x : Nm) : ∀ l : List Nm, (insN x l).length = l.length + 1
  | [] => rfl
  | y :: l => by
    rw [insN]
    split
    · rfl
    · rw [List.length_cons, len_insN x l, List.length_cons]
theorem len_ins (x : En) (l : List En) : (ins x l).length = l.length + 1 := by
  have h := congrArg List.length (ins_names x l)
  rw [List.length_map, len_insN, List.length_map] at h
  exact h
theorem perm_insN (x : Nm) : ∀ l : List Nm, (insN x l).Perm (x :: l)
  | [] => List.Perm.refl _
  | y :: l => by
    rw [insN]
    split
    · exact List.Perm.refl _
    · exact (List.Perm.cons y (perm_insN x l)).trans (List.Perm.swap x y l)
theorem mem_ins (x y : En) : ∀ l : List En, y ∈ ins x l ↔ y = x ∨ y ∈ l
  | [] => by simp [ins]
  | z :: l => by
    rw [ins]
    split
    · simp
    · rw [List.mem_cons, mem_ins x y l, List.mem_cons]
      constructor
      · rintro (h | h | h)
        · exact .inr (.inl h)
        · exact .inl h
        · exact .inr (.inr h)
      · rintro (h | h | h)
        · exact .inr (.inl h)
        · exact .inl h
        · exact .inr (.inr h)
theorem rise_insN {x : Nm} : ∀ {l : List Nm}, rise l → ¬ x ∈ l → rise (insN x l)
  | [], _, _ => List.pairwise_singleton _ _
  | y :: l, h, hx => by
    obtain ⟨h1, h2⟩ := List.pairwise_cons.1 h
    rw [insN]
    split
    · rename_i hl
      refine List.pairwise_cons.2 ⟨fun z hz => ?_, h⟩
      rcases List.mem_cons.1 hz with rfl | hz
      · exact hl
      · exact lss_trans _ _ _ hl (h1 z hz)
    · rename_i hl
      refine List.pairwise_cons.2 ⟨fun z hz => ?_, rise_insN h2 (fun e => hx (List.mem_cons_of_mem _ e))⟩
      rcases (mem_insN x z l).1 hz with rfl | hz
      · exact lss_of (by simpa using hl) (fun e => hx (by rw [e]; exact List.mem_cons_self ..))
      · exact h1 z hz
theorem upw_insN {x : Nm} : ∀ {l : List Nm}, upw l → upw (insN x l)
  | [], _ => List.pairwise_singleton _ _
  | y :: l, h => by
    obtain ⟨h1, h2⟩ := List.pairwise_cons.1 h
    rw [insN]
    split
    · rename_i hl
      refine List.pairwise_cons.2 ⟨fun z hz => ?_, h⟩
      rcases List.mem_cons.1 hz with rfl | hz
      · exact lss_asymm hl
      · cases hzx : lss z x with
        | false => rfl
        | true =>
          have := lss_trans _ _ _ hzx hl
          rw [h1 z hz] at this
          cases this
    · rename_i hl
      refine List.pairwise_cons.2 ⟨fun z hz => ?_, upw_insN h2⟩
      rcases (mem_insN x z l).1 hz with rfl | hz
      · simpa using hl
      · exact h1 z hz
/-- Names, rising. -/
def srt (l : List Nm) : List Nm := l.foldl (fun out x => insN x out) []
theorem srt_go : ∀ (l out : List Nm), upw out → upw (l.foldl (fun out x => insN x out) out) ∧ (l.foldl (fun out x => insN x out) out).Perm (out ++ l)
  | [], out, h => ⟨h, by simp⟩
  | x :: l, out, h => by
    obtain ⟨h1, h2⟩ := srt_go l (insN x out) (upw_insN h)
    refine ⟨h1, h2.trans ?_⟩
    refine (List.Perm.append_right l (perm_insN x out)).trans ?_
    rw [List.cons_append]
    exact (List.perm_middle).symm
theorem srt_upw (l : List Nm) : upw (srt l) := (srt_go l [] List.Pairwise.nil).1
theorem srt_perm (l : List Nm) : (srt l).Perm l := (srt_go l [] List.Pairwise.nil).2
/-- There is one such list. -/
theorem upw_uniq : ∀ {a b : List Nm}, a.Perm b → upw a → upw b → a = b
  | [], b, h, _, _ => (List.Perm.nil_eq h)
  | x :: a, [], h, _, _ => by have := h.length_eq; simp at this
  | x :: a, y :: b, h, ha, hb => by
    obtain ⟨a1, a2⟩ := List.pairwise_cons.1 ha
    obtain ⟨b1, b2⟩ := List.pairwise_cons.1 hb
    have hxy : x = y := by
      have hx : x ∈ y :: b := h.subset (List.mem_cons_self ..)
      have hy : y ∈ x :: a := h.symm.subset (List.mem_cons_self ..)
      rcases List.mem_cons.1 hx with e | hx
      · exact e
      · rcases List.mem_cons.1 hy with e | hy
        · exact e.symm
        · exact lss_tri x y (b1 x hx) (a1 y hy)
    subst hxy
    rw [upw_uniq (List.Perm.cons_inv h) a2 b2]
theorem srt_same {l : List Nm} (h : upw l) : srt l = l := upw_uniq (srt_perm l) (srt_upw l) h
/-- Two rising lists with the same names are one. -/
theorem rise_ext {a b : List Nm} (ha : rise a) (hb : rise b) (h : ∀ x, x ∈ a ↔ x ∈ b) : a = b :=
  upw_uniq ((List.perm_ext_iff_of_nodup (rise_nodup ha) (rise_nodup hb)).2 h) (rise_upw ha) (rise_upw hb)
theorem merge_srt (l : List Nm) : l.mergeSort (fun x y => !lss y x) = srt l := by
  refine upw_uniq ((List.mergeSort_perm l _).trans (srt_perm l).symm) ?_ (srt_upw l)
  have := List.pairwise_mergeSort (le := fun x y : Nm => !lss y x) (fun a b c h1 h2 => ?_) (fun a b => ?_) l
  · exact List.Pairwise.imp (fun h => by simpa using h) this
  · have h1' : lss b a = false := by simpa using h1
    have h2' : lss c b = false := by simpa using h2
    cases hca : lss c a with
    | false => rfl
    | true =>
      have := lss_ge_trans (a := b) (b := c) (c := a) h2' hca
      rw [h1'] at this
      cases this
  · cases hba : lss b a with
    | false => simp
    | true => rw [lss_asymm hba]; rfl
end Go.Proofs.Ytmapkmjhpebcbaa
