/-
  Texts, names, nodes and tables of nodes, as plain mathematics. No condition.
-/
import Derived.Test.YtilepnepcamnaaaGreatLeaf
namespace Go.Proofs.YtilepnepcamnaaaGreat
open Go Go.RowKit
set_option maxRecDepth 100000

abbrev Nm := List UInt8
/-- An entry: its name, and its node. -/
abbrev En := Nm × Int
/-- Does a name stand ahead of another one? -/
abbrev lss : Nm → Nm → Bool := Op.bytesLess
theorem lss_nil (a : Nm) : lss a [] = false := by cases a <;> rfl
theorem lss_cons (a b : UInt8) (x y : Nm) : lss (a :: x) (b :: y) = if a = b then lss x y else decide (a < b) := by
  show (decide (a < b) || (a == b && Op.bytesLess x y)) = _
  by_cases h : a = b
  · subst h
    have : ¬ a < a := UInt8.lt_irrefl a
    simp [this]
  · simp [h]
theorem lss_irrefl : ∀ a : Nm, lss a a = false
  | [] => rfl
  | c :: a => by rw [lss_cons, if_pos rfl]; exact lss_irrefl a
theorem lss_tri : ∀ a b : Nm, lss a b = false → lss b a = false → a = b
  | [], [], _, _ => rfl
  | [], _ :: _, h, _ => by cases h
  | _ :: _, [], _, h => by cases h
  | a :: x, b :: y, h1, h2 => by
    rw [lss_cons] at h1 h2
    by_cases h : a = b
    · subst h
      rw [if_pos rfl] at h1 h2
      rw [lss_tri x y h1 h2]
    · rw [if_neg h] at h1
      rw [if_neg (fun e => h e.symm)] at h2
      exfalso
      have h3 : ¬ a < b := by simpa using h1
      have h4 : ¬ b < a := by simpa using h2
      exact h (UInt8.le_antisymm (UInt8.not_lt.1 h4) (UInt8.not_lt.1 h3))
theorem lss_trans : ∀ a b c : Nm, lss a b = true → lss b c = true → lss a c = true
  | _, [], _, h, _ => by rw [lss_nil] at h; cases h
  | _, _ :: _, [], _, h => by rw [lss_nil] at h; cases h
  | [], _ :: _, _ :: _, _, _ => rfl
  | a :: x, b :: y, c :: z, h1, h2 => by
    rw [lss_cons] at h1 h2 ⊢
    by_cases hab : a = b
    · subst hab
      rw [if_pos rfl] at h1
      by_cases hac : a = c
      · subst hac
        rw [if_pos rfl] at h2 ⊢
        exact lss_trans x y z h1 h2
      · rw [if_neg hac] at h2 ⊢
        exact h2
    · rw [if_neg hab] at h1
      have h3 : a < b := by simpa using h1
      by_cases hbc : b = c
      · subst hbc
        rw [if_neg hab]
        exact h1
      · rw [if_neg hbc] at h2
        have h4 : b < c := by simpa using h2
        have h5 : a < c := UInt8.lt_trans h3 h4
        have h6 : ¬ a = c := fun e => UInt8.lt_irrefl c (by rw [e] at h5; exact h5)
        rw [if_neg h6]
        simpa using h5
theorem lss_asymm {a b : Nm} (h : lss a b = true) : lss b a = false := by
  cases hb : lss b a with
  | false => rfl
  | true =>
    have := lss_trans a b a h hb
    rw [lss_irrefl] at this
    cases this
theorem lss_ne {a b : Nm} (h : lss a b = true) : ¬ a = b := by
  intro e
  rw [e, lss_irrefl] at h
  cases h
/-- Not less, and not the same: greater. -/
theorem lss_of {a b : Nm} (h : lss a b = false) (hne : ¬ a = b) : lss b a = true := by
  cases hb : lss b a with
  | true => rfl
  | false => exact absurd (lss_tri a b h hb) hne
theorem lss_ge_trans {a b c : Nm} (h1 : lss b a = false) (h2 : lss b c = true) : lss a c = true := by
  by_cases h : a = b
  · rw [h]; exact h2
  · exact lss_trans _ _ _ (lss_of h1 (fun e => h e.symm)) h2
/-- Two names that begin alike. -/
theorem lss_drop : ∀ (k : Nat) (a b : Nm), a.take k = b.take k → k ≤ a.length → k ≤ b.length → lss a b = lss (a.drop k) (b.drop k)
  | 0, a, b, _, _, _ => by simp
  | k + 1, [], b, _, h, _ => by simp at h
  | k + 1, _ :: _, [], _, _, h => by simp at h
  | k + 1, c :: a, d :: b, ht, ha, hb => by
    rw [List.take_succ_cons, List.take_succ_cons] at ht
    injection ht with h1 h2
    subst h1
    rw [lss_cons, if_pos rfl, List.drop_succ_cons, List.drop_succ_cons]
    exact lss_drop k a b h2 (by simpa using ha) (by simpa using hb)
/-- Where they part. -/
theorem lss_at {a b : Nm} {k : Nat} {c d : UInt8} (ht : a.take k = b.take k) (ha : a[k]? = some c) (hb : b[k]? = some d) (hne : ¬ c = d) : lss a b = decide (c < d) := by
  obtain ⟨h1, e1⟩ := List.getElem?_eq_some_iff.1 ha
  obtain ⟨h2, e2⟩ := List.getElem?_eq_some_iff.1 hb
  rw [lss_drop k a b ht (by omega) (by omega), List.drop_eq_getElem_cons h1, List.drop_eq_getElem_cons h2, e1, e2, lss_cons, if_neg hne]
/-- Where one ends. -/
theorem lss_len {a b : Nm} {k : Nat} (ht : a.take k = b.take k) (ha : k ≤ a.length) (hb : k ≤ b.length) (he : k = a.length ∨ k = b.length) : lss a b = decide (a.length < b.length) := by
  rw [lss_drop k a b ht ha hb]
  by_cases h : k = b.length
  · rw [show b.drop k = [] from List.drop_eq_nil_of_le (by omega), lss_nil]
    rw [decide_eq_false (by omega)]
  · have h2 : k = a.length := by rcases he with he | he; exact he; exact absurd he h
    rw [show a.drop k = [] from List.drop_eq_nil_of_le (by omega)]
    have h3 : k < b.length := by omega
    rw [List.drop_eq_getElem_cons h3, decide_eq_true (by omega)]
    rfl

/-- Names that rise, each above the one ahead. -/
def rise (l : List Nm) : Prop := l.Pairwise fun a b => lss a b = true
/-- Names that don't fall. -/
def upw (l : List Nm) : Prop := l.Pairwise fun a b => lss b a = false
theorem rise_upw {l : List Nm} (h : rise l) : upw l := List.Pairwise.imp (fun h => lss_asymm h) h
theorem rise_nodup {l : List Nm} (h : rise l) : l.Nodup := List.Pairwise.imp (fun h => lss_ne h) h
/-- A name put in ahead of the first that is greater. -/
def insN (x : Nm) : List Nm → List Nm
  | [] => [x]
  | y :: l => if lss x y = true then x :: y :: l else y :: insN x l
def ins (x : En) : List En → List En
  | [] => [x]
  | y :: l => if lss x.1 y.1 = true then x :: y :: l else y :: ins x l
theorem ins_names (x : En) : ∀ l : List En, (ins x l).map Prod.fst = insN x.1 (l.map Prod.fst)
  | [] => rfl
  | y :: l => by
    rw [ins, List.map_cons, insN]
    split
    · rfl
    · rw [List.map_cons, ins_names x l]
theorem mem_insN (x y : Nm) : ∀ l : List Nm, y ∈ insN x l ↔ y = x ∨ y ∈ l
  | [] => by simp [insN]
  | z :: l => by
    rw [insN]
    split
    · simp
    · rw [List.mem_cons, mem_insN x y l, List.mem_cons]
      constructor
      · rintro (h | h | h)
        · exact .inr (.inl h)
        · exact .inl h
        · exact .inr (.inr h)
      · rintro (h | h | h)
        · exact .inr (.inl h)
        · exact .inl h
        · exact .inr (.inr h)
theorem len_insN (x : Nm) : ∀ l : List Nm, (insN x l).length = l.length + 1
  | [] => rfl
  | y :: l => by
    rw [insN]
    split
    · rfl
    · rw [List.length_cons, len_insN x l, List.length_cons]
theorem len_ins (x : En) (l : List En) : (ins x l).length = l.length + 1 := by
  have h := congrArg List.length (ins_names x l)
  rw [List.length_map, len_insN, List.length_map] at h
  exact h
theorem perm_insN (x : Nm) : ∀ l : List Nm, (insN x l).Perm (x :: l)
  | [] => List.Perm.refl _
  | y :: l => by
    rw [insN]
    split
    · exact List.Perm.refl _
    · exact (List.Perm.cons y (perm_insN x l)).trans (List.Perm.swap x y l)
theorem mem_ins (x y : En) : ∀ l : List En, y ∈ ins x l ↔ y = x ∨ y ∈ l
  | [] => by simp [ins]
  | z :: l => by
    rw [ins]
    split
    · simp
    · rw [List.mem_cons, mem_ins x y l, List.mem_cons]
      constructor
      · rintro (h | h | h)
        · exact .inr (.inl h)
        · exact .inl h
        · exact .inr (.inr h)
      · rintro (h | h | h)
        · exact .inr (.inl h)
        · exact .inl h
        · exact .inr (.inr h)
theorem rise_insN {x : Nm} : ∀ {l : List Nm}, rise l → ¬ x ∈ l → rise (insN x l)
  | [], _, _ => List.pairwise_singleton _ _
  | y :: l, h, hx => by
    obtain ⟨h1, h2⟩ := List.pairwise_cons.1 h
    rw [insN]
    split
    · rename_i hl
      refine List.pairwise_cons.2 ⟨fun z hz => ?_, h⟩
      rcases List.mem_cons.1 hz with rfl | hz
      · exact hl
      · exact lss_trans _ _ _ hl (h1 z hz)
    · rename_i hl
      refine List.pairwise_cons.2 ⟨fun z hz => ?_, rise_insN h2 (fun e => hx (List.mem_cons_of_mem _ e))⟩
      rcases (mem_insN x z l).1 hz with rfl | hz
      · exact lss_of (by simpa using hl) (fun e => hx (by rw [e]; exact List.mem_cons_self ..))
      · exact h1 z hz
theorem upw_insN {x : Nm} : ∀ {l : List Nm}, upw l → upw (insN x l)
  | [], _ => List.pairwise_singleton _ _
  | y :: l, h => by
    obtain ⟨h1, h2⟩ := List.pairwise_cons.1 h
    rw [insN]
    split
    · rename_i hl
      refine List.pairwise_cons.2 ⟨fun z hz => ?_, h⟩
      rcases List.mem_cons.1 hz with rfl | hz
      · exact lss_asymm hl
      · cases hzx : lss z x with
        | false => rfl
        | true =>
          have := lss_trans _ _ _ hzx hl
          rw [h1 z hz] at this
          cases this
    · rename_i hl
      refine List.pairwise_cons.2 ⟨fun z hz => ?_, upw_insN h2⟩
      rcases (mem_insN x z l).1 hz with rfl | hz
      · simpa using hl
      · exact h1 z hz
/-- Names, rising. -/
def srt (l : List Nm) : List Nm := l.foldl (fun out x => insN x out) []
theorem srt_go : ∀ (l out : List Nm), upw out → upw (l.foldl (fun out x => insN x out) out) ∧ (l.foldl (fun out x => insN x out) out).Perm (out ++ l)
  | [], out, h => ⟨h, by simp⟩
  | x :: l, out, h => by
    obtain ⟨h1, h2⟩ := srt_go l (insN x out) (upw_insN h)
    refine ⟨h1, h2.trans ?_⟩
    refine (List.Perm.append_right l (perm_insN x out)).trans ?_
    rw [List.cons_append]
    exact (List.perm_middle).symm
theorem srt_upw (l : List Nm) : upw (srt l) := (srt_go l [] List.Pairwise.nil).1
theorem srt_perm (l : List Nm) : (srt l).Perm l := (srt_go l [] List.Pairwise.nil).2
/-- There is one such list. -/
theorem upw_uniq : ∀ {a b : List Nm}, a.Perm b → upw a → upw b → a = b
  | [], b, h, _, _ => (List.Perm.nil_eq h)
  | x :: a, [], h, _, _ => by have := h.length_eq; simp at this
  | x :: a, y :: b, h, ha, hb => by
    obtain ⟨a1, a2⟩ := List.pairwise_cons.1 ha
    obtain ⟨b1, b2⟩ := List.pairwise_cons.1 hb
    have hxy : x = y := by
      have hx : x ∈ y :: b := h.subset (List.mem_cons_self ..)
      have hy : y ∈ x :: a := h.symm.subset (List.mem_cons_self ..)
      rcases List.mem_cons.1 hx with e | hx
      · exact e
      · rcases List.mem_cons.1 hy with e | hy
        · exact e.symm
        · exact lss_tri x y (b1 x hx) (a1 y hy)
    subst hxy
    rw [upw_uniq (List.Perm.cons_inv h) a2 b2]
theorem srt_same {l : List Nm} (h : upw l) : srt l = l := upw_uniq (srt_perm l) (srt_upw l) h
/-- Two rising lists with the same names are one. -/
theorem rise_ext {a b : List Nm} (ha : rise a) (hb : rise b) (h : ∀ x, x ∈ a ↔ x ∈ b) : a = b :=
  upw_uniq ((List.perm_ext_iff_of_nodup (rise_nodup ha) (rise_nodup hb)).2 h) (rise_upw ha) (rise_upw hb)
theorem merge_srt (l : List Nm) : l.mergeSort (fun x y => !lss y x) = srt l := by
  refine upw_uniq ((List.mergeSort_perm l _).trans (srt_perm l).symm) ?_ (srt_upw l)
  have := List.pairwise_mergeSort (le := fun x y : Nm => !lss y x) (fun a b c h1 h2 => ?_) (fun a b => ?_) l
  · exact List.Pairwise.imp (fun h => by simpa using h) this
  · have h1' : lss b a = false := by simpa using h1
    have h2' : lss c b = false := by simpa using h2
    cases hca : lss c a with
    | false => rfl
    | true =>
      have := lss_ge_trans (a := b) (b := c) (c := a) h2' hca
      rw [h1'] at this
      cases this
  · cases hba : lss b a with
    | false => simp
    | true => rw [lss_asymm hba]; rfl
end Go.Proofs.YtilepnepcamnaaaGreat
namespace Go.Proofs.YtilepnepcamnaaaGreat
open Go Go.RowKit
set_option maxRecDepth 100000

/-- The names of entries. -/
def nmE (l : List En) : List Nm := l.map Prod.fst
/-- The node of the first entry with a name; 0: there is none. -/
def fnd : List En → Nm → Int
  | [], _ => 0
  | e :: l, n => if e.1 = n then e.2 else fnd l n
/-- Entries without the first one with a name. -/
def del : List En → Nm → List En
  | [], _ => []
  | e :: l, n => if e.1 = n then l else e :: del l n
theorem len_nmE (l : List En) : (nmE l).length = l.length := List.length_map ..
theorem mem_nmE {l : List En} {e : En} (h : e ∈ l) : e.1 ∈ nmE l := List.mem_map.2 ⟨e, h, rfl⟩
theorem fnd_none : ∀ {l : List En} {n : Nm}, ¬ n ∈ nmE l → fnd l n = 0
  | [], _, _ => rfl
  | e :: l, n, h => by
    rw [fnd, if_neg (fun q => h (by rw [← q]; exact List.mem_cons_self ..))]
    exact fnd_none (fun q => h (List.mem_cons_of_mem _ q))
theorem fnd_some : ∀ {l : List En} {n : Nm}, n ∈ nmE l → ∃ e ∈ l, e.1 = n ∧ fnd l n = e.2
  | [], _, h => by cases h
  | e :: l, n, h => by
    by_cases q : e.1 = n
    · exact ⟨e, List.mem_cons_self .., q, by rw [fnd, if_pos q]⟩
    · have h2 : n ∈ nmE l := by
        rcases List.mem_cons.1 h with h | h
        · exact absurd h.symm q
        · exact h
      obtain ⟨f, h3, h4, h5⟩ := fnd_some h2
      exact ⟨f, List.mem_cons_of_mem _ h3, h4, by rw [fnd, if_neg q]; exact h5⟩
theorem fnd_at : ∀ {l : List En} {e : En}, rise (nmE l) → e ∈ l → fnd l e.1 = e.2
  | [], _, _, h => by cases h
  | f :: l, e, hr, h => by
    obtain ⟨h1, h2⟩ := List.pairwise_cons.1 hr
    rcases List.mem_cons.1 h with rfl | h
    · rw [fnd, if_pos rfl]
    · rw [fnd, if_neg (lss_ne (h1 _ (mem_nmE h)))]
      exact fnd_at h2 h
theorem del_sub : ∀ (l : List En) (n : Nm), (del l n).Sublist l
  | [], _ => List.Sublist.refl _
  | e :: l, n => by
    rw [del]
    split
    · exact List.sublist_cons_self ..
    · exact (del_sub l n).cons_cons e
theorem del_rise {l : List En} (n : Nm) (h : rise (nmE l)) : rise (nmE (del l n)) := List.Pairwise.sublist ((del_sub l n).map _) h
theorem del_len : ∀ {l : List En} {n : Nm}, n ∈ nmE l → (del l n).length + 1 = l.length
  | [], _, h => by cases h
  | e :: l, n, h => by
    rw [del]
    split
    · rfl
    · rename_i q
      have h2 : n ∈ nmE l := by
        rcases List.mem_cons.1 h with h | h
        · exact absurd h.symm q
        · exact h
      rw [List.length_cons, List.length_cons, del_len h2]
theorem del_gone : ∀ {l : List En} {n : Nm}, rise (nmE l) → ¬ n ∈ nmE (del l n)
  | [], _, _ => by intro h; cases h
  | e :: l, n, hr => by
    obtain ⟨h1, h2⟩ := List.pairwise_cons.1 hr
    rw [del]
    split
    · rename_i q
      intro h
      exact lss_ne (h1 n h) q
    · rename_i q
      intro h
      rcases List.mem_cons.1 h with h | h
      · exact q h.symm
      · exact del_gone h2 h
theorem del_ins {n : Nm} {i : Int} : ∀ {l : List En}, ¬ n ∈ nmE l → del (ins (n, i) l) n = l
  | [], _ => by rw [ins, del, if_pos rfl]
  | e :: l, h => by
    rw [ins]
    split
    · rw [del, if_pos rfl]
    · rw [del, if_neg (fun q => h (by rw [← q]; exact List.mem_cons_self ..)), del_ins (fun q => h (List.mem_cons_of_mem _ q))]
theorem fnd_ins {n : Nm} {i : Int} : ∀ {l : List En}, ¬ n ∈ nmE l → fnd (ins (n, i) l) n = i
  | [], _ => by rw [ins, fnd, if_pos rfl]
  | e :: l, h => by
    rw [ins]
    split
    · rw [fnd, if_pos rfl]
    · rw [fnd, if_neg (fun q => h (by rw [← q]; exact List.mem_cons_self ..)), fnd_ins (fun q => h (List.mem_cons_of_mem _ q))]
theorem nmE_ins (x : En) (l : List En) : nmE (ins x l) = insN x.1 (nmE l) := ins_names x l
/-- Rising, name by name. -/
theorem rise_adj : ∀ {l : List Nm}, (∀ i a b, l[i]? = some a → l[i + 1]? = some b → lss a b = true) → rise l
  | [], _ => List.Pairwise.nil
  | [x], _ => List.pairwise_singleton _ _
  | x :: y :: l, h => by
    have ih : rise (y :: l) := rise_adj (fun i a b ha hb => h (i + 1) a b (by simpa using ha) (by simpa using hb))
    have hxy : lss x y = true := h 0 x y rfl rfl
    refine List.pairwise_cons.2 ⟨fun z hz => ?_, ih⟩
    rcases List.mem_cons.1 hz with rfl | hz
    · exact hxy
    · exact lss_trans _ _ _ hxy ((List.pairwise_cons.1 ih).1 z hz)
theorem adj_rise {l : List Nm} (h : rise l) : ∀ i a b, l[i]? = some a → l[i + 1]? = some b → lss a b = true := by
  intro i a b ha hb
  obtain ⟨hi, ei⟩ := List.getElem?_eq_some_iff.1 ha
  obtain ⟨hj, ej⟩ := List.getElem?_eq_some_iff.1 hb
  have := List.pairwise_iff_getElem.1 h i (i + 1) hi hj (by omega)
  rw [ei, ej] at this
  exact this

/-- A node. -/
structure Nd where
  kind : Int
  mode : Int
  uid : Int
  gid : Int
  data : List UInt8
  ents : List En
  target : Nm
def Nd.zero : Nd := ⟨0, 0, 0, 0, [], [], []⟩
/-- A name that no entry may have, however long. -/
def badN (n : Nm) : Bool := n == [] || n == [46] || n == [46, 46] || n.contains 47 || n.contains 0
/-- May an entry have a name? -/
def nok (n : Nm) : Bool := !badN n && decide (n.length ≤ 12)
/-- May a text be a path? -/
def fok (n : Nm) : Bool := decide (0 < n.length ∧ n.length ≤ 64) && !n.contains 0
def entsP (l : List En) : Prop := (∀ e ∈ l, nok e.1 = true ∧ 1 ≤ e.2) ∧ rise (nmE l) ∧ l.length ≤ 8
def headP (n : Nd) : Prop := (0 ≤ n.mode ∧ n.mode ≤ 4095) ∧ (0 ≤ n.uid ∧ n.uid ≤ 65535) ∧ (0 ≤ n.gid ∧ n.gid ≤ 65535)
/-- May a node be? -/
def rightP (n : Nd) : Prop := headP n ∧ (n.kind = 1 ∧ n.ents = [] ∧ n.target = [] ∧ n.data.length ≤ 48 ∨ n.kind = 2 ∧ n.data = [] ∧ n.target = [] ∧ entsP n.ents ∨ n.kind = 3 ∧ n.data = [] ∧ n.ents = [] ∧ n.mode = 511 ∧ fok n.target = true)
def sizM (n : Nd) : Int := if n.kind = 1 then n.data.length else if n.kind = 2 then n.ents.length else if n.kind = 3 then n.target.length else 0
theorem siz_dir {n : Nd} (hk : n.kind = 2) : sizM n = n.ents.length := by
  unfold sizM
  rw [if_neg (show ¬ n.kind = 1 by omega), if_pos hk]
/-- A node with one entry more: the error, and what is left. -/
def withE (n : Nd) (name : Nm) (id : Int) : Int :=
  if n.kind ≠ 2 then 20 else if id < 1 ∨ badN name = true then 22 else if 12 < name.length then 36 else if name ∈ nmE n.ents then 17 else if 8 ≤ n.ents.length then 28 else 0
def withM (n : Nd) (name : Nm) (id : Int) : Nd := if withE n name id = 0 then { n with ents := ins (name, id) n.ents } else Nd.zero
def outE (n : Nd) (name : Nm) : Int := if n.kind ≠ 2 then 20 else if name ∈ nmE n.ents then 0 else 2
def outM (n : Nd) (name : Nm) : Nd := if outE n name = 0 then { n with ents := del n.ents name } else Nd.zero
theorem withE_zero {n : Nd} {name : Nm} {id : Int} : withE n name id = 0 ↔ n.kind = 2 ∧ 1 ≤ id ∧ nok name = true ∧ ¬ name ∈ nmE n.ents ∧ n.ents.length < 8 := by
  unfold withE nok
  by_cases h1 : n.kind ≠ 2
  · rw [if_pos h1]
    constructor
    · intro h; omega
    · intro h; exact absurd h.1 h1
  · rw [if_neg h1]
    have h1' : n.kind = 2 := by omega
    by_cases h2 : id < 1 ∨ badN name = true
    · rw [if_pos h2]
      constructor
      · intro h; omega
      · rintro ⟨_, h3, h4, _⟩
        rcases h2 with h2 | h2
        · omega
        · rw [h2] at h4; cases h4
    · rw [if_neg h2]
      have h2a : ¬ id < 1 := fun e => h2 (.inl e)
      have h2b : badN name = false := by cases hb : badN name with
        | false => rfl
        | true => exact absurd (.inr hb) h2
      by_cases h3 : 12 < name.length
      · rw [if_pos h3]
        constructor
        · intro h; omega
        · rintro ⟨_, _, h4, _⟩
          rw [h2b, decide_eq_false (by omega)] at h4
          cases h4
      · rw [if_neg h3]
        by_cases h4 : name ∈ nmE n.ents
        · rw [if_pos h4]
          constructor
          · intro h; omega
          · rintro ⟨_, _, _, h5, _⟩
            exact absurd h4 h5
        · rw [if_neg h4]
          by_cases h5 : 8 ≤ n.ents.length
          · rw [if_pos h5]
            constructor
            · intro h; omega
            · rintro ⟨_, _, _, _, h6⟩; omega
          · rw [if_neg h5]
            exact ⟨fun _ => ⟨h1', by omega, by rw [h2b, decide_eq_true (by omega)]; rfl, h4, by omega⟩, fun _ => rfl⟩
theorem right_dir {n : Nd} (h : rightP n) (hk : n.kind = 2) : headP n ∧ n.data = [] ∧ n.target = [] ∧ entsP n.ents := by
  refine ⟨h.1, ?_⟩
  rcases h.2 with ⟨e, _⟩ | ⟨_, h2⟩ | ⟨e, _⟩
  · omega
  · exact h2
  · omega
theorem ents_ins {l : List En} {name : Nm} {id : Int} (h : entsP l) (h1 : 1 ≤ id) (h2 : nok name = true) (h3 : ¬ name ∈ nmE l) (h4 : l.length < 8) : entsP (ins (name, id) l) := by
  refine ⟨fun e he => ?_, ?_, by rw [len_ins]; omega⟩
  · rcases (mem_ins _ _ _).1 he with rfl | he
    · exact ⟨h2, h1⟩
    · exact h.1 e he
  · rw [nmE_ins]
    exact rise_insN h.2.1 h3
theorem ents_del {l : List En} (name : Nm) (h : entsP l) : entsP (del l name) := by
  refine ⟨fun e he => h.1 e ((del_sub l name).subset he), del_rise name h.2.1, ?_⟩
  have := (del_sub l name).length_le
  have := h.2.2
  omega
/-- What is right stays so, with one entry more. -/
theorem right_with {n : Nd} {name : Nm} {id : Int} (h : rightP n) (he : withE n name id = 0) : rightP (withM n name id) ∧ outE (withM n name id) name = 0 ∧ outM (withM n name id) name = n ∧ fnd (withM n name id).ents name = id ∧ sizM (withM n name id) = sizM n + 1 := by
  obtain ⟨hk, h1, h2, h3, h4⟩ := withE_zero.1 he
  obtain ⟨hh, hd, ht, hen⟩ := right_dir h hk
  have hM : withM n name id = { n with ents := ins (name, id) n.ents } := if_pos he
  have ho : outE { n with ents := ins (name, id) n.ents } name = 0 := by
    unfold outE
    rw [if_neg (fun e => e hk), if_pos (by show name ∈ nmE (ins (name, id) n.ents); rw [nmE_ins, mem_insN]; exact .inl rfl)]
  rw [hM]
  refine ⟨⟨hh, .inr (.inl ⟨hk, hd, ht, ents_ins hen h1 h2 h3 h4⟩)⟩, ho, ?_, fnd_ins h3, ?_⟩
  · unfold outM
    rw [if_pos ho]
    show ({ n with ents := del (ins (name, id) n.ents) name } : Nd) = n
    rw [del_ins h3]
  · rw [siz_dir (n := { n with ents := ins (name, id) n.ents }) hk, siz_dir hk]
    show ((ins (name, id) n.ents).length : Int) = _
    rw [len_ins]
    rfl
/-- What is right stays so, with one entry less. -/
theorem right_out {n : Nd} {name : Nm} (h : rightP n) (he : outE n name = 0) : rightP (outM n name) ∧ fnd (outM n name).ents name = 0 ∧ sizM (outM n name) = sizM n - 1 := by
  have hk : n.kind = 2 := by
    unfold outE at he
    by_cases hk : n.kind = 2
    · exact hk
    · rw [if_pos hk] at he; omega
  have hm : name ∈ nmE n.ents := by
    unfold outE at he
    rw [if_neg (fun e => e hk)] at he
    by_cases hm : name ∈ nmE n.ents
    · exact hm
    · rw [if_neg hm] at he; omega
  obtain ⟨hh, hd, ht, hen⟩ := right_dir h hk
  have hM : outM n name = { n with ents := del n.ents name } := if_pos he
  rw [hM]
  refine ⟨⟨hh, .inr (.inl ⟨hk, hd, ht, ents_del name hen⟩)⟩, fnd_none (del_gone hen.2.1), ?_⟩
  rw [siz_dir (n := { n with ents := del n.ents name }) hk, siz_dir hk]
  show ((del n.ents name).length : Int) = _
  have := del_len hm
  omega
/-- In what is right each name is found, and no other one. -/
theorem right_finds {n : Nd} (h : rightP n) (hk : n.kind = 2) : srt (nmE n.ents) = nmE n.ents ∧ (∀ (i : Nat) (e : En), n.ents[i]? = some e → fnd n.ents e.1 = e.2 ∧ (nmE n.ents)[i]? = some e.1) ∧ (∀ name, (0 < fnd n.ents name) ↔ name ∈ nmE n.ents) := by
  obtain ⟨_, _, _, hen⟩ := right_dir h hk
  refine ⟨srt_same (rise_upw hen.2.1), fun i e he => ⟨fnd_at hen.2.1 (List.mem_of_getElem? he), by rw [nmE, List.getElem?_map, he]; rfl⟩, fun name => ?_⟩
  constructor
  · intro h0
    by_cases hm : name ∈ nmE n.ents
    · exact hm
    · rw [fnd_none hm] at h0; omega
  · intro hm
    obtain ⟨e, h1, _, h3⟩ := fnd_some hm
    have := (hen.1 e h1).2
    omega
theorem right_other {n : Nd} (h : rightP n) (hk : ¬ n.kind = 2) : n.ents = [] := by
  rcases h.2 with ⟨_, h2, _⟩ | ⟨e, _⟩ | ⟨_, _, h2, _⟩
  · exact h2
  · exact absurd e hk
  · exact h2
end Go.Proofs.YtilepnepcamnaaaGreat
namespace Go.Proofs.YtilepnepcamnaaaGreat
open Go Go.RowKit
set_option maxRecDepth 100000

/-- The node of a number; the zero one: there is none. -/
def tget (t : List Nd) (i : Int) : Nd := if 1 ≤ i ∧ i ≤ t.length then t.getD (i - 1).toNat Nd.zero else Nd.zero
/-- Is there a node of a number? -/
def tis (t : List Nd) (i : Int) : Bool := decide ((tget t i).kind ≠ 0)
/-- How many entries have a node. -/
def cntE (l : List En) (i : Int) : Nat := l.countP (fun e => decide (e.2 = i))
def linkT (t : List Nd) (i : Int) : Nat := (t.map (fun n => cntE n.ents i)).sum
/-- The least number of a node that has an entry that has it, counted on from a number; 0: there is none. -/
def parT : List Nd → Nat → Int → Nat
  | [], _, _ => 0
  | n :: t, d, i => if cntE n.ents i = 0 then parT t (d + 1) i else d + 1
def usedT (t : List Nd) : Nat := t.countP (fun n => decide (n.kind ≠ 0))
/-- The least number that has no node, counted on from a number; 0: there is none. -/
def freeT : List Nd → Nat → Nat
  | [], _ => 0
  | n :: t, d => if n.kind = 0 then d + 1 else freeT t (d + 1)
/-- All nodes may be. -/
def okT (t : List Nd) : Prop := ∀ n ∈ t, n = Nd.zero ∨ rightP n

theorem right_kind {n : Nd} (h : rightP n) : n.kind ≠ 0 := by
  rcases h.2 with h | h | h <;> omega
theorem ok_new (r : Nat) : okT (List.replicate r Nd.zero) := fun _ h => Or.inl (List.eq_of_mem_replicate h)
theorem ok_set {t : List Nd} (h : okT t) (k : Nat) {n : Nd} (hn : n = Nd.zero ∨ rightP n) : okT (t.set k n) := by
  intro m hm
  rcases List.mem_or_eq_of_mem_set hm with q | q
  · exact h m q
  · rw [q]; exact hn
theorem tget_at {t : List Nd} {k : Nat} (h : k < t.length) : tget t (k + 1) = t[k] := by
  unfold tget
  rw [if_pos ⟨by omega, by omega⟩, show ((k : Int) + 1 - 1).toNat = k by omega, List.getD_eq_getElem?_getD, List.getElem?_eq_getElem h]
  rfl
theorem tget_out {t : List Nd} {i : Int} (h : ¬ (1 ≤ i ∧ i ≤ t.length)) : tget t i = Nd.zero := if_neg h
theorem ok_tget {t : List Nd} (h : okT t) (i : Int) : tget t i = Nd.zero ∨ rightP (tget t i) := by
  by_cases q : 1 ≤ i ∧ i ≤ t.length
  · have e : i = ((i - 1).toNat : Int) + 1 := by omega
    rw [e, tget_at (by omega)]
    exact h _ (List.getElem_mem _)
  · exact Or.inl (tget_out q)
theorem tis_right {t : List Nd} (h : okT t) {i : Int} (hi : tis t i = true) : rightP (tget t i) := by
  rcases ok_tget h i with q | q
  · have hi := of_decide_eq_true hi
    rw [q] at hi
    exact absurd rfl hi
  · exact q
theorem tis_not {t : List Nd} (h : okT t) {i : Int} (hi : tis t i = false) : tget t i = Nd.zero := by
  rcases ok_tget h i with q | q
  · exact q
  · exact absurd (right_kind q) (of_decide_eq_false hi)
/-- Only directories have entries. -/
theorem ok_ents {t : List Nd} (h : okT t) {n : Nd} (hn : n ∈ t) (hk : n.kind ≠ 2) : n.ents = [] := by
  rcases h n hn with q | q
  · rw [q]; rfl
  · rcases q.2 with q | q | q
    · exact q.2.1
    · exact absurd q.1 hk
    · exact q.2.2.1
theorem par_zero {i : Int} : ∀ (t : List Nd) (d : Nat), parT t d i = 0 ↔ linkT t i = 0
  | [], _ => by simp [parT, linkT]
  | n :: t, d => by
    have ih := par_zero (i := i) t (d + 1)
    unfold linkT at ih ⊢
    rw [List.map_cons, List.sum_cons, parT]
    split
    · rename_i q
      rw [ih, q, Nat.zero_add]
    · rename_i q
      constructor
      · intro h; omega
      · intro h; omega
theorem par_le {i : Int} : ∀ (t : List Nd) (d : Nat), parT t d i ≤ d + t.length
  | [], _ => Nat.zero_le _
  | n :: t, d => by
    have ih := par_le (i := i) t (d + 1)
    rw [parT, List.length_cons]
    split <;> omega

/-- How many entries have a number that is told. -/
theorem cnt_list (l : List En) : ∀ (L : List Int), L.Nodup → (L.map (fun i => cntE l i)).sum = l.countP (fun e => decide (e.2 ∈ L))
  | [], _ => by simp
  | i :: L, h => by
    obtain ⟨h1, h2⟩ := List.nodup_cons.1 h
    rw [List.map_cons, List.sum_cons, cnt_list l L h2]
    unfold cntE
    clear h h2
    induction l with
    | nil => rfl
    | cons e l ih =>
      simp only [List.mem_cons] at ih ⊢
      rw [List.countP_cons, List.countP_cons, List.countP_cons]
      by_cases q : e.2 = i
      · have q2 : ¬ e.2 ∈ L := by rw [q]; exact h1
        simp only [q, decide_true, true_or, if_true, h1, decide_false, Bool.false_eq_true, if_false]
        omega
      · by_cases q2 : e.2 ∈ L
        · simp only [q, q2, or_true, decide_true, decide_false, if_true, Bool.false_eq_true, if_false]
          omega
        · simp only [q, q2, or_self, decide_false, Bool.false_eq_true, if_false]
          omega
theorem link_list (L : List Int) (h : L.Nodup) : ∀ (t : List Nd), (L.map (fun i => linkT t i)).sum = (t.map (fun n => n.ents.countP (fun e => decide (e.2 ∈ L)))).sum
  | [] => by
    unfold linkT
    induction L with
    | nil => rfl
    | cons i L ih =>
      rw [List.map_cons, List.sum_cons, ih (List.nodup_cons.1 h).2]
      rfl
  | n :: t => by
    have ih := link_list L h t
    rw [List.map_cons, List.sum_cons, ← ih, ← cnt_list n.ents L h]
    clear ih h
    induction L with
    | nil => rfl
    | cons i L ih =>
      rw [List.map_cons, List.sum_cons, ih, List.map_cons, List.sum_cons, List.map_cons, List.sum_cons]
      have : linkT (n :: t) i = cntE n.ents i + linkT t i := by
        unfold linkT
        rw [List.map_cons, List.sum_cons]
      rw [this]
      omega
/-- All entries of a table. -/
def entT (t : List Nd) : Nat := (t.map (fun n => n.ents.length)).sum
theorem link_le (L : List Int) (h : L.Nodup) (t : List Nd) : (L.map (fun i => linkT t i)).sum ≤ entT t := by
  rw [link_list L h t]
  unfold entT
  induction t with
  | nil => exact Nat.le_refl _
  | cons n t ih =>
    rw [List.map_cons, List.sum_cons, List.map_cons, List.sum_cons]
    have := List.countP_le_length (p := fun e : En => decide (e.2 ∈ L)) (l := n.ents)
    omega
theorem link_all (L : List Int) (h : L.Nodup) (t : List Nd) (hw : ∀ n ∈ t, ∀ e ∈ n.ents, e.2 ∈ L) : (L.map (fun i => linkT t i)).sum = entT t := by
  rw [link_list L h t]
  unfold entT
  induction t with
  | nil => rfl
  | cons n t ih =>
    rw [List.map_cons, List.sum_cons, List.map_cons, List.sum_cons, ih (fun m hm => hw m (List.mem_cons_of_mem _ hm))]
    have : n.ents.countP (fun e => decide (e.2 ∈ L)) = n.ents.length :=
      List.countP_eq_length.2 (fun e he => decide_eq_true (hw n (List.mem_cons_self ..) e he))
    omega
/-- The numbers from 1 that have nodes, up to a number. -/
def numT (t : List Nd) : Nat → List Int
  | 0 => []
  | k + 1 => if tis t (k + 1) = true then ((k : Int) + 1) :: numT t k else numT t k
theorem mem_numT {t : List Nd} {i : Int} : ∀ {k : Nat}, i ∈ numT t k ↔ 1 ≤ i ∧ i ≤ k ∧ tis t i = true
  | 0 => by
    constructor
    · intro h; cases h
    · intro h; omega
  | k + 1 => by
    have ih := mem_numT (t := t) (i := i) (k := k)
    rw [numT]
    by_cases q : i = (k : Int) + 1
    · subst q
      split
      · rename_i q2
        exact ⟨fun _ => ⟨by omega, by omega, q2⟩, fun _ => List.mem_cons_self ..⟩
      · rename_i q2
        constructor
        · intro h
          have := ih.1 h
          omega
        · intro h; exact absurd h.2.2 q2
    · split
      · rw [List.mem_cons]
        constructor
        · rintro (h | h)
          · exact absurd h q
          · have := ih.1 h
            exact ⟨this.1, by omega, this.2.2⟩
        · intro h
          exact Or.inr (ih.2 ⟨h.1, by omega, h.2.2⟩)
      · rw [ih]
        constructor
        · intro h; exact ⟨h.1, by omega, h.2.2⟩
        · intro h; exact ⟨h.1, by omega, h.2.2⟩
theorem nodup_numT (t : List Nd) : ∀ k, (numT t k).Nodup
  | 0 => List.nodup_nil
  | k + 1 => by
    rw [numT]
    split
    · refine List.nodup_cons.2 ⟨fun h => ?_, nodup_numT t k⟩
      have := mem_numT.1 h
      omega
    · exact nodup_numT t k
/-- All links of the nodes up to a number, as a loop counts them. -/
def lnkT (t : List Nd) : Nat → Nat
  | 0 => 0
  | k + 1 => lnkT t k + if tis t (k + 1) = true then linkT t (k + 1) else 0
theorem lnk_num (t : List Nd) : ∀ k, lnkT t k = ((numT t k).map (fun i => linkT t i)).sum
  | 0 => rfl
  | k + 1 => by
    rw [lnkT, lnk_num t k, numT]
    split
    · rw [List.map_cons, List.sum_cons]; omega
    · omega
theorem lnk_le (t : List Nd) (k : Nat) : lnkT t k ≤ entT t := by
  rw [lnk_num]; exact link_le _ (nodup_numT t k) t
theorem lnk_all {t : List Nd} {k : Nat} (hk : t.length ≤ k) (hw : ∀ n ∈ t, ∀ e ∈ n.ents, tis t e.2 = true) : lnkT t k = entT t := by
  rw [lnk_num]
  refine link_all _ (nodup_numT t k) t (fun n hn e he => mem_numT.2 ?_)
  have h := hw n hn e he
  refine ⟨?_, ?_, h⟩
  · by_cases q : 1 ≤ e.2 ∧ e.2 ≤ t.length
    · exact q.1
    · rw [tis, tget_out q] at h; exact absurd rfl (of_decide_eq_true h)
  · by_cases q : 1 ≤ e.2 ∧ e.2 ≤ t.length
    · omega
    · rw [tis, tget_out q] at h; exact absurd rfl (of_decide_eq_true h)

/-- The least free number. -/
theorem free_none : ∀ {t : List Nd} {d : Nat}, freeT t d = 0 ↔ usedT t = t.length
  | [], _ => by simp [freeT, usedT]
  | n :: t, d => by
    have ih := free_none (t := t) (d := d + 1)
    have hl : usedT t ≤ t.length := List.countP_le_length
    have hc : usedT (n :: t) = usedT t + if decide (n.kind ≠ 0) = true then 1 else 0 := List.countP_cons ..
    rw [freeT, hc, List.length_cons]
    by_cases q : n.kind = 0
    · rw [if_pos q, if_neg (by simp [q])]; omega
    · rw [if_neg q, if_pos (by simp [q]), ih]; omega
theorem free_some : ∀ {t : List Nd} {d : Nat}, freeT t d ≠ 0 → ∃ k, ∃ h : k < t.length, freeT t d = d + k + 1 ∧ (t[k]).kind = 0 ∧ ∀ j, ∀ hj : j < k, (t[j]'(by omega)).kind ≠ 0
  | [], _, h => absurd rfl h
  | n :: t, d, h => by
    rw [freeT] at h ⊢
    by_cases q : n.kind = 0
    · rw [if_pos q]
      exact ⟨0, Nat.succ_pos _, by omega, q, fun j hj => absurd hj (Nat.not_lt_zero j)⟩
    · rw [if_neg q] at h ⊢
      obtain ⟨k, hk, h1, h2, h3⟩ := free_some h
      refine ⟨k + 1, by rw [List.length_cons]; omega, by omega, h2, fun j hj => ?_⟩
      cases j with
      | zero => exact q
      | succ j => exact h3 j (by omega)
theorem used_set : ∀ {t : List Nd} {k : Nat} (h : k < t.length) (n : Nd), usedT (t.set k n) + (if (t[k]).kind ≠ 0 then 1 else 0) = usedT t + if n.kind ≠ 0 then 1 else 0
  | [], _, h, _ => absurd h (Nat.not_lt_zero _)
  | m :: t, 0, _, n => by
    have h1 : usedT (n :: t) = usedT t + if decide (n.kind ≠ 0) = true then 1 else 0 := List.countP_cons ..
    have h2 : usedT (m :: t) = usedT t + if decide (m.kind ≠ 0) = true then 1 else 0 := List.countP_cons ..
    rw [List.set_cons_zero, h1, h2]
    simp only [decide_eq_true_eq, List.getElem_cons_zero]
    omega
  | m :: t, k + 1, h, n => by
    have ih := used_set (t := t) (k := k) (by rw [List.length_cons] at h; omega) n
    have h1 : usedT (m :: t.set k n) = usedT (t.set k n) + if decide (m.kind ≠ 0) = true then 1 else 0 := List.countP_cons ..
    have h2 : usedT (m :: t) = usedT t + if decide (m.kind ≠ 0) = true then 1 else 0 := List.countP_cons ..
    rw [List.set_cons_succ, h1, h2]
    simp only [List.getElem_cons_succ]
    omega

/-- What is put, added and dropped: the table, and the answer. -/
def putE (t : List Nd) (i : Int) (right : Bool) : Int := if tis t i = false then 2 else if right = false then 22 else 0
def setT (t : List Nd) (i : Int) (n : Nd) : List Nd := t.set (i - 1).toNat n
def addE (t : List Nd) (right : Bool) : Int := if right = false then 22 else if freeT t 0 = 0 then 28 else 0
theorem len_setT (t : List Nd) (i : Int) (n : Nd) : (setT t i n).length = t.length := List.length_set ..
theorem tget_set {t : List Nd} {i j : Int} {n : Nd} (h : 1 ≤ i ∧ i ≤ t.length) : tget (setT t i n) j = if j = i then n else tget t j := by
  by_cases q : 1 ≤ j ∧ j ≤ t.length
  · have e : j = ((j - 1).toNat : Int) + 1 := by omega
    have hl : (j - 1).toNat < (setT t i n).length := by rw [len_setT]; omega
    have h1 : tget (setT t i n) j = (setT t i n)[(j - 1).toNat] := by
      have := tget_at hl
      rw [← e] at this
      exact this
    have h2 : tget t j = t[(j - 1).toNat]'(by omega) := by
      have := tget_at (t := t) (k := (j - 1).toNat) (by omega)
      rw [← e] at this
      exact this
    rw [h1, h2, show (setT t i n)[(j - 1).toNat] = if (i - 1).toNat = (j - 1).toNat then n else t[(j - 1).toNat]'(by omega) from List.getElem_set ..]
    by_cases q2 : j = i
    · rw [if_pos (by rw [q2]), if_pos q2]
    · rw [if_neg (by omega), if_neg q2]
  · rw [tget_out (by rw [len_setT]; exact q), tget_out q, if_neg (by rintro rfl; exact q h)]
theorem tget_ext {t u : List Nd} (hl : t.length = u.length) (h : ∀ k : Nat, k < t.length → tget t (k + 1) = tget u (k + 1)) : t = u := by
  refine List.ext_getElem hl (fun k h1 h2 => ?_)
  have := h k h1
  rwa [tget_at h1, tget_at h2] at this
theorem cnt_pos {l : List En} {i : Int} : cntE l i ≠ 0 ↔ ∃ e ∈ l, e.2 = i := by
  unfold cntE
  constructor
  · intro h
    obtain ⟨e, h1, h2⟩ := List.countP_pos_iff.1 (Nat.pos_of_ne_zero h)
    exact ⟨e, h1, of_decide_eq_true h2⟩
  · rintro ⟨e, h1, h2⟩
    exact Nat.pos_iff_ne_zero.1 (List.countP_pos_iff.2 ⟨e, h1, decide_eq_true h2⟩)
end Go.Proofs.YtilepnepcamnaaaGreat
namespace Go.Proofs.YtilepnepcamnaaaGreat
open Go Go.RowKit
set_option maxRecDepth 100000

theorem fil_len (a : Int) : ∀ (l : List Int), l.Nodup → l.length ≤ (l.filter (fun x => decide (x ≠ a))).length + 1
  | [], _ => Nat.zero_le _
  | x :: l, h => by
    obtain ⟨h1, h2⟩ := List.nodup_cons.1 h
    by_cases q : x = a
    · have e : l.filter (fun x => decide (x ≠ a)) = l := by
        refine List.filter_eq_self.2 (fun y hy => decide_eq_true ?_)
        rintro rfl
        exact h1 (q ▸ hy)
      rw [List.filter_cons_of_neg (by simp [q]), e, List.length_cons]
      exact Nat.le_refl _
    · have ih := fil_len a l h2
      rw [List.filter_cons_of_pos (by simp [q]), List.length_cons, List.length_cons]
      omega
/-- Different numbers from 1 to L are no more than L. -/
theorem pig : ∀ (L : Nat) (l : List Int), l.Nodup → (∀ x ∈ l, 1 ≤ x ∧ x ≤ L) → l.length ≤ L
  | 0, l, _, h => by
    cases l with
    | nil => exact Nat.le_refl _
    | cons x l =>
      have := h x (List.mem_cons_self ..)
      omega
  | L + 1, l, hn, h => by
    have h1 := pig L (l.filter (fun x => decide (x ≠ (L : Int) + 1))) (List.Pairwise.filter _ hn) (fun x hx => by
      obtain ⟨ha, hb⟩ := List.mem_filter.1 hx
      have hb := of_decide_eq_true hb
      have := h x ha
      omega)
    have h2 := fil_len ((L : Int) + 1) l hn
    omega
/-- Going on, some times. -/
def itr (f : Int → Int) : Nat → Int → Int
  | 0, i => i
  | m + 1, i => itr f m (f i)
theorem itr_add (f : Int → Int) : ∀ (a b : Nat) (i : Int), itr f (a + b) i = itr f b (itr f a i)
  | 0, b, i => by rw [Nat.zero_add]; rfl
  | a + 1, b, i => by
    rw [show a + 1 + b = (a + b) + 1 by omega]
    exact itr_add f a b (f i)
/-- Does one come to 1, in less than so many steps? -/
def rootT (f : Int → Int) : Nat → Int → Bool
  | 0, _ => false
  | k + 1, i => decide (i = 1) || rootT f k (f i)
theorem root_iff {f : Int → Int} : ∀ {k : Nat} {i : Int}, rootT f k i = true ↔ ∃ m, m < k ∧ itr f m i = 1
  | 0, i => by
    constructor
    · intro h; cases h
    · rintro ⟨m, h, _⟩; omega
  | k + 1, i => by
    have ih := root_iff (f := f) (k := k) (i := f i)
    rw [rootT, Bool.or_eq_true, ih]
    constructor
    · rintro (h | ⟨m, h, h2⟩)
      · exact ⟨0, Nat.succ_pos _, of_decide_eq_true h⟩
      · exact ⟨m + 1, by omega, h2⟩
    · rintro ⟨m, h, h2⟩
      cases m with
      | zero => exact Or.inl (decide_eq_true h2)
      | succ m => exact Or.inr ⟨m, by omega, h2⟩
theorem itr_zero {f : Int → Int} (h : f 0 = 0) : ∀ m, itr f m 0 = 0
  | 0 => rfl
  | m + 1 => by
    rw [itr, h]
    exact itr_zero h m
/-- Numbers that one comes through. -/
def ways (f : Int → Int) : Nat → Int → List Int
  | 0, i => [i]
  | m + 1, i => i :: ways f m (f i)
theorem len_ways (f : Int → Int) : ∀ (m : Nat) (i : Int), (ways f m i).length = m + 1
  | 0, _ => rfl
  | m + 1, i => by rw [ways, List.length_cons, len_ways f m (f i)]
theorem mem_ways {f : Int → Int} {x : Int} : ∀ {m : Nat} {i : Int}, x ∈ ways f m i → ∃ a, a ≤ m ∧ itr f a i = x
  | 0, i, h => ⟨0, Nat.le_refl _, by rw [ways, List.mem_singleton] at h; exact h.symm⟩
  | m + 1, i, h => by
    rw [ways] at h
    rcases List.mem_cons.1 h with h | h
    · exact ⟨0, Nat.zero_le _, h.symm⟩
    · obtain ⟨a, h1, h2⟩ := mem_ways h
      exact ⟨a + 1, by omega, h2⟩
/-- The shortest way to 1 has no number twice. -/
theorem nodup_ways {f : Int → Int} : ∀ {m : Nat} {i : Int}, itr f m i = 1 → (∀ a, a < m → itr f a i ≠ 1) → (ways f m i).Nodup
  | 0, i, _, _ => by rw [ways]; exact List.nodup_cons.2 ⟨List.not_mem_nil, List.nodup_nil⟩
  | m + 1, i, h, hmin => by
    rw [ways]
    refine List.nodup_cons.2 ⟨fun hx => ?_, nodup_ways (i := f i) h (fun a ha => hmin (a + 1) (by omega))⟩
    obtain ⟨a, h1, h2⟩ := mem_ways hx
    -- behind a + 1 steps one is at i again, so 1 comes earlier
    have h3 : itr f (a + 1) i = i := h2
    have h4 : itr f (m - a) i = 1 := by
      have h5 := itr_add f (a + 1) (m - a) i
      rw [show a + 1 + (m - a) = m + 1 by omega, h3] at h5
      rw [← h5]; exact h
    exact hmin (m - a) (by omega) h4
theorem least_way {f : Int → Int} {i : Int} : ∀ (m : Nat), itr f m i = 1 → ∃ k, k ≤ m ∧ itr f k i = 1 ∧ ∀ a, a < k → itr f a i ≠ 1 := by
  intro m
  induction m using Nat.strongRecOn with
  | ind m ih =>
    intro h
    by_cases q : ∃ a, a < m ∧ itr f a i = 1
    · obtain ⟨a, h1, h2⟩ := q
      obtain ⟨k, h3, h4, h5⟩ := ih a h1 h2
      exact ⟨k, by omega, h4, h5⟩
    · exact ⟨m, Nat.le_refl _, h, fun a ha hb => q ⟨a, ha, hb⟩⟩
/-- If one ever comes to 1, then in less steps than there are numbers. -/
theorem root_bound {f : Int → Int} {L : Nat} (h0 : f 0 = 0) (hf : ∀ x, 0 ≤ f x ∧ f x ≤ L) {i : Int} (hi : 0 ≤ i ∧ i ≤ L) {m : Nat} (h : itr f m i = 1) : ∃ k, k < L ∧ itr f k i = 1 := by
  obtain ⟨k, _, h2, h3⟩ := least_way m h
  have hr : ∀ a, 0 ≤ itr f a i ∧ itr f a i ≤ L := by
    intro a
    cases a with
    | zero => exact hi
    | succ a =>
      have := itr_add f a 1 i
      rw [this]
      exact hf _
  refine ⟨k, ?_, h2⟩
  have h4 := pig L (ways f k i) (nodup_ways h2 h3) (fun x hx => by
    obtain ⟨a, ha, hb⟩ := mem_ways hx
    have h5 := hr a
    rw [hb] at h5
    by_cases q : x = 0
    · have h6 := itr_add f a (k - a) i
      rw [hb, q, itr_zero h0, show a + (k - a) = k by omega, h2] at h6
      omega
    · omega)
  rw [len_ways] at h4
  omega
theorem root_same {f : Int → Int} {L k l : Nat} (h0 : f 0 = 0) (hf : ∀ x, 0 ≤ f x ∧ f x ≤ L) {i : Int} (hi : 0 ≤ i ∧ i ≤ L) (hk : L ≤ k) (hl : L ≤ l) : rootT f k i = rootT f l i := by
  have h : ∀ {a b : Nat}, L ≤ a → L ≤ b → rootT f a i = true → rootT f b i = true := by
    intro a b _ hb h
    obtain ⟨m, _, h2⟩ := root_iff.1 h
    obtain ⟨k, h3, h4⟩ := root_bound h0 hf hi h2
    exact root_iff.2 ⟨k, by omega, h4⟩
  cases q : rootT f l i with
  | true => exact h hl hk q
  | false =>
    cases q2 : rootT f k i with
    | false => rfl
    | true => rw [h hk hl q2] at q; cases q
/-- The parents of a table whose nodes may be. -/
def parF (t : List Nd) (i : Int) : Int := (parT t 0 i : Int)
theorem parF_le (t : List Nd) (i : Int) : 0 ≤ parF t i ∧ parF t i ≤ t.length := by
  have := par_le (i := i) t 0
  unfold parF
  omega
theorem link_low {t : List Nd} (h : okT t) {i : Int} (hi : i < 1) : linkT t i = 0 := by
  unfold linkT
  induction t with
  | nil => rfl
  | cons n t ih =>
    rw [List.map_cons, List.sum_cons, ih (fun m hm => h m (List.mem_cons_of_mem _ hm)), Nat.add_zero]
    by_cases q : cntE n.ents i = 0
    · exact q
    · obtain ⟨e, h1, h2⟩ := cnt_pos.1 q
      rcases h n (List.mem_cons_self ..) with q | q
      · rw [q] at h1; cases h1
      · rcases q.2 with q | q | q
        · rw [q.2.1] at h1; cases h1
        · have := (q.2.2.2.1 e h1).2
          omega
        · rw [q.2.2.1] at h1; cases h1
theorem parF_zero {t : List Nd} (h : okT t) : parF t 0 = 0 := by
  unfold parF
  rw [(par_zero t 0).2 (link_low h (by omega))]
  rfl
/-- Is a table a tree, but for some that are open? -/
def treeP (t : List Nd) (op : List Int) : Prop :=
  (tget t 1).kind = 2 ∧ linkT t 1 = 0 ∧ (∀ n ∈ t, ∀ e ∈ n.ents, tis t e.2 = true) ∧
  ∀ k : Nat, k < t.length → ((tget t (k + 1)).kind = 2 → 0 < k → linkT t (k + 1) = 1 ∧ ∃ m, itr (parF t) m (k + 1) = 1) ∧
    ((tget t (k + 1)).kind = 1 ∨ (tget t (k + 1)).kind = 3 → linkT t (k + 1) = 0 → ((k : Int) + 1) ∈ op)
theorem tree_root {t : List Nd} (h : okT t) {L k : Nat} (hL : t.length ≤ L) (hk : k < t.length) : (∃ m, itr (parF t) m (k + 1) = 1) ↔ rootT (parF t) L (k + 1) = true := by
  constructor
  · rintro ⟨m, hm⟩
    obtain ⟨a, h1, h2⟩ := root_bound (L := t.length) (parF_zero h) (parF_le t) (i := (k : Int) + 1) ⟨by omega, by omega⟩ hm
    exact root_iff.2 ⟨a, by omega, h2⟩
  · intro q
    obtain ⟨m, _, h2⟩ := root_iff.1 q
    exact ⟨m, h2⟩
end Go.Proofs.YtilepnepcamnaaaGreat
namespace Go.Proofs.YtilepnepcamnaaaGreat
open Go Go.RowKit
set_option maxRecDepth 100000

theorem tis_in {t : List Nd} {i : Int} (h : tis t i = true) : 1 ≤ i ∧ i ≤ t.length := by
  by_cases q : 1 ≤ i ∧ i ≤ t.length
  · exact q
  · rw [tis, tget_out q] at h
    exact absurd rfl (of_decide_eq_true h)
theorem tis_set {t : List Nd} {i j : Int} {n : Nd} (h : 1 ≤ i ∧ i ≤ t.length) : tis (setT t i n) j = if j = i then decide (n.kind ≠ 0) else tis t j := by
  unfold tis
  rw [tget_set h]
  split <;> rfl
theorem used_setT {t : List Nd} {i : Int} (h : 1 ≤ i ∧ i ≤ t.length) (n : Nd) : usedT (setT t i n) + (if tis t i = true then 1 else 0) = usedT t + if n.kind ≠ 0 then 1 else 0 := by
  have hk : (i - 1).toNat < t.length := by omega
  have h1 := used_set hk n
  have h2 := tget_at hk
  rw [show (((i - 1).toNat : Nat) : Int) + 1 = i by omega] at h2
  unfold tis setT
  rw [h2]
  simp only [decide_eq_true_eq]
  exact h1
/-- A node that is added: its number is the least one that is free. -/
theorem free_is {t : List Nd} (h : freeT t 0 ≠ 0) : (1 ≤ (freeT t 0 : Int) ∧ (freeT t 0 : Int) ≤ t.length) ∧ tis t (freeT t 0) = false ∧ ∀ j : Int, 1 ≤ j → j < freeT t 0 → tis t j = true := by
  obtain ⟨k, hk, h1, h2, h3⟩ := free_some h
  have e : ((freeT t 0 : Nat) : Int) = (k : Int) + 1 := by omega
  refine ⟨by omega, ?_, fun j hj hj2 => ?_⟩
  · rw [e, tis, tget_at hk]
    exact decide_eq_false (fun q => q h2)
  · have hl : (j - 1).toNat < k := by omega
    have e2 : j = (((j - 1).toNat : Nat) : Int) + 1 := by omega
    rw [e2, tis, tget_at (by omega)]
    exact decide_eq_true (h3 _ hl)
theorem used_add {t : List Nd} (h : freeT t 0 ≠ 0) {n : Nd} (hn : rightP n) : usedT (setT t (freeT t 0) n) = usedT t + 1 := by
  obtain ⟨h1, h2, _⟩ := free_is h
  have := used_setT h1 n
  rw [if_neg (by rw [h2]; exact Bool.false_ne_true), if_pos (right_kind hn)] at this
  exact this
theorem used_drop {t : List Nd} {i : Int} (h : tis t i = true) : usedT (setT t i Nd.zero) + 1 = usedT t := by
  have := used_setT (tis_in h) Nd.zero
  rw [if_pos h, if_neg (fun q => q rfl)] at this
  exact this
theorem used_put {t : List Nd} {i : Int} (h : tis t i = true) {n : Nd} (hn : rightP n) : usedT (setT t i n) = usedT t := by
  have := used_setT (tis_in h) n
  rw [if_pos h, if_pos (right_kind hn)] at this
  omega
theorem used_le (t : List Nd) : usedT t ≤ t.length := List.countP_le_length
theorem used_new (r : Nat) : usedT (List.replicate r Nd.zero) = 0 := by
  unfold usedT
  refine List.countP_eq_zero.2 (fun n hn => ?_)
  rw [List.eq_of_mem_replicate hn]
  exact fun q => of_decide_eq_true q rfl
theorem tget_new (r : Nat) (i : Int) : tget (List.replicate r Nd.zero) i = Nd.zero := by
  rcases (show (1 ≤ i ∧ i ≤ (List.replicate r Nd.zero).length) ∨ ¬ (1 ≤ i ∧ i ≤ (List.replicate r Nd.zero).length) from Classical.em _) with q | q
  · have e : i = (((i - 1).toNat : Nat) : Int) + 1 := by omega
    rw [e, tget_at (by omega), List.getElem_replicate]
  · exact tget_out q
theorem tis_new (r : Nat) (i : Int) : tis (List.replicate r Nd.zero) i = false := by
  rw [tis, tget_new]
  rfl
/-- One act: 0 puts, 1 adds, another one drops; r: may the node be? -/
def actT (t : List Nd) (d i : Int) (n : Nd) (r : Bool) : List Nd :=
  if d = 0 then (if tis t i = true ∧ r = true then setT t i n else t)
  else if d = 1 then (if r = true ∧ freeT t 0 ≠ 0 then setT t (freeT t 0) n else t)
  else if tis t i = true then setT t i Nd.zero else t
theorem ok_setT {t : List Nd} (h : okT t) (i : Int) {n : Nd} (hn : n = Nd.zero ∨ rightP n) : okT (setT t i n) := ok_set h _ hn
theorem ok_act {t : List Nd} (h : okT t) {d i : Int} {n : Nd} {r : Bool} (hr : r = true → rightP n) : okT (actT t d i n r) := by
  unfold actT
  repeat' split
  · rename_i q; exact ok_setT h i (Or.inr (hr q.2))
  · exact h
  · rename_i q; exact ok_setT h _ (Or.inr (hr q.1))
  · exact h
  · exact ok_setT h i (Or.inl rfl)
  · exact h
theorem len_act (t : List Nd) (d i : Int) (n : Nd) (r : Bool) : (actT t d i n r).length = t.length := by
  unfold actT
  repeat' split
  all_goals first | exact len_setT .. | rfl
/-- Two tables are the same, by number. -/
def sameT (t u : List Nd) : Prop := ∀ i : Int, tget t i = tget u i
theorem same_24 {t u : List Nd} (ht : t.length ≤ 24) (hu : u.length ≤ 24) : sameT t u ↔ ∀ k : Nat, k < 24 → tget t (k + 1) = tget u (k + 1) := by
  constructor
  · intro h k _; exact h _
  · intro h i
    by_cases q : 1 ≤ i ∧ i ≤ 24
    · have := h (i - 1).toNat (by omega)
      rwa [show (((i - 1).toNat : Nat) : Int) + 1 = i by omega] at this
    · rw [tget_out (by omega), tget_out (by omega)]
/-- Flags of what is used, as TableLeast keeps them. -/
def flagT (t : List Nd) (k : Nat) : Bool := tis t k
theorem flag_add {t : List Nd} (h : freeT t 0 ≠ 0) {n : Nd} (hn : rightP n) (k : Nat) : flagT (setT t (freeT t 0) n) k = if k = freeT t 0 then true else flagT t k := by
  unfold flagT
  rw [tis_set (free_is h).1]
  by_cases q : k = freeT t 0
  · rw [if_pos (by rw [q]), if_pos q]; exact decide_eq_true (right_kind hn)
  · rw [if_neg (by omega), if_neg q]
theorem flag_drop {t : List Nd} {i : Int} (h : tis t i = true) (k : Nat) : flagT (setT t i Nd.zero) k = if (k : Int) = i then false else flagT t k := by
  unfold flagT
  rw [tis_set (tis_in h)]
  split
  · rfl
  · rfl
end Go.Proofs.YtilepnepcamnaaaGreat
